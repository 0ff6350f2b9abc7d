import PyProof.Rows.All
import Wide.All
import OpenK.KSplit
import OpenK.KApp
import KE.RegKMod
import KE.KJoinElse
import KE.KTops
import KE.RegKSuper
import KE.RegLcAnyAll
import KE.KCells
import KE.KPassesOwn
import KE.KNestStore
import KE.KStopIter
import KE.RegKBase
import KE.KDictOne
import KE.KxDecode
import KE.RegKMathGB
import KE.KNestM
import KE.KDflt
import KE.KOwnIterCall
import KE.KSortedM
import KE.KxLen
import KE.RegKMathGC
import KE.KIsClose
import KE.KDisp
import KE.KSetIn
import KE.KRevSl
import KE.KEqDeep
import KE.KAnyBase
import KE.KWhile
import KE.KRevIter
import KE.KTreeR
import KE.KxStill
import KE.KFinally
import KE.KTopLam
import KE.KWithOwn
import KE.KOpsOwn
import KE.KDictNew
import KE.KWhileD
import KE.KSumEnd
import KE.KPopAny
import KE.KGrown
import KE.KItemAt
import KE.KTextLit
import KE.KTupDict
import KE.KFmtOwn
import KE.KMinKey
import KE.KExtendNil
import KE.KMethU
import KE.KDictAnyTail
import KE.RegKStar
import KE.RegKTupTruth
import KE.RegKTupSum
import KE.KMethJoin
import KE.KPathRangeEnd
import KE.RegKParC
import KE.KxAffix
import KE.KxField
import KE.RegKMatchCls
import KE.KLcPair
import KE.KJoinL
import KE.RegKNeg
import KE.KxPercentT
import KE.KBytesCut
import KE.KCompIf
import KE.KxFormat
import KE.KTypeName
import KE.KCompText
import KE.BytesMulAny
import KE.KSortTup
import KE.KPairAssign
import KE.KTypeOf
import KE.KMulAny
import KE.KBytesMenu
import KE.KTextDict
import KE.KPathShort
import KE.KSplitRange
import KE.KKinds
import KE.KxPart
import KE.KRangeItem
import KE.KRangeNest
import KE.KSetAt
import KE.KxTruthy
import KE.KPairRows
import KE.KBytesMore
import KE.KRangePlain
import KE.KBitsMul
import KE.KTextTable
import KE.KForList
import KE.KIdxIf
import KE.KAssignIn
import KE.KFirstTurn
import KE.KOwnRange
import KE.KLooksOwn
import KE.KDictWord
import KE.KTurnsGround
import KE.KFinFacts
import KE.RegKTryOn
import KE.KCenter
import KE.KStrWords
import KE.KStateTextK
import KE.KStateWGiven
import KE.KCallTup
import KE.KTreeF
import KE.KEndWord
import KE.KStateBytes
import KE.KRangeEnd
import KE.KOf
import KE.KRepItem
import KE.KListLetter
import KE.KSliceSign
import KE.KToBytes
import KE.KPathText
import KE.KMinBuiltin
import KE.KFromBytes
import KE.KEqDat
import KE.KBytesUnr
import KE.KIsBytes
import KE.KCallRec
import KE.KEndW
import KE.RegLGeC
import Wide.FinOn
import PySem.Challenge.RW_toll_k13_trees_walked
set_option Elab.async false
set_option linter.all false
set_option maxRecDepth 100000
set_option maxHeartbeats 8000000
set_option exponentiation.threshold 5000
set_option compiler.extract_closed false
set_option bootstrap.genMatcherCode false
theorem zLa.{u} {α:Type u} {a b:List α}:(a++b).length=a.length+b.length:=List.length_append
theorem zLc.{u} {α:Type u} {x:α} {a:List α}:(x::a).length=a.length+1:=rfl
theorem zLn.{u} {α:Type u}:([]:List α).length=0:=rfl
theorem zLm.{u,v} {α:Type u} {β:Type v} {a:List α} (f:α->β):(a.map f).length=a.length:=List.length_map f
theorem zMa.{u,v} {α:Type u} {β:Type v} {f:α->β} {a b:List α}:(a++b).map f=a.map f++b.map f:=List.map_append
namespace L2
open PySem PySem.Spec PyProof.Rows
noncomputable def wk (s:Stmt):Arguments:=match s with
 | .FunctionDef _ a _ _ _ _ _ _ _ _=>a
 | _=>{ posonlyargs:=[],args:=[],vararg:=none,kwonlyargs:=[],kw_defaults:=[],kwarg:=none,defaults:=[] }
noncomputable def yc (s:Stmt):List Stmt:=match s with
 | .FunctionDef _ _ b _ _ _ _ _ _ _=>b
 | _=>[]
noncomputable def zb (s:Stmt):Scope:=match s with
 | .FunctionDef _ _ _ _ _ _ sc _ _ _=>sc
 | _=>{ kind:=.function,names:=[],isGenerator:=false,isCoroutine:=false }
noncomputable def x6 (s:Stmt) (j:Nat):Stmt:=match s with
 | .ClassDef _ _ _ body _ _ _ _ _ _ _=>body.getD j (.Pass ⟨0,0,0,0⟩)
 | _=>.Pass ⟨0,0,0,0⟩
end L2
namespace K13
open PySem PySem.Spec L2
open PyProof.Rows hiding St
noncomputable def top (i:Nat):Stmt:=PySem.Challenge.pw_toll_k13_trees_walked.main.body.getD i (.Pass ⟨0,0,0,0⟩)
section
open PySem.W PySem.PyData
noncomputable def zE (P:Params) (s:Str) (t:Nat) (v:Value):DictEntry:=⟨keyHash P s,.str s t,v⟩
noncomputable def zG (n q:Str) (s:Stmt) (d c m:Value) (k:Nat):Obj:=⟨.type "function", none,.func (fnOf n q (wk s) (yc s) (zb s) d .none c m none (.ref k) .none),#[]⟩
noncomputable def zF (n:Str) (s:Stmt) (m:Str) (i k:Nat):Obj:=⟨.type "function", none,.func (fnOf n n (wk s) (yc s) (zb s) .none .none .none (.str m i) none (.ref k) .none),#[]⟩
noncomputable def zC (n:Str) (a:Nat) (q:Str) (b c:Nat) (d e f:Int) (g:Nat) (h:Int) (i j k l:Nat) (m o:Int) (p:Nat):Obj:=⟨.type "code", none,.fields #[.str n a,.str q b,.str "/claim/cut.py" c,.int d 0,.int e 0,.int 0 0,.int 0 0,.int f 0,.ref g,.bool true,.int h 0,.ref i,.none,.ref j,.ref k,.ref l,.int m 0,.int o 0,.str "/claim/cut.py" p],#[]⟩
noncomputable def zK (P:Params):Frag:=(nat_lit 2,⟨.none,none,(.dict #[] 0),#[]⟩)::
(nat_lit 3,⟨(.type "dict"),none,(.dict #[zE P "__name__" 165 (.str "law_toll_k13_trees_walked" 493),zE P "__doc__" 166 .none,zE P "__package__" 167 .none,zE P "__loader__" 168 (.builtin "__main__.__loader__#opaque"),zE P "__spec__" 169 .none,zE P "__annotations__" 170 (.ref 6),zE P "__builtins__" 171 (.ref 4),zE P "__file__" 173 (.str "/claim/cut.py" 172),zE P "__cached__" 174 .none,zE P "TollError" 206 (.ref 24),zE P "NoFunction" 222 (.ref 37),zE P "NoValue" 238 (.ref 49),zE P "is_whole" 247 (.ref 58),zE P "function_of" 256 (.ref 65),zE P "fits" 264 (.ref 70),zE P "is_tree" 273 (.ref 77),zE P "size_of" 281 (.ref 84),zE P "nodes_of" 291 (.ref 91),zE P "MOST_CALLS" 295 (.int 20 294),zE P "MOST_SIZE" 297 (.int 100 296),zE P "trace" 309 (.ref 99),zE P "check_args" 315 (.ref 104),zE P "Run" 492 (.ref 234),zE P "_law_cell_at" 502 (.ref 245),zE P "_law_number" 509 (.ref 252),zE P "_law_names" 515 (.ref 257),zE P "_law_tree" 528 (.ref 264),zE P "_law_program" 545 (.ref 271),zE P "_law_turned" 552 (.ref 278),zE P "_law_numbers" 559 (.ref 285),zE P "_law_step" 568 (.ref 292),zE P "_law_begun" 579 (.ref 299),zE P "_law_ended" 588 (.ref 306),zE P "_law_turning" 601 (.ref 313),zE P "_law_laying" 615 (.ref 320),zE P "_law_plain" 624 (.ref 327),zE P "law" 630 (.ref 332)] 37),#[]⟩)::
(nat_lit 15,⟨(.type "tuple"),none,(.seq #[(.type "ValueError")] 0),#[]⟩)::
(nat_lit 22,⟨(.type "tuple"),none,(.seq #[] 0),#[]⟩)::
(nat_lit 23,⟨(.type "dict"),none,(.dict #[zE P "__module__" 196 (.str "toll.errors" 187),zE P "__firstlineno__" 200 (.int 2 199),zE P "__static_attributes__" 201 (.ref 22),zE P "__weakref__" 203 (.ref 25),zE P "__doc__" 204 .none] 3),#[]⟩)::
(nat_lit 24,⟨(.type "type"),none,(.cls ⟨"TollError",[(.type "ValueError")],[(.ref 24),(.type "ValueError"),(.type "Exception"),(.type "BaseException"),(.type "object")],23,"TollError",true,[],[(.ref 37),(.ref 49)],false,none,false⟩),#[(some (.ref 15)),none,(some (.str "TollError" 189)),(some (.str "TollError" 197)),(some (.builtin "ValueError.__new__")),(some (.bool true))]⟩)::
(nat_lit 25,⟨(.type "getset_descriptor"),none,(.fields #[(.str "__weakref__" 202),(.ref 24),(.builtin "ExceptionGroup.__weakref__"),.none]),#[]⟩)::
(nat_lit 28,⟨(.type "tuple"),none,(.seq #[(.ref 24)] 0),#[]⟩)::
(nat_lit 35,⟨(.type "tuple"),none,(.seq #[] 0),#[]⟩)::
(nat_lit 36,⟨(.type "dict"),none,(.dict #[zE P "__module__" 214 (.str "toll.errors" 187),zE P "__firstlineno__" 218 (.int 4 217),zE P "__static_attributes__" 219 (.ref 35),zE P "__doc__" 220 .none] 2),#[]⟩)::
(nat_lit 37,⟨(.type "type"),none,(.cls ⟨"NoFunction",[(.ref 24)],[(.ref 37),(.ref 24),(.type "ValueError"),(.type "Exception"),(.type "BaseException"),(.type "object")],36,"NoFunction",true,[],[],false,none,false⟩),#[(some (.ref 28)),none,(some (.str "NoFunction" 207)),(some (.str "NoFunction" 215)),(some (.builtin "ValueError.__new__")),(some (.bool true))]⟩)::
(nat_lit 40,⟨(.type "tuple"),none,(.seq #[(.ref 24)] 0),#[]⟩)::
(nat_lit 47,⟨(.type "tuple"),none,(.seq #[] 0),#[]⟩)::
(nat_lit 48,⟨(.type "dict"),none,(.dict #[zE P "__module__" 230 (.str "toll.errors" 187),zE P "__firstlineno__" 234 (.int 6 233),zE P "__static_attributes__" 235 (.ref 47),zE P "__doc__" 236 .none] 2),#[]⟩)::
(nat_lit 49,⟨(.type "type"),none,(.cls ⟨"NoValue",[(.ref 24)],[(.ref 49),(.ref 24),(.type "ValueError"),(.type "Exception"),(.type "BaseException"),(.type "object")],48,"NoValue",true,[],[],false,none,false⟩),#[(some (.ref 40)),none,(some (.str "NoValue" 223)),(some (.str "NoValue" 231)),(some (.builtin "ValueError.__new__")),(some (.bool true))]⟩)::
(nat_lit 57,zC "is_whole" 241 "is_whole" 242 243 9 1 3 52 181 53 54 55 56 245 9 246)::
(nat_lit 58,zF "is_whole" (top 5) "toll.programs" 239 57)::
(nat_lit 64,zC "function_of" 248 "function_of" 249 250 11 2 3 59 181 60 61 62 63 254 11 255)::
(nat_lit 65,zF "function_of" (top 6) "toll.programs" 239 64)::
(nat_lit 69,⟨(.type "code"),none,(.fields #[(.str "fits" 259),(.str "fits" 260),(.str "/claim/cut.py" 261),(.int 17 0),(.int 2 0),(.int 0 0),(.int 0 0),(.int 3 0),(.ref 66),(.bool true),(.int 181 0),(.ref 67),.none,.none,.none,(.ref 68),(.int 262 0),(.int 17 0),(.str "/claim/cut.py" 263)]),#[]⟩)::
(nat_lit 70,zF "fits" (top 8) "toll.values" 257 69)::
(nat_lit 76,zC "is_tree" 265 "is_tree" 266 267 23 1 3 71 181 72 73 74 75 271 23 272)::
(nat_lit 77,zF "is_tree" (top 9) "toll.values" 257 76)::
(nat_lit 83,zC "size_of" 274 "size_of" 275 276 33 2 3 78 181 79 80 81 82 279 33 280)::
(nat_lit 84,zF "size_of" (top 10) "toll.values" 257 83)::
(nat_lit 90,zC "nodes_of" 282 "nodes_of" 283 284 39 1 3 85 181 86 87 88 89 289 39 290)::
(nat_lit 91,zF "nodes_of" (top 11) "toll.values" 257 90)::
(nat_lit 92,⟨(.type "tuple"),none,(.seq #[(.int 1000 298)] 0),#[]⟩)::
(nat_lit 98,zC "trace" 299 "trace" 300 301 51 4 3 93 181 94 95 96 97 307 51 308)::
(nat_lit 99,zG "trace" "trace" (top 15) (.ref 92) .none (.str "toll.runs" 292) 98)::
(nat_lit 103,⟨(.type "code"),none,(.fields #[(.str "check_args" 310),(.str "check_args" 311),(.str "/claim/cut.py" 312),(.int 57 0),(.int 2 0),(.int 0 0),(.int 0 0),(.int 3 0),(.ref 100),(.bool true),(.int 181 0),(.ref 101),.none,.none,.none,(.ref 102),(.int 313 0),(.int 57 0),(.str "/claim/cut.py" 314)]),#[]⟩)::
(nat_lit 104,zF "check_args" (top 16) "toll.runs" 292 103)::
(nat_lit 115,⟨(.type "code"),none,(.fields #[(.str "__init__" 328),(.str "Run.__init__" 329),(.str "/claim/cut.py" 330),(.int 65 0),(.int 3 0),(.int 0 0),(.int 0 0),(.int 3 0),(.ref 112),(.bool true),(.int 181 0),(.ref 113),.none,.none,.none,(.ref 114),(.int 331 0),(.int 65 0),(.str "/claim/cut.py" 332)]),#[]⟩)::
(nat_lit 116,zG "__init__" "Run.__init__" (x6 (top 17) 0) .none .none (.str "toll.runs" 292) 115)::
(nat_lit 122,zC "told" 334 "Run.told" 335 336 75 1 3 117 181 118 119 120 121 338 75 339)::
(nat_lit 123,zG "told" "Run.told" (x6 (top 17) 1) .none .none (.str "toll.runs" 292) 122)::
(nat_lit 129,zC "go" 341 "Run.go" 342 343 80 1 3 124 181 125 126 127 128 346 80 347)::
(nat_lit 130,zG "go" "Run.go" (x6 (top 17) 2) .none .none (.str "toll.runs" 292) 129)::
(nat_lit 136,zC "step" 349 "Run.step" 350 351 96 3 3 131 181 132 133 134 135 355 96 356)::
(nat_lit 137,zG "step" "Run.step" (x6 (top 17) 3) .none .none (.str "toll.runs" 292) 136)::
(nat_lit 143,zC "own_step" 358 "Run.own_step" 359 360 103 2 3 138 181 139 140 141 142 363 103 364)::
(nat_lit 144,zG "own_step" "Run.own_step" (x6 (top 17) 4) .none .none (.str "toll.runs" 292) 143)::
(nat_lit 150,zC "standing" 366 "Run.standing" 367 368 106 2 3 145 181 146 147 148 149 371 106 372)::
(nat_lit 151,zG "standing" "Run.standing" (x6 (top 17) 5) .none .none (.str "toll.runs" 292) 150)::
(nat_lit 157,zC "stand" 374 "Run.stand" 375 376 109 3 3 152 181 153 154 155 156 381 109 382)::
(nat_lit 158,zG "stand" "Run.stand" (x6 (top 17) 6) .none .none (.str "toll.runs" 292) 157)::
(nat_lit 164,zC "taken" 384 "Run.taken" 385 386 113 2 3 159 181 160 161 162 163 390 113 391)::
(nat_lit 165,zG "taken" "Run.taken" (x6 (top 17) 7) .none .none (.str "toll.runs" 292) 164)::
(nat_lit 169,⟨(.type "code"),none,(.fields #[(.str "behind" 393),(.str "Run.behind" 394),(.str "/claim/cut.py" 395),(.int 118 0),(.int 3 0),(.int 0 0),(.int 0 0),(.int 3 0),(.ref 166),(.bool true),(.int 181 0),(.ref 167),.none,.none,.none,(.ref 168),(.int 396 0),(.int 118 0),(.str "/claim/cut.py" 397)]),#[]⟩)::
(nat_lit 170,zG "behind" "Run.behind" (x6 (top 17) 8) .none .none (.str "toll.runs" 292) 169)::
(nat_lit 176,zC "begin_body" 399 "Run.begin_body" 400 401 122 2 3 171 181 172 173 174 175 405 122 406)::
(nat_lit 177,zG "begin_body" "Run.begin_body" (x6 (top 17) 9) .none .none (.str "toll.runs" 292) 176)::
(nat_lit 183,zC "follow" 408 "Run.follow" 409 410 133 3 3 178 181 179 180 181 182 415 133 416)::
(nat_lit 184,zG "follow" "Run.follow" (x6 (top 17) 10) .none .none (.str "toll.runs" 292) 183)::
(nat_lit 190,zC "bring" 418 "Run.bring" 419 420 141 2 3 185 181 186 187 188 189 423 141 424)::
(nat_lit 191,zG "bring" "Run.bring" (x6 (top 17) 11) .none .none (.str "toll.runs" 292) 190)::
(nat_lit 197,zC "choose" 426 "Run.choose" 427 428 146 2 3 192 181 193 194 195 196 432 146 433)::
(nat_lit 198,zG "choose" "Run.choose" (x6 (top 17) 12) .none .none (.str "toll.runs" 292) 197)::
(nat_lit 204,zC "begin_value" 435 "Run.begin_value" 436 437 151 2 3 199 181 200 201 202 203 441 151 442)::
(nat_lit 205,zG "begin_value" "Run.begin_value" (x6 (top 17) 13) .none .none (.str "toll.runs" 292) 204)::
(nat_lit 211,zC "apply" 444 "Run.apply" 445 446 166 2 3 206 181 207 208 209 210 451 166 452)::
(nat_lit 212,zG "apply" "Run.apply" (x6 (top 17) 14) .none .none (.str "toll.runs" 292) 211)::
(nat_lit 218,zC "make" 454 "Run.make" 455 456 179 3 3 213 181 214 215 216 217 460 179 461)::
(nat_lit 219,zG "make" "Run.make" (x6 (top 17) 15) .none .none (.str "toll.runs" 292) 218)::
(nat_lit 223,⟨(.type "code"),none,(.fields #[(.str "enter" 463),(.str "Run.enter" 464),(.str "/claim/cut.py" 465),(.int 185 0),(.int 3 0),(.int 0 0),(.int 0 0),(.int 3 0),(.ref 220),(.bool true),(.int 181 0),(.ref 221),.none,.none,.none,(.ref 222),(.int 466 0),(.int 185 0),(.str "/claim/cut.py" 467)]),#[]⟩)::
(nat_lit 224,zG "enter" "Run.enter" (x6 (top 17) 16) .none .none (.str "toll.runs" 292) 223)::
(nat_lit 230,zC "leave" 469 "Run.leave" 470 471 197 1 3 225 181 226 227 228 229 474 197 475)::
(nat_lit 231,zG "leave" "Run.leave" (x6 (top 17) 17) .none .none (.str "toll.runs" 292) 230)::
(nat_lit 232,⟨(.type "tuple"),none,(.seq #[(.str "calls" 477),(.str "frames" 478),(.str "functions" 479),(.str "is_cut" 480),(.str "most" 481),(.str "ready" 482),(.str "steps" 483),(.str "tasks" 484)] 0),#[]⟩)::
(nat_lit 233,⟨(.type "dict"),none,(.dict #[zE P "__module__" 323 (.str "toll.runs" 292),zE P "__firstlineno__" 327 (.int 63 326),zE P "__init__" 333 (.ref 116),zE P "told" 340 (.ref 123),zE P "go" 348 (.ref 130),zE P "step" 357 (.ref 137),zE P "own_step" 365 (.ref 144),zE P "standing" 373 (.ref 151),zE P "stand" 383 (.ref 158),zE P "taken" 392 (.ref 165),zE P "behind" 398 (.ref 170),zE P "begin_body" 407 (.ref 177),zE P "follow" 417 (.ref 184),zE P "bring" 425 (.ref 191),zE P "choose" 434 (.ref 198),zE P "begin_value" 443 (.ref 205),zE P "apply" 453 (.ref 212),zE P "make" 462 (.ref 219),zE P "enter" 468 (.ref 224),zE P "leave" 476 (.ref 231),zE P "__static_attributes__" 485 (.ref 232),zE P "__dict__" 487 (.ref 235),zE P "__weakref__" 489 (.ref 236),zE P "__doc__" 490 .none] 4),#[]⟩)::
(nat_lit 234,⟨(.type "type"),none,(.cls ⟨"Run",[(.type "object")],[(.ref 234),(.type "object")],233,"Run",true,[],[],false,none,false⟩),#[none,none,(some (.str "Run" 316)),(some (.str "Run" 324)),(some (.builtin "object.__new__")),(some (.bool true))]⟩)::
(nat_lit 235,⟨(.type "getset_descriptor"),none,(.fields #[(.str "__dict__" 486),(.ref 234),(.builtin "function.__dict__"),(.builtin "function.__dict__#set")]),#[]⟩)::
(nat_lit 236,⟨(.type "getset_descriptor"),none,(.fields #[(.str "__weakref__" 488),(.ref 234),(.builtin "ExceptionGroup.__weakref__"),.none]),#[]⟩)::
(nat_lit 244,zC "_law_cell_at" 495 "_law_cell_at" 496 497 201 2 3 239 181 240 241 242 243 500 201 501)::
(nat_lit 245,zF "_law_cell_at" (top 19) "law_toll_k13_trees_walked" 493 244)::
(nat_lit 251,zC "_law_number" 503 "_law_number" 504 505 205 1 3 246 181 247 248 249 250 507 205 508)::
(nat_lit 252,zF "_law_number" (top 20) "law_toll_k13_trees_walked" 493 251)::
(nat_lit 256,⟨(.type "code"),none,(.fields #[(.str "_law_names" 510),(.str "_law_names" 511),(.str "/claim/cut.py" 512),(.int 207 0),(.int 2 0),(.int 0 0),(.int 0 0),(.int 3 0),(.ref 253),(.bool true),(.int 181 0),(.ref 254),.none,.none,.none,(.ref 255),(.int 513 0),(.int 207 0),(.str "/claim/cut.py" 514)]),#[]⟩)::
(nat_lit 257,zF "_law_names" (top 21) "law_toll_k13_trees_walked" 493 256)::
(nat_lit 263,zC "_law_tree" 516 "_law_tree" 517 518 218 1 3 258 181 259 260 261 262 526 218 527)::
(nat_lit 264,zF "_law_tree" (top 22) "law_toll_k13_trees_walked" 493 263)::
(nat_lit 270,zC "_law_program" 529 "_law_program" 530 531 238 2 3 265 181 266 267 268 269 543 238 544)::
(nat_lit 271,zF "_law_program" (top 23) "law_toll_k13_trees_walked" 493 270)::
(nat_lit 277,zC "_law_turned" 546 "_law_turned" 547 548 247 1 3 272 181 273 274 275 276 550 247 551)::
(nat_lit 278,zF "_law_turned" (top 24) "law_toll_k13_trees_walked" 493 277)::
(nat_lit 284,zC "_law_numbers" 553 "_law_numbers" 554 555 251 1 3 279 181 280 281 282 283 557 251 558)::
(nat_lit 285,zF "_law_numbers" (top 25) "law_toll_k13_trees_walked" 493 284)::
(nat_lit 291,zC "_law_step" 560 "_law_step" 561 562 255 3 3 286 181 287 288 289 290 566 255 567)::
(nat_lit 292,zF "_law_step" (top 26) "law_toll_k13_trees_walked" 493 291)::
(nat_lit 298,zC "_law_begun" 569 "_law_begun" 570 571 260 4 3 293 181 294 295 296 297 577 260 578)::
(nat_lit 299,zF "_law_begun" (top 27) "law_toll_k13_trees_walked" 493 298)::
(nat_lit 305,zC "_law_ended" 580 "_law_ended" 581 582 269 3 3 300 181 301 302 303 304 586 269 587)::
(nat_lit 306,zF "_law_ended" (top 28) "law_toll_k13_trees_walked" 493 305)::
(nat_lit 312,zC "_law_turning" 589 "_law_turning" 590 591 275 4 3 307 181 308 309 310 311 599 275 600)::
(nat_lit 313,zF "_law_turning" (top 29) "law_toll_k13_trees_walked" 493 312)::
(nat_lit 319,zC "_law_laying" 602 "_law_laying" 603 604 286 5 3 314 181 315 316 317 318 613 286 614)::
(nat_lit 320,zF "_law_laying" (top 30) "law_toll_k13_trees_walked" 493 319)::
(nat_lit 326,zC "_law_plain" 616 "_law_plain" 617 618 296 1 3 321 181 322 323 324 325 622 296 623)::
(nat_lit 327,zF "_law_plain" (top 31) "law_toll_k13_trees_walked" 493 326)::
(nat_lit 331,⟨(.type "code"),none,(.fields #[(.str "law" 625),(.str "law" 626),(.str "/claim/cut.py" 627),(.int 308 0),(.int 1 0),(.int 0 0),(.int 0 0),(.int 3 0),(.ref 328),(.bool true),(.int 181 0),(.ref 329),.none,.none,.none,(.ref 330),(.int 628 0),(.int 308 0),(.str "/claim/cut.py" 629)]),#[]⟩)::
(nat_lit 332,zF "law" (top 32) "law_toll_k13_trees_walked" 493 331)::[]
noncomputable def zA:List Addr:=2::3::15::22::23::24::25::28::35::36::37::40::47::48::49::57::58::64::65::69::70::76::77::83::84::90::91::92::98::99::103::104::115::116::122::123::129::130::136::137::143::144::150::151::157::158::164::165::169::170::176::177::183::184::190::191::197::198::204::205::211::212::218::219::223::224::230::231::232::233::234::235::236::244::245::251::252::256::257::263::264::270::271::277::278::284::285::291::292::298::299::305::306::312::313::319::320::326::327::331::332::[]
theorem zAK (P:Params):zA=(zK P).map (·.1):=by kernel_rfl
noncomputable def zq:Program:={ PySem.Challenge.pw_toll_k13_trees_walked with main:={ PySem.Challenge.pw_toll_k13_trees_walked.main with body:=[1,2,3,5,6,8,9,10,11,13,14,16,17,19,20,21,22,23,24,25,26,27,28,29,30,31,32].filterMap fun i=>PySem.Challenge.pw_toll_k13_trees_walked.main.body[i]? } }
noncomputable abbrev zX (s:Shared):Bool:=xlAt zq [] s && recOk (RowW.records PySem.Challenge.rw_toll_k13_trees_walked.row.toRowW) s
noncomputable abbrev zP (w:World):Prop:=Option.map (fun s=>(Fast.tw4187177175401517315 zq ["trace"] (Fast.tw5923862056798008813 PySem.Challenge.pw_toll_k13_trees_walked.main.body) zX true s,zA.map s.heap.get?)) (openEnds Fast.tw14364793385576792824 PySem.Challenge.pw_toll_k13_trees_walked w 4380)=some (openGood zq ["trace"],(zK w.params).map fun p=>some p.2)
theorem hl0 (w:World):zP w:=by delta zP openEnds topFrom; rw [Fast.te14082659384304107361]; kernel_rfl
end
end K13
namespace L2
open PySem PySem.Spec PyProof.Rows
noncomputable abbrev Key:=Sum Int Str
noncomputable def Sg:Key->Value->Bool
 | .inl k,v=>Value.isInt k v
 | .inr x,v=>Value.isStrOf x v
noncomputable def keyH (w:World):Key->Int
 | .inl k=>hashInt k
 | .inr x=>hashStr w x
theorem x5:∀ {k:Key} {v:Value},Sg k v=true->(∃ i t,k=Sum.inl i /\ v=Value.int i t) \/ (∃ x t,k=Sum.inr x /\ v=Value.str x t)
 | .inl i,v,h=>by
  obtain ⟨t,e⟩:=Value.isInt_shape (k:=i) (v:=v) h
  exact .inl ⟨i,t,rfl,e⟩
 | .inr x,v,h=>by
  obtain ⟨t,e⟩:=Value.isStrOf_shape (x:=x) (v:=v) h
  exact .inr ⟨x,t,rfl,e⟩
theorem Qu (i:Int) (t:Tok):Sg (.inl i) (.int i t)=true:=by simp [Sg,Value.isInt]
theorem Qt (x:Str) (t:Tok):Sg (.inr x) (.str x t)=true:=by simp [Sg,Value.isStrOf]
theorem Eu (a b:Int):decide ((Sum.inl a:Key)=Sum.inl b)=(a == b):=by
 by_cases e:a=b
 ·subst e; simp
 ·have h:¬ (Sum.inl a:Key)=Sum.inl b:=fun q=>e (Sum.inl.inj q)
  rw [decide_eq_false h]
  exact (beq_eq_false_iff_ne.mpr e).symm
theorem Er (a b:Str):decide ((Sum.inr a:Key)=Sum.inr b)=decide (a=b):=by
 by_cases e:a=b
 ·subst e; simp
 ·have h:¬ (Sum.inr a:Key)=Sum.inr b:=fun q=>e (Sum.inr.inj q)
  rw [decide_eq_false h,decide_eq_false e]
theorem Et (a:Int) (b:Str):decide ((Sum.inl a:Key)=Sum.inr b)=false:=decide_eq_false (fun q=>nomatch q)
theorem Es (a:Str) (b:Int):decide ((Sum.inr a:Key)=Sum.inl b)=false:=decide_eq_false (fun q=>nomatch q)
noncomputable def yg (prog:Program) (w:World):PySem.KeyKind prog w Key where
 is:=Sg
 hash:=keyH w
 inj:=fun v a b ha hb=>by
  rcases x5 ha with ⟨i,t,rfl,rfl⟩ | ⟨x,t,rfl,rfl⟩
  ·rcases x5 hb with ⟨j,u,rfl,e⟩ | ⟨y,u,rfl,e⟩
   ·injection e with e1 _; rw [e1]
   ·exact nomatch e
  ·rcases x5 hb with ⟨j,u,rfl,e⟩ | ⟨y,u,rfl,e⟩
   ·exact nomatch e
   ·injection e with e1 _; rw [e1]
 byValue:=fun k v h=>by
  rcases x5 h with ⟨i,t,rfl,rfl⟩ | ⟨x,t,rfl,rfl⟩ <;> rfl
 pyHash:=fun hv h=>by
  rcases x5 hv with ⟨i,t,rfl,rfl⟩ | ⟨x,t,rfl,rfl⟩
  ·exact wpAny_pyHash_int h
  ·exact wpAny_pyHash_str h
 eqBool:=fun hu hv h=>by
  rcases x5 hu with ⟨i,t,rfl,rfl⟩ | ⟨x,t,rfl,rfl⟩
  ·rcases x5 hv with ⟨j,u,rfl,rfl⟩ | ⟨y,u,rfl,rfl⟩
   ·rw [Eu] at h; exact wpAny_eqBool_int h
   ·rw [Et] at h; exact SeqAt.EqAt.int_str i t y u _ _ _ _ h
  ·rcases x5 hv with ⟨j,u,rfl,rfl⟩ | ⟨y,u,rfl,rfl⟩
   ·rw [Es] at h; exact SeqAt.EqAt.str_int x t j u _ _ _ _ h
   ·rw [Er] at h; exact wpAny_eqBool_str h
 «strs»:=fun k x t v h=>by
  rcases x5 h with ⟨i,u,rfl,e⟩ | ⟨y,u,rfl,e⟩
  ·exact nomatch e
  ·injection e with e1 _
   subst e1
   cases v <;> rfl
theorem Xq (prog:Program) (w:World) (i:Int) (t:Tok):(yg prog w).is (.inl i) (.int i t)=true:=Qu i t
theorem kg (prog:Program) (w:World) (x:Str) (t:Tok):(yg prog w).is (.inr x) (.str x t)=true:=Qt x t
inductive V where
 | non | bl (b:Bool) | int (i:Int) | str (x:Str) | byt (b:Array UInt8) | flt (b:UInt64) | ref (a:Addr) | ty (n:String)
 deriving DecidableEq
noncomputable def RelV:V->Value->Prop
 | .non,u=>u=Value.none
 | .bl b,u=>u=Value.bool b
 | .int i,u=>∃ t,u=Value.int i t
 | .str x,u=>∃ t,u=Value.str x t
 | .byt b,u=>∃ t,u=Value.bytes b t
 | .flt b,u=>∃ t,u=Value.float b t
 | .ref a,u=>u=Value.ref a
 | .ty n,u=>u=Value.type n
noncomputable abbrev Vals:List V->List Value->Prop:=Paired RelV
theorem Vals.length {xs:List V} {us:List Value} (r:Vals xs us):xs.length=us.length:=Paired.length r
theorem Vals.get:∀ {xs:List V} {us:List Value} {i:Nat} {x:V},Vals xs us->xs[i]?=some x->∃ u,us[i]?=some u /\ RelV x u
 | _,_,_,_,.nil,e=>by simp at e
 | _,_,0,_,.cons r _,e=>by simp at e; subst e; exact ⟨_,rfl,r⟩
 | _,_,i + 1,x,.cons _ t,e=>by
  obtain ⟨u,h1,h2⟩:=Vals.get (i:=i) (x:=x) t (by simpa using e)
  exact ⟨u,by simpa using h1,h2⟩
theorem Vals.set {x:V} {u:Value} (r:RelV x u):∀ {xs:List V} {us:List Value} (i:Nat),Vals xs us->Vals (xs.set i x) (us.set i u)
 | _,_,_,.nil=>.nil
 | _,_,0,.cons _ t=>.cons r t
 | _,_,i + 1,.cons q t=>.cons q (Vals.set r i t)
theorem Vals.append:∀ {xs ys:List V} {us ws:List Value},Vals xs us->Vals ys ws->Vals (xs ++ ys) (us ++ ws)
 | _,_,_,_,.nil,s=>s
 | _,_,_,_,.cons r t,s=>.cons r (Vals.append t s)
theorem Vals.take:∀ {xs:List V} {us:List Value} (n:Nat),Vals xs us->Vals (xs.take n) (us.take n)
 | _,_,0,_=>.nil
 | _,_,_ + 1,.nil=>.nil
 | _,_,n + 1,.cons r t=>.cons r (Vals.take n t)
theorem Vals.drop:∀ {xs:List V} {us:List Value} (n:Nat),Vals xs us->Vals (xs.drop n) (us.drop n)
 | _,_,0,r=>r
 | _,_,_ + 1,.nil=>.nil
 | _,_,n + 1,.cons _ t=>Vals.drop n t
noncomputable def RelO:Option V->Option Value->Prop
 | some v,some u=>RelV v u
 | none,none=>True
 | _,_=>False
noncomputable def KV {κ:Type}:List (κ × V)->List (κ × Value)->Prop:=Paired fun (p:κ × V) (q:κ × Value)=>p.1=q.1 /\ RelV p.2 q.2
noncomputable def kV:Key->V
 | .inl i=>.int i
 | .inr x=>.str x
inductive HO where
  | lst (xs:List V)
  | tup (xs:List V)
  | dK (kvs:List (Key × V)) | dT (kvs:List (List Key × V))
  | set (S:Int->Bool) (n:Nat)
  | ins (C dx:Addr) (fs:List (Str × V))
  | own (x:Addr)
  | xd (fs:List (Str × V))
  | met (f x:Addr)
  | rng (lo hi:Int)
  | frz (o:Obj) (u:HO)
  | tbl (ps:Array Value)
  | ext (φ:Heap->Prop)
noncomputable abbrev Hp:=Addr->Option HO
noncomputable def upd (H:Hp) (a:Addr) (o:HO):Hp:=fun b=>if b=a then some o else H b
theorem zi {H:Hp} {a:Addr} {o:HO}:upd H a o a=some o:=by unfold upd; rw [if_pos rfl]
theorem y0 {H:Hp} {a b:Addr} {o:HO} (h:b ≠ a):upd H a o b=H b:=by unfold upd; rw [if_neg h]
theorem zm {H:Hp} {a b:Addr} {o:HO} (h:H a=some o) (h':H b=none):a ≠ b:=by
 intro e; subst e; rw [h] at h'; cases h'
section
variable (P:Program) (w:World)
noncomputable def wj (H:Hp) (h:Heap) (a:Addr):HO->Prop
 | .lst xs=>xs.length <= sizeLine /\ ∃ (its:List Value) (n:Nat),Vals xs its /\ h.get? a=some { cls:=.type "list", data:=.seq its.toArray n }
 | .tup xs=>xs.length <= sizeLine /\ ∃ its:List Value,Vals xs its /\ IsTup h a its.toArray /\ ∃ o,h.get? a=some o /\ o.dict=none
 | .dK kvs=>kvs.length <= sizeLine /\ (a == sysModules)=false /\ ∃ vs,KV kvs vs /\ h.DictOf (yg P w) a vs
 | .dT kvs=>kvs.length <= sizeLine /\ (a == sysModules)=false /\ ∃ xs:List (List Key × Addr × Value),
   Paired (fun (p:List Key × V) (q:List Key × Addr × Value)=>p.1=q.1 /\ H q.2.1=some (.tup (p.1.map kV)) /\ RelV p.2 q.2.2) kvs xs /\
   ∃ o es ep,h.get? a=some o /\ o.ExactDict /\ o.data=.dict es ep /\ es.toList=xs.map (entryOfKey (tupleKind (yg P w))) /\ (xs.map (·.1)).Nodup
 | .set S n=>h.SetOf (intKind P w) a S n
 | .ins C dx fs=>H dx=some (.own a) /\ fs.length <= 1000 /\ dx ≠ a /\ h.get? a=some (W.instObj C dx) /\
   ∃ mA,h.Ns1 dx mA /\ (∀ f,RelO (fs.lookup f) (mA f)) /\ PySem.Within mA (fs.map (·.1))
 | .own _=>∃ o,h.get? a=some o
 | .xd fs=>∃ mA,h.Ns1 a mA /\ ∀ f,RelO (fs.lookup f) (mA f)
 | .rng lo hi=>∃ t u v,h.get? a=some { cls:=.type "range", data:=.fields #[.int lo t,.int hi u,.int 1 v] }
 | .frz o u=>h.get? a=some o /\ wj H h a u
 | .tbl ps=>h.get? a=some { cls:=.none,data:=.fields ps }
 | .met f x=>h.get? a=some (W.methodObj (.ref f) (.ref x))
 | .ext φ=>φ h /\ (∃ o,h.get? a=some o) /\ ∀ h1 h2:Heap,φ h1->(∀ o,h1.get? a=some o->h2.get? a=some o)->φ h2
noncomputable def HOk (H:Hp) (h:Heap):Prop:=∀ a o,H a=some o->wj P w H h a o
end
section
variable {P:Program} {w:World} {H H':Hp} {h h':Heap} {a:Addr} {o:HO}
theorem wj.lt (x:wj P w H h a o):a < h.objs.size:=by
 cases o with
 | lst xs=>obtain ⟨_,_,_,_,e⟩:=x; exact Heap.lt_size e
 | tup xs=>obtain ⟨_,_,_,p⟩:=x; exact p.1.lt
 | dK kvs=>obtain ⟨_,_,_,_,o,_,_,e,_⟩:=x; exact Heap.lt_size e
 | dT kvs=>obtain ⟨_,_,_,_,o,_,_,e,_⟩:=x; exact Heap.lt_size e
 | set S n=>obtain ⟨o,_,_,_,e,_⟩:=x; exact Heap.lt_size e
 | ins C dx fs=>obtain ⟨_,_,_,e,_⟩:=x; exact Heap.lt_size e
 | own y=>obtain ⟨_,e⟩:=x; exact Heap.lt_size e
 | xd fs=>obtain ⟨_,⟨_,_,_,e,_⟩,_⟩:=x; exact Heap.lt_size e
 | rng lo hi=>obtain ⟨_,_,_,e⟩:=x; exact Heap.lt_size e
 | frz ob u=>obtain ⟨e,_⟩:=x; exact Heap.lt_size e
 | tbl ps=>exact Heap.lt_size (show h.get? a=some _ from x)
 | met f y=>exact Heap.lt_size (show h.get? a=some _ from x)
 | ext φ=>obtain ⟨_,⟨_,e⟩,_⟩:=x; exact Heap.lt_size e
theorem Paired.mapP {α β:Type} {F G:α->β->Prop}:∀ {l₁:List α} {l₂:List β},Paired F l₁ l₂->(∀ a b,F a b->G a b)->Paired G l₁ l₂
 | _,_,.nil,_=>.nil
 | _,_,.cons r t,f=>.cons (f _ _ r) (Paired.mapP t f)
theorem wj.stay (x:wj P w H h a o) (k:∀ b u,(b=a \/ H b=some (.own a))->h.get? b=some u->h'.get? b=some u)
  (ho:∀ b,H b=some (.own a)->H' b=some (.own a)) (ht:∀ b xs,H b=some (.tup xs)->H' b=some (.tup xs)):wj P w H' h' a o:=by
 induction o with
 | lst xs=>obtain ⟨z,its,n,r,e⟩:=x; exact ⟨z,its,n,r,k _ _ (.inl rfl) e⟩
 | tup xs=>obtain ⟨z,its,r,⟨ob,e,c⟩,od,ed,cd⟩:=x; exact ⟨z,its,r,⟨ob,k _ _ (.inl rfl) e,c⟩,od,k _ _ (.inl rfl) ed,cd⟩
 | dK kvs=>obtain ⟨z,y,vs,r,ob,es,ep,e,c⟩:=x; exact ⟨z,y,vs,r,ob,es,ep,k _ _ (.inl rfl) e,c⟩
 | dT kvs =>
  obtain ⟨z,y,xs,r,ob,es,ep,e,c⟩:=x
  exact ⟨z,y,xs,Paired.mapP r fun p q z=>⟨z.1,ht _ _ z.2.1,z.2.2⟩,ob,es,ep,k _ _ (.inl rfl) e,c⟩
 | set S n=>obtain ⟨ob,es,ep,t,e,c⟩:=x; exact ⟨ob,es,ep,t,k _ _ (.inl rfl) e,c⟩
 | ins C dx fs =>
  obtain ⟨d,z,ne,e,mA,⟨od,es,ep,e2,c⟩,r⟩:=x
  exact ⟨ho _ d,z,ne,k _ _ (.inl rfl) e,mA,⟨od,es,ep,k _ _ (.inr d) e2,c⟩,r⟩
 | own y=>obtain ⟨ob,e⟩:=x; exact ⟨ob,k _ _ (.inl rfl) e⟩
 | xd fs=>obtain ⟨mA,⟨od,es,ep,e,c⟩,r⟩:=x; exact ⟨mA,⟨od,es,ep,k _ _ (.inl rfl) e,c⟩,r⟩
 | rng lo hi=>obtain ⟨t,u,v,e⟩:=x; exact ⟨t,u,v,k _ _ (.inl rfl) e⟩
 | frz ob u ih=>obtain ⟨e,q⟩:=x; exact ⟨k _ _ (.inl rfl) e,ih q⟩
 | tbl ps =>
  have e:h.get? a=some { cls:=.none,data:=.fields ps }:=x
  show h'.get? a=some { cls:=.none,data:=.fields ps }
  exact k a _ (.inl rfl) e
 | met f y =>
  have e:h.get? a=some (W.methodObj (.ref f) (.ref y)):=x
  show h'.get? a=some (W.methodObj (.ref f) (.ref y))
  exact k a _ (.inl rfl) e
 | ext φ=>obtain ⟨p,⟨o,e⟩,st⟩:=x; exact ⟨st _ _ p fun o q=>k _ _ (.inl rfl) q,⟨o,k _ _ (.inl rfl) e⟩,st⟩
theorem HOk.lt (x:HOk P w H h) (e:H a=some o):a < h.objs.size:=(x a o e).lt
theorem HOk.fresh (x:HOk P w H h) (e:h.objs.size <= a):H a=none:=by
 cases q:H a with
 | none=>rfl
 | some u=>exact absurd (Nat.lt_of_lt_of_le (x.lt q) e) (Nat.lt_irrefl _)
theorem HOk.kept (x:HOk P w H h) (k:∀ b u,h.get? b=some u->h'.get? b=some u):HOk P w H h':=fun a o e =>
 (x a o e).stay (fun b u _ q=>k b u q) (fun _ q=>q) fun _ _ q=>q
theorem HOk.laid (x:HOk P w H h) (k:∀ b u,h.get? b=some u->h'.get? b=some u) (hp:h.objs.size <= a) (new:wj P w (upd H a o) h' a o):HOk P w (upd H a o) h':=fun b u e=>by
 have hn:=x.fresh hp
 by_cases hb:b=a
 ·subst hb; rw [zi] at e; cases e; exact new
 ·rw [y0 hb] at e
  exact (x b u e).stay (fun c v _ q=>k c v q) (fun c q=>by rw [y0 (zm q hn)]; exact q) fun c xs q=>by rw [y0 (zm q hn)]; exact q
end
noncomputable def Rd (H:Hp) (a:Addr) (u:HO):Prop:=H a=some u \/ ∃ o,H a=some (.frz o u)
theorem Rd.ok {P:Program} {w:World} {H:Hp} {h:Heap} {a:Addr} {u:HO} (r:Rd H a u) (x:HOk P w H h):wj P w H h a u:=by
 rcases r with r | ⟨o,r⟩
 ·exact x a u r
 ·obtain ⟨_,q⟩:=x a _ r
  exact q
noncomputable def Mut:Option HO->Prop
 | some (.lst _)=>True
 | some (.dK _)=>True
 | some (.dT _)=>True
 | some (.set _ _)=>True
 | some (.ins _ _ _)=>True
 | some (.ext _)=>True
 | _=>False
section
variable {P:Program} {w:World} {H:Hp} {h h':Heap} {x e:Addr} {o':HO}
theorem HOk.write (ok:HOk P w H h) (mu:Mut (H x)) (he:e=x \/ H e=some (.own x)) (k:∀ b u,b ≠ e->h.get? b=some u->h'.get? b=some u) (heo:∃ u,h'.get? e=some u)
  (new:wj P w (upd H x o') h' x o'):HOk P w (upd H x o') h':=fun b u q=>by
 have nown:∀ c y,H c=some (.own y)->c ≠ x:=fun c y r z=>by subst z; rw [r] at mu; exact mu
 have ntup:∀ c xs,H c=some (.tup xs)->c ≠ x:=fun c xs r z=>by subst z; rw [r] at mu; exact mu
 by_cases hb:b=x
 ·subst hb; rw [zi] at q; cases q; exact new
 ·rw [y0 hb] at q
  by_cases hbe:b=e
  ·have q':H b=some (.own x):=by
    rcases he with z | z
    ·exact absurd (hbe.trans z) hb
    ·rw [hbe]; exact z
   rw [q] at q'; cases q'
   obtain ⟨v,hv⟩:=heo
   exact ⟨v,by rw [hbe]; exact hv⟩
  ·refine (ok b u q).stay (fun c v hc r=>k c v ?_ r) (fun c r=>by rw [y0 (nown c b r)]; exact r) fun c xs r=>by rw [y0 (ntup c xs r)]; exact r
   rcases hc with rfl | hc
   ·exact hbe
   ·rintro rfl
    rcases he with z | z
    ·exact nown c b hc z
    ·rw [hc] at z; cases z; exact hb rfl
end
structure Un (fs ex:List Addr) (H H':Hp) (h h':Heap):Prop where
 keep:∀ b o,h.get? b=some o->H b=none->b ∉ fs->b ∉ ex->h'.get? b=some o
 slot:∀ b o,h.get? b=some o->H b=none->b ∈ fs->b ∉ ex->∃ sl,h'.get? b=some { o with slots:=sl }
 free:∀ b o,h.get? b=some o->H b=none->b ∉ ex->H' b=none
 there:∀ b o,h.get? b=some o->b ∉ ex->∃ o',h'.get? b=some o'
 tups:∀ b xs,H b=some (.tup xs)->H' b=some (.tup xs)
 frzs:∀ b o u,H b=some (.frz o u)->H' b=some (.frz o u)
 tbls:∀ b ps,H b=some (.tbl ps)->∃ more,H' b=some (.tbl (ps ++ more))
section
variable {fs fs' ex ex':List Addr} {H H1 H2:Hp} {h h1 h2 h':Heap} {a x e:Addr} {o:HO}
theorem Un.any (u:Un fs ex H H1 h h1) {b:Addr} {ob:Obj} (q:h.get? b=some ob) (n:H b=none) (hx:b ∉ ex):∃ sl,h1.get? b=some { ob with slots:=sl }:=by
 by_cases hb:b ∈ fs
 ·exact u.slot b ob q n hb hx
 ·exact ⟨ob.slots,u.keep b ob q n hb hx⟩
theorem Un.trans (a:Un fs ex H H1 h h1) (b:Un fs ex H1 H2 h1 h2):Un fs ex H H2 h h2 where
 keep:=fun c ob q n hc hx=>b.keep c ob (a.keep c ob q n hc hx) (a.free c ob q n hx) hc hx
 slot:=fun c ob q n hc hx=>by
  obtain ⟨sl,e1⟩:=a.slot c ob q n hc hx
  obtain ⟨sl',e2⟩:=b.slot c _ e1 (a.free c ob q n hx) hc hx
  exact ⟨sl',e2⟩
 free:=fun c ob q n hx=>by
  obtain ⟨o',e1⟩:=a.there c ob q hx
  exact b.free c o' e1 (a.free c ob q n hx) hx
 there:=fun c ob q hx=>by
  obtain ⟨o',e1⟩:=a.there c ob q hx
  exact b.there c o' e1 hx
 tups:=fun c xs q=>b.tups c xs (a.tups c xs q)
 frzs:=fun c ob xs q=>b.frzs c ob xs (a.frzs c ob xs q)
 tbls:=fun c ps q=>by
  obtain ⟨m1,e1⟩:=a.tbls c ps q
  obtain ⟨m2,e2⟩:=b.tbls c _ e1
  exact ⟨m1 ++ m2,by rw [e2,Array.append_assoc]⟩
theorem Un.kept (k:∀ b u,h.get? b=some u->h'.get? b=some u):Un fs ex H H h h' :=
 ⟨fun b ob q _ _ _=>k b ob q,fun b ob q _ _ _=>⟨ob.slots,k b ob q⟩,fun _ _ _ n _=>n,fun b ob q _=>⟨ob,k b ob q⟩,fun _ _ q=>q,fun _ _ _ q=>q,fun _ ps q=>⟨#[],by rw [q]; simp⟩⟩
theorem Un.refl:Un fs ex H H h h:=Un.kept fun _ _ q=>q
theorem Un.laid (k:∀ b u,h.get? b=some u->h'.get? b=some u) (hp:h.objs.size <= a) (hn:H a=none):Un fs ex H (upd H a o) h h' where
 keep:=fun b u q _ _ _=>k b u q
 slot:=fun b u q _ _ _=>⟨u.slots,k b u q⟩
 free:=fun b u q n _=>by rw [y0 (Nat.ne_of_lt (Nat.lt_of_lt_of_le (Heap.lt_size q) hp))]; exact n
 there:=fun b u q _=>⟨u,k b u q⟩
 tups:=fun b xs q=>by rw [y0 (zm q hn)]; exact q
 frzs:=fun b u xs q=>by rw [y0 (zm q hn)]; exact q
 tbls:=fun b ps q=>⟨#[],by rw [y0 (zm q hn),q]; simp⟩
theorem Un.write (mu:Mut (H x)) (he:e=x \/ H e=some (.own x)) (k:∀ b u,b ≠ e->h.get? b=some u->h'.get? b=some u) (heo:∃ u,h'.get? e=some u):Un fs ex H (upd H x o) h h':=by
 have hx:∀ b,H b=none->b ≠ x:=fun b n z=>by subst z; rw [n] at mu; exact mu
 have hb:∀ b,H b=none->b ≠ e:=fun b n z=>by
  subst z
  rcases he with r | r
  ·exact hx b n r
  ·rw [n] at r; cases r
 have hm:∀ b u,H b=some u->¬ Mut (some u)->b ≠ x:=fun b u q nm z=>by subst z; rw [q] at mu; exact nm mu
 refine ⟨fun b u q n _ _=>k b u (hb b n) q,fun b u q n _ _=>⟨u.slots,k b u (hb b n) q⟩,fun b u q n _=>by rw [y0 (hx b n)]; exact n,fun b u q _=>?_,
  fun b xs q=>by rw [y0 (hm b _ q fun z=>z)]; exact q,fun b u xs q=>by rw [y0 (hm b _ q fun z=>z)]; exact q,fun b ps q=>⟨#[],by rw [y0 (hm b _ q fun z=>z),q]; simp⟩⟩
 by_cases hbe:b=e
 ·subst hbe; exact heo
 ·exact ⟨u,k b u hbe q⟩
end
noncomputable def trk (h:Heap) (H:Hp):List Addr:=(List.range h.objs.size).filter fun a=>(H a).isSome
noncomputable def hidT (h:Heap) (H:Hp):Heap:=W.hideAll h (trk h H)
theorem Qx (h:Heap) (H:Hp):(hidT h H).objs.size=h.objs.size:=W.hideAll_size _ _
theorem Nw {h:Heap} {H:Hp} {b:Addr} {o:Obj} (e:h.get? b=some o) (n:H b=none):(hidT h H).get? b=some o :=
 W.hideAll_get _ e fun hm=>by
  have q:(H b).isSome=true:=(List.mem_filter.mp hm).2
  rw [n] at q; simp at q
theorem Jl {h:Heap} {H:Hp} {b:Addr} {o:Obj} (e:(hidT h H).get? b=some o):h.get? b=some o /\ H b=none:=by
 have e':h.get? b=some o:=W.of_hideAll (trk h H) e
 refine ⟨e',?_⟩
 cases q:H b with
 | none=>rfl
 | some x =>
  have hm:b ∈ trk h H:=List.mem_filter.mpr ⟨List.mem_range.mpr (Heap.lt_size e'),by simp [q]⟩
  have z:(hidT h H).get? b=none:=W.hideAll_none (trk h H) hm
  rw [z] at e; cases e
structure Mod (K:W.Frag) (mg:Str->Option Value) (base:Heap):Prop where
 kin:K.In base
 glob:base.Ns mainGlobals mg
 blt:∃ mb,base.Ns builtinsNs mb /\ ∀ x:Str,x ≠ "__name__"->mb x=bootBuiltins x
 nolimit:base.NoLimit
structure Cx where
 prog:Program
 w:World
 K:W.Frag
 mg:Str->Option Value
 base:Heap
 A:Around
 N:List Str
 s₀:Shared
 H₀:Hp
 env:Env
 outer:List Env
 stack:List Env
 ex:List Addr
 fn:Str->Bool
 calm:Bool
 pn:List (Addr × Obj)
 xe:Value->Shared->Prop
noncomputable def frs (l:List Env):List Addr:=l.filterMap (·.frame)
noncomputable abbrev Cx.fs (X:Cx):List Addr:=frs X.outer
noncomputable def Vis (sc:Scope) (x:Str):Prop:=sc.names.lookup x=some .local \/ sc.names.lookup x=some .cell \/ sc.names.lookup x=some .free
noncomputable def Loc (sc:Scope) (x:Str):Prop:=sc.names.lookup x=some .local \/ sc.names.lookup x=some .cell
noncomputable def Look (env:Env) (h:Heap) (m:Str->Option Value) (x:Str) (u:Value):Prop :=
 (env.kindOf x=some .local /\ m x=some u) \/ ((env.kindOf x=some .cell \/ env.kindOf x=some .free) /\ ∃ c,env.cells.lookup x=some c /\ h.IsCell c (some u))
structure Cx.Ok (X:Cx):Prop where
 mod:Mod X.K X.mg X.base
 kind:X.env.scope.kind=.function
 glob:X.env.globals=mainGlobals
 blt:X.env.builtins=builtinsNs
 above:X.s₀.heap.objs.size <= X.env.locals
 inj:∀ x y c,X.env.cells.lookup x=some c->X.env.cells.lookup y=some c->x=y
 has:∀ x,(X.env.kindOf x=some .cell \/ X.env.kindOf x=some .free)->∃ c,X.env.cells.lookup x=some c
 cab:∀ x c,X.fn x=true->X.env.cells.lookup x=some c->X.s₀.heap.objs.size <= c
 hd:X.calm=true->X.A.handled=none
 frames:X.A.frames=some X.stack
 stk:X.stack=X.outer \/ (X.stack=X.env :: X.outer /\ X.env.frame=some X.env.locals)
 exf:∀ b ∈ X.ex,b ≠ X.env.locals /\ ∀ x c,X.env.cells.lookup x=some c->c ≠ b
 bs:∀ b o,X.base.get? b=some o->X.s₀.heap.get? b=some o /\ X.H₀ b=none
 bsz:X.base.objs.size <= X.s₀.heap.objs.size
 noex:∀ b o,X.base.get? b=some o->b ∉ X.ex
 exfs:∀ b ∈ X.ex,b ∉ X.fs
 funs:X.s₀.heap.FunFrames X.base X.outer
 frf:∀ b ∈ X.fs,X.H₀ b=none
structure Inv (X:Cx) (pn:List (Addr × Obj)) (σ:List (Option V)) (H:Hp) (s:Shared):Prop where
 ok:X.Ok
 os:s.os=X.s₀.os
 bare:AllBare s.gens
 base:Un X.fs X.ex X.H₀ H X.s₀.heap s.heap
 loc:∃ m,s.heap.Ns X.env.locals m /\ ∀ (i:Nat) (x:Str) (v:V),X.N[i]?=some x->σ[i]?=some (some v)->Vis X.env.scope x->∃ u,RelV v u /\ Look X.env s.heap m x u
 cell:∀ x c,X.env.cells.lookup x=some c->∃ v,s.heap.IsCell c v
 free:H X.env.locals=none
 freeC:∀ x c,X.env.cells.lookup x=some c->H c=none
 pin:∀ p ∈ X.pn ++ pn,s.heap.get? p.1=some p.2 /\ H p.1=none /\ p.1 ≠ X.env.locals /\ p.1 ∉ X.fs /\ ∀ v,p.2.data ≠ .cell v
 hok:HOk X.prog X.w H s.heap
 len:σ.length=X.N.length
section
variable {X:Cx} {pn:List (Addr × Obj)} {σ:List (Option V)} {H H':Hp} {s:Shared} {h':Heap}
theorem Cx.Ok.nofr (ok:X.Ok) {b:Addr} {o:Obj} (e:X.base.get? b=some o):b ∉ X.fs:=fun hb=>by
 have:=(ok.funs.mem hb).1
 rw [e] at this; cases this
theorem Inv.bs (I:Inv X pn σ H s):∀ b o,X.base.get? b=some o->s.heap.get? b=some o /\ H b=none:=fun b o e =>
 ⟨I.base.keep b o (I.ok.bs b o e).1 (I.ok.bs b o e).2 (I.ok.nofr e) (I.ok.noex b o e),I.base.free b o (I.ok.bs b o e).1 (I.ok.bs b o e).2 (I.ok.noex b o e)⟩
theorem Inv.bk (I:Inv X pn σ H s):∀ b o,X.base.get? b=some o->s.heap.get? b=some o:=fun b o e=>(I.bs b o e).1
theorem Inv.mod (I:Inv X pn σ H s):Mod X.K X.mg X.base:=I.ok.mod
theorem Inv.kIn (I:Inv X pn σ H s):X.K.In s.heap:=I.ok.mod.kin.keeps I.bk
theorem Inv.lt (I:Inv X pn σ H s):X.env.locals < s.heap.objs.size:=let ⟨_,hn,_⟩:=I.loc; hn.lt
theorem Inv.sz (I:Inv X pn σ H s):X.s₀.heap.objs.size <= s.heap.objs.size:=Nat.le_trans I.ok.above (Nat.le_of_lt I.lt)
theorem Inv.nofs (I:Inv X pn σ H s) {a:Addr} (h:s.heap.objs.size <= a):a ∉ X.fs:=fun hb=>by
 obtain ⟨_,o,ho,_⟩:=I.ok.funs.mem hb
 exact absurd (Nat.lt_of_lt_of_le (Heap.lt_size ho) (Nat.le_trans I.sz h)) (Nat.lt_irrefl _)
theorem Inv.cne (I:Inv X pn σ H s):∀ x c,X.env.cells.lookup x=some c->c ≠ X.env.locals:=fun x c e z=>by
 obtain ⟨v,o,ho,hd⟩:=I.cell x c e
 obtain ⟨m,⟨o',es,ep,ho',hd',_⟩,_⟩:=I.loc
 rw [z,ho'] at ho; cases ho; rw [hd'] at hd; cases hd
theorem Inv.funs (I:Inv X pn σ H s):s.heap.FunFrames X.base X.outer:=by
 have all:∀ (l:List Env),(∀ b ∈ frs l,b ∈ X.fs)->X.s₀.heap.FunFrames X.base l->s.heap.FunFrames X.base l:=by
  intro l
  induction l with
  | nil=>intro _ _; trivial
  | cons env r ih =>
   intro hs hl
   obtain ⟨hk,⟨L,o,hf,hn,ho,hd⟩,hr⟩:=hl
   have hL:L ∈ X.fs:=hs L (by unfold frs; rw [List.filterMap_cons,hf]; exact List.mem_cons_self)
   obtain ⟨sl,e⟩:=I.base.slot L o ho (I.ok.frf L hL) hL fun z=>I.ok.exfs L z hL
   exact ⟨hk,⟨L,_,hf,hn,e,hd⟩,ih (fun b hb=>hs b (by unfold frs; rw [List.filterMap_cons,hf]; exact List.mem_cons_of_mem _ hb)) hr⟩
 exact all X.outer (fun _ hb=>hb) I.ok.funs
theorem Inv.stack (I:Inv X pn σ H s):s.heap.FunFrames X.base X.stack:=by
 rcases I.ok.stk with e | ⟨e,hf⟩
 ·rw [e]; exact I.funs
 ·rw [e]
  obtain ⟨m,hn,_⟩:=I.loc
  refine .cons (by rw [I.ok.kind]; decide) hf hn ?_ I.funs
  exact Heap.get?_none_of_le (Nat.le_trans I.ok.bsz I.ok.above)
theorem Inv.stkSub (I:Inv X pn σ H s):∀ b ∈ frs X.stack,b ∈ X.env.locals :: X.fs:=fun b hb=>by
 rcases I.ok.stk with e | ⟨e,hf⟩
 ·rw [e] at hb; exact List.mem_cons_of_mem _ hb
 ·rw [e] at hb
  unfold frs at hb
  rw [List.filterMap_cons,hf] at hb
  exact hb
theorem Inv.stkFree (I:Inv X pn σ H s):∀ b ∈ frs X.stack,H b=none:=fun b hb=>by
 rcases List.mem_cons.mp (I.stkSub b hb) with e | hb
 ·rw [e]; exact I.free
 ·obtain ⟨_,o,ho,_⟩:=I.ok.funs.mem hb
  exact I.base.free b o ho (I.ok.frf b hb) fun z=>I.ok.exfs b z hb
theorem Inv.step {g':Array GenState} {t':Nat} {d':Drawn} {ch:List Addr} (I:Inv X pn σ H s)
  (hch:∀ b ∈ ch,(b ∈ X.ex \/ X.s₀.heap.objs.size <= b) /\ b ≠ X.env.locals /\ (∀ x c,X.env.cells.lookup x=some c->c ≠ b) /\ ∀ p ∈ X.pn ++ pn,p.1 ≠ b)
  (keep:∀ b o,b ≠ X.env.locals->b ∉ X.fs->b ∉ ch->s.heap.get? b=some o->H b=none->h'.get? b=some o)
  (slot:∀ b o,b ≠ X.env.locals->b ∈ X.fs->b ∉ ch->s.heap.get? b=some o->H b=none->∃ sl,h'.get? b=some { o with slots:=sl }) (free:∀ b o,b ∉ ch->s.heap.get? b=some o->H b=none->H' b=none)
  (there:∀ b o,b ∉ ch->s.heap.get? b=some o->∃ o',h'.get? b=some o')
  (tups:∀ b xs,H b=some (.tup xs)->H' b=some (.tup xs)) (frzs:∀ b o u,H b=some (.frz o u)->H' b=some (.frz o u)) (tbls:∀ b ps,H b=some (.tbl ps)->∃ more,H' b=some (.tbl (ps ++ more)))
  (ns:∀ m,s.heap.Ns X.env.locals m->h'.Ns X.env.locals m) (hok:HOk X.prog X.w H' h') (hg:AllBare g') :
  Inv X pn σ H' { s with heap:=h',gens:=g',drawn:=d',toks:=t' }:=by
 have neL:∀ b o,X.s₀.heap.get? b=some o->b ≠ X.env.locals:=fun b o e=>Nat.ne_of_lt (Nat.lt_of_lt_of_le (Heap.lt_size e) I.ok.above)
 have neC:∀ b o,X.s₀.heap.get? b=some o->b ∉ X.ex->b ∉ ch:=fun b o e hx hb=>by
  rcases (hch b hb).1 with z | z
  ·exact hx z
  ·exact absurd (Nat.lt_of_lt_of_le (Heap.lt_size e) z) (Nat.lt_irrefl _)
 have cellK:∀ x c,X.env.cells.lookup x=some c->∀ v,s.heap.IsCell c v->h'.IsCell c v:=fun x c e v ⟨o,ho,hd⟩=>by
  have nch:c ∉ ch:=fun z=>(hch c z).2.2.1 x c e rfl
  by_cases hc:c ∈ X.fs
  ·obtain ⟨sl,q⟩:=slot c o (I.cne x c e) hc nch ho (I.freeC x c e)
   exact ⟨_,q,hd⟩
  ·exact ⟨o,keep c o (I.cne x c e) hc nch ho (I.freeC x c e),hd⟩
 refine ⟨I.ok,I.os,hg,⟨fun b o e n hb hx=>?_,fun b o e n hb hx=>?_,fun b o e n hx=>?_,fun b o e hx=>?_,fun b xs e=>tups b xs (I.base.tups b xs e),fun b o xs e=>frzs b o xs (I.base.frzs b o xs e),fun b ps e=>?_⟩,?_,fun x c e=>?_,?_,fun x c e=>?_,fun p hp=>?_,hok,I.len⟩
 ·exact keep b o (neL b o e) hb (neC b o e hx) (I.base.keep b o e n hb hx) (I.base.free b o e n hx)
 ·obtain ⟨sl,e1⟩:=I.base.slot b o e n hb hx
  obtain ⟨sl',e2⟩:=slot b _ (neL b o e) hb (neC b o e hx) e1 (I.base.free b o e n hx)
  exact ⟨sl',e2⟩
 ·obtain ⟨o',e1⟩:=I.base.there b o e hx
  exact free b o' (neC b o e hx) e1 (I.base.free b o e n hx)
 ·obtain ⟨o',e1⟩:=I.base.there b o e hx
  exact there b o' (neC b o e hx) e1
 ·obtain ⟨m1,e1⟩:=I.base.tbls b ps e
  obtain ⟨m2,e2⟩:=tbls b _ e1
  exact ⟨m1 ++ m2,by rw [e2,Array.append_assoc]⟩
 ·obtain ⟨m,hn,hl⟩:=I.loc
  refine ⟨m,ns m hn,fun i x v e1 e2 e3=>?_⟩
  obtain ⟨u,r,l⟩:=hl i x v e1 e2 e3
  refine ⟨u,r,?_⟩
  rcases l with l | ⟨k,c,e,z⟩
  ·exact .inl l
  ·exact .inr ⟨k,c,e,cellK x c e _ z⟩
 ·obtain ⟨v,z⟩:=I.cell x c e
  exact ⟨v,cellK x c e v z⟩
 ·obtain ⟨m,⟨o,_,_,ho,_⟩,_⟩:=I.loc
  exact free _ o (fun z=>(hch _ z).2.1 rfl) ho I.free
 ·obtain ⟨v,o,ho,hd⟩:=I.cell x c e
  exact free c o (fun z=>(hch c z).2.2.1 x c e rfl) ho (I.freeC x c e)
 ·obtain ⟨e,n,ne,nf,d⟩:=I.pin p hp
  have nch:p.1 ∉ ch:=fun z=>(hch p.1 z).2.2.2 p hp rfl
  exact ⟨keep p.1 p.2 ne nf nch e n,free p.1 p.2 nch e n,ne,nf,d⟩
theorem Inv.un {t':Nat} (I:Inv X pn σ H s) (u:Un X.fs [] H H' s.heap h') (hok:HOk X.prog X.w H' h'):Inv X pn σ H' { s with heap:=h',toks:=t' }:=by
 obtain ⟨m,⟨o,es,ep,ho,r⟩,_⟩:=id I.loc
 obtain ⟨sl,hL⟩:=u.any ho I.free (by simp)
 exact I.step (g':=s.gens) (d':=s.drawn) (ch:=[]) (fun _ z=>nomatch z) (fun b o _ hb _ e n=>u.keep b o e n hb (by simp)) (fun b o _ hb _ e n=>u.slot b o e n hb (by simp)) (fun b o _ e n=>u.free b o e n (by simp)) (fun b o _ e=>u.there b o e (by simp)) u.tups u.frzs u.tbls (fun m' hm=>by
  obtain ⟨o',es',ep',ho',r'⟩:=hm
  rw [ho] at ho'; cases ho'
  exact ⟨_,es',ep',hL,r'⟩) hok I.bare
theorem Inv.call {g':Array GenState} {t':Nat} {d':Drawn} {ch:List Addr} (I:Inv X pn σ H s) (u:Un (frs X.stack) ch H H' s.heap h') (hok:HOk X.prog X.w H' h') (hg:AllBare g')
  (hch:∀ b ∈ ch,(b ∈ X.ex \/ X.s₀.heap.objs.size <= b) /\ b ≠ X.env.locals /\ (∀ x c,X.env.cells.lookup x=some c->c ≠ b) /\ ∀ p ∈ X.pn ++ pn,p.1 ≠ b) :
  Inv X pn σ H' { s with heap:=h',gens:=g',drawn:=d',toks:=t' }:=by
 obtain ⟨m,⟨o,es,ep,ho,r⟩,_⟩:=id I.loc
 obtain ⟨sl,hL⟩:=u.any ho I.free fun z=>(hch _ z).2.1 rfl
 exact I.step (ch:=ch) hch (fun b o hL hb hc e n=>u.keep b o e n (fun z=>(List.mem_cons.mp (I.stkSub b z)).elim hL hb) hc) (fun b o _ _ hc e n=>u.any e n hc) (fun b o hc e n=>u.free b o e n hc) (fun b o hc e=>u.there b o e hc) u.tups u.frzs u.tbls (fun m' hm=>by
  obtain ⟨o',es',ep',ho',r'⟩:=hm
  rw [ho] at ho'; cases ho'
  exact ⟨_,es',ep',hL,r'⟩) hok hg
theorem Inv.turned {t':Nat} {it:Addr} (I:Inv X pn σ H s) (k:∀ b o,b ≠ it->s.heap.get? b=some o->h'.get? b=some o) (hn:H it=none) (hL:it ≠ X.env.locals)
  (h1:it ∈ X.ex \/ X.s₀.heap.objs.size <= it) (h2:∀ x c,X.env.cells.lookup x=some c->c ≠ it) (h3:∀ p ∈ X.pn ++ pn,p.1 ≠ it):Inv X pn σ H { s with heap:=h',toks:=t' }:=by
 have nit:∀ b u,H b=some u->b ≠ it:=fun b u e z=>by rw [z,hn] at e; cases e
 refine I.step (g':=s.gens) (d':=s.drawn) (ch:=[it]) (fun b hb=>?_) (fun b o _ _ hc e _=>k b o (fun z=>hc (by simp [z])) e) (fun b o _ _ hc e _=>⟨o.slots,k b o (fun z=>hc (by simp [z])) e⟩) (fun _ _ _ _ n=>n)
  (fun b o hc e=>⟨o,k b o (fun z=>hc (by simp [z])) e⟩) (fun _ _ e=>e) (fun _ _ _ e=>e) (fun b ps e=>⟨#[],by rw [e]; simp⟩) (fun m hm=>?_) (fun b u e=>?_) I.bare
 ·have e:b=it:=by simpa using hb
  subst e
  exact ⟨h1,hL,h2,h3⟩
 ·obtain ⟨o,es,ep,ho,r⟩:=hm
  exact ⟨o,es,ep,k _ o (Ne.symm hL) ho,r⟩
 ·refine (I.hok b u e).stay (fun c v hc q=>k c v ?_ q) (fun _ q=>q) fun _ _ q=>q
  rcases hc with z | z
  ·rw [z]; exact nit b u e
  ·exact nit c _ z
theorem Inv.tok (I:Inv X pn σ H s) (t:Nat):Inv X pn σ H { s with toks:=t }:=I.un (h':=s.heap) (t':=t) Un.refl I.hok
theorem Inv.kept {t':Nat} (I:Inv X pn σ H s) (k:∀ b u,s.heap.get? b=some u->h'.get? b=some u):Inv X pn σ H { s with heap:=h',toks:=t' }:=I.un (Un.kept k) (I.hok.kept k)
theorem Inv.laid {a:Addr} {o:HO} {t':Nat} (I:Inv X pn σ H s) (k:∀ b u,s.heap.get? b=some u->h'.get? b=some u) (hp:s.heap.objs.size <= a) (new:wj X.prog X.w (upd H a o) h' a o) :
  Inv X pn σ (upd H a o) { s with heap:=h',toks:=t' }:=I.un (Un.laid k hp (I.hok.fresh hp)) (I.hok.laid k hp new)
theorem Inv.write {x e:Addr} {o:HO} {t':Nat} (I:Inv X pn σ H s) (mu:Mut (H x)) (he:e=x \/ H e=some (.own x)) (k:∀ b u,b ≠ e->s.heap.get? b=some u->h'.get? b=some u) (heo:∃ u,h'.get? e=some u)
  (new:wj X.prog X.w (upd H x o) h' x o):Inv X pn σ (upd H x o) { s with heap:=h',toks:=t' }:=I.un (Un.write mu he k heo) (I.hok.write mu he k heo new)
theorem Inv.weak {σ':List (Option V)} (I:Inv X pn σ H s) (hl:σ'.length=σ.length) (w:∀ (i:Nat) v,σ'[i]?=some (some v)->σ[i]?=some (some v)):Inv X pn σ' H s :=
 ⟨I.ok,I.os,I.bare,I.base,let ⟨m,hn,hl'⟩:=I.loc; ⟨m,hn,fun i x v e1 e2 e3=>hl' i x v e1 (w i v e2) e3⟩,I.cell,I.free,I.freeC,I.pin,I.hok,hl.trans I.len⟩
theorem Inv.pins_of {pins':List (Addr × Obj)} (I:Inv X pn σ H s) (h:∀ p ∈ pins',s.heap.get? p.1=some p.2 /\ H p.1=none /\ p.1 ≠ X.env.locals /\ p.1 ∉ X.fs /\ ∀ v,p.2.data ≠ .cell v):Inv X pins' σ H s :=
 ⟨I.ok,I.os,I.bare,I.base,I.loc,I.cell,I.free,I.freeC,fun p hp=>(List.mem_append.mp hp).elim (fun z=>I.pin p (List.mem_append_left _ z)) (h p),I.hok,I.len⟩
theorem Ui {N:List Str} (hN:N.Nodup) {i j:Nat} {x:Str} (a:N[i]?=some x) (b:N[j]?=some x):i=j:=by
 obtain ⟨h1,e1⟩:=List.getElem?_eq_some_iff.mp a
 obtain ⟨h2,e2⟩:=List.getElem?_eq_some_iff.mp b
 exact (List.getElem_inj hN).mp (e1.trans e2.symm)
theorem Z5 {M:Model} {A:Around} {E:Value->Shared->Prop} {i:Nat} {x:Str} {v:V} {u:Value} {Q:Unit->Shared->Prop} (I:Inv X pn σ H s) (hN:X.N.Nodup) (hi:X.N[i]?=some x) (hx:Loc X.env.scope x) (r:RelV v u)
  (h:∀ s',Inv X pn (σ.set i (some v)) H s'->(∃ a,Heap.SameBut a s.heap s'.heap /\ (a=X.env.locals \/ X.env.cells.lookup x=some a))->Q () s') (hf:X.fn x=true \/ X.env.scope.names.lookup x=some .local:=by first | exact .inl rfl | exact .inr rfl | assumption):wpAny M A (storeName X.env x u) Q E s:=by
 obtain ⟨m,hn,hl⟩:=id I.loc
 have hcls:(X.env.scope.kind == .class || (X.env.scope.kind == .module && X.env.locals != X.env.globals))=false:=by rw [I.ok.kind]; rfl
 have hiσ:i < σ.length:=by rw [I.len]; exact (List.getElem?_eq_some_iff.mp hi).1
 have cne:=I.cne
 have tracked:∀ {a:Addr} {h':Heap},(∃ o,s.heap.get? a=some o /\ H a=none)->Heap.SameBut a s.heap h'->HOk X.prog X.w H h':=fun {a h'} ha hs b ob e=>by
  obtain ⟨_,_,hfree⟩:=ha
  refine (I.hok b ob e).stay (fun c w' hc q=>(hs.2 c ?_).trans q) (fun _ q=>q) fun _ _ q=>q
  rintro rfl
  rcases hc with rfl | hc
  ·rw [hfree] at e; cases e
  ·rw [hfree] at hc; cases hc
 rcases hx with hk | hk
 ·refine wpAny_storeName_local hk hn (fun h' hn' hs=>?_) hcls
  obtain ⟨oL,_,_,hoL,_⟩:=id hn
  refine h _ ⟨I.ok,I.os,I.bare,⟨fun b o e n hb hx=>?_,fun b o e n hb hx=>?_,I.base.free,fun b o e hx=>?_,I.base.tups,I.base.frzs,I.base.tbls⟩,⟨_,hn',fun j y v' e1 e2 e3=>?_⟩,fun y c e=>?_,I.free,I.freeC,fun p hp=>?_,tracked ⟨oL,hoL,I.free⟩ hs,by simpa using I.len⟩ ⟨_,hs,.inl rfl⟩
  ·exact (hs.2 b (Nat.ne_of_lt (Nat.lt_of_lt_of_le (Heap.lt_size e) I.ok.above))).trans (I.base.keep b o e n hb hx)
  ·obtain ⟨sl,e1⟩:=I.base.slot b o e n hb hx
   exact ⟨sl,(hs.2 b (Nat.ne_of_lt (Nat.lt_of_lt_of_le (Heap.lt_size e) I.ok.above))).trans e1⟩
  ·obtain ⟨o',e1⟩:=I.base.there b o e hx
   exact ⟨o',(hs.2 b (Nat.ne_of_lt (Nat.lt_of_lt_of_le (Heap.lt_size e) I.ok.above))).trans e1⟩
  ·by_cases hj:j=i
   ·subst hj
    rw [hi] at e1; cases e1
    rw [List.getElem?_set_self hiσ] at e2
    cases e2
    exact ⟨u,r,.inl ⟨hk,by simp⟩⟩
   ·rw [List.getElem?_set_ne (Ne.symm hj)] at e2
    obtain ⟨u',r',q⟩:=hl j y v' e1 e2 e3
    refine ⟨u',r',?_⟩
    rcases q with ⟨k,e⟩ | ⟨k,c,e,z⟩
    ·refine .inl ⟨k,?_⟩
     have:y ≠ x:=fun e=>hj (Ui hN e1 (e ▸ hi))
     simp [this,e]
    ·exact .inr ⟨k,c,e,z.sameBut hs (cne y c e)⟩
  ·obtain ⟨w',z⟩:=I.cell y c e
   exact ⟨w',z.sameBut hs (cne y c e)⟩
  ·obtain ⟨e,n,ne,nf,d⟩:=I.pin p hp
   exact ⟨(hs.2 p.1 ne).trans e,n,ne,nf,d⟩
 ·have hfn:X.fn x=true:=by
   rcases hf with z | z
   ·exact z
   ·rw [z] at hk; cases hk
  obtain ⟨c,hc⟩:=I.ok.has x (.inl hk)
  obtain ⟨w',z⟩:=I.cell x c hc
  refine wpAny_storeName_cell I.ok.kind hk hc z (fun h' hc' hs=>?_)
  obtain ⟨oc,hoc,hocd⟩:=id z
  refine h { s with heap:=h' } ⟨I.ok,I.os,I.bare,⟨fun b o e n hb hx=>?_,fun b o e n hb hx=>?_,I.base.free,fun b o e hx=>?_,I.base.tups,I.base.frzs,I.base.tbls⟩,⟨m,hn.sameBut hs (Ne.symm (cne x c hc)),fun j y v' e1 e2 e3=>?_⟩,fun y c' e=>?_,I.free,I.freeC,fun p hp=>?_,tracked ⟨oc,hoc,I.freeC x c hc⟩ hs,by simpa using I.len⟩ ⟨c,hs,.inr hc⟩
  ·exact (hs.2 b (Nat.ne_of_lt (Nat.lt_of_lt_of_le (Heap.lt_size e) (I.ok.cab x c hfn hc)))).trans (I.base.keep b o e n hb hx)
  ·obtain ⟨sl,e1⟩:=I.base.slot b o e n hb hx
   exact ⟨sl,(hs.2 b (Nat.ne_of_lt (Nat.lt_of_lt_of_le (Heap.lt_size e) (I.ok.cab x c hfn hc)))).trans e1⟩
  ·obtain ⟨o',e1⟩:=I.base.there b o e hx
   exact ⟨o',(hs.2 b (Nat.ne_of_lt (Nat.lt_of_lt_of_le (Heap.lt_size e) (I.ok.cab x c hfn hc)))).trans e1⟩
  ·by_cases hj:j=i
   ·subst hj
    rw [hi] at e1; cases e1
    rw [List.getElem?_set_self hiσ] at e2
    cases e2
    exact ⟨u,r,.inr ⟨.inl hk,c,hc,hc'⟩⟩
   ·rw [List.getElem?_set_ne (Ne.symm hj)] at e2
    obtain ⟨u',r',q⟩:=hl j y v' e1 e2 e3
    refine ⟨u',r',?_⟩
    rcases q with q | ⟨k,c',e,z'⟩
    ·exact .inl q
    ·refine .inr ⟨k,c',e,z'.sameBut hs ?_⟩
     rintro rfl
     exact hj (Ui hN e1 (I.ok.inj _ _ _ e hc ▸ hi))
  ·by_cases hcc:c'=c
   ·subst hcc; exact ⟨_,hc'⟩
   ·obtain ⟨w2,z2⟩:=I.cell y c' e
    exact ⟨w2,z2.sameBut hs hcc⟩
  ·obtain ⟨e,n,ne,nf,d⟩:=I.pin p hp
   refine ⟨(hs.2 p.1 ?_).trans e,n,ne,nf,d⟩
   intro q
   rw [q,hoc] at e
   have q':oc=p.2:=Option.some.inj e
   exact d w' (by rw [<- q']; exact hocd)
theorem d8 {M:Model} {A:Around} {E:Value->Shared->Prop} {i:Nat} {x:Str} {v:V} {u:Value} {Q:Unit->Shared->Prop} (I:Inv X pn σ H s) (hN:X.N.Nodup) (hi:X.N[i]?=some x) (hx:Loc X.env.scope x) (r:RelV v u)
  (h:∀ s',Inv X pn (σ.set i (some v)) H s'->Q () s') (hf:X.fn x=true \/ X.env.scope.names.lookup x=some .local:=by first | exact .inl rfl | exact .inr rfl | assumption):wpAny M A (storeName X.env x u) Q E s :=
 Z5 I hN hi hx r (fun s' I' _=>h s' I') hf
theorem Inv.call' {s':Shared} {ch:List Addr} (I:Inv X pn σ H s) (ho:s'.os=s.os) (u:Un (frs X.stack) ch H H' s.heap s'.heap) (hok:HOk X.prog X.w H' s'.heap) (hg:AllBare s'.gens)
  (hch:∀ b ∈ ch,(b ∈ X.ex \/ X.s₀.heap.objs.size <= b) /\ b ≠ X.env.locals /\ (∀ x c,X.env.cells.lookup x=some c->c ≠ b) /\ ∀ p ∈ X.pn ++ pn,p.1 ≠ b):Inv X pn σ H' s':=by
 obtain ⟨h',g',d',t',o'⟩:=s'
 have e:o'=s.os:=ho
 subst e
 exact I.call (g':=g') (t':=t') (d':=d') u hok hg hch
end
noncomputable abbrev XK:=Value->Option Addr->Hp->Prop
noncomputable abbrev St:=List (Option V)
noncomputable abbrev VK:=V->Hp->Prop
noncomputable abbrev TE:=St->Hp->VK->Prop
noncomputable abbrev TT:=St->Hp->(Bool->Hp->Prop)->Prop
noncomputable abbrev TA:=St->Hp->(List V->Hp->Prop)->Prop
structure Ends where
 nx:St->Hp->Prop
 rt:VK
 bk:St->Hp->Prop:=fun _ _=>False
 ct:St->Hp->Prop:=fun _ _=>False
noncomputable abbrev TS:=Ends->St->Hp->Prop
noncomputable def EP (X:Cx) (pn:List (Addr × Obj)) (σ:St) (Q:VK) (u:Value) (s':Shared):Prop:=∃ v H',Inv X pn σ H' s' /\ RelV v u /\ Q v H'
noncomputable def TP (X:Cx) (pn:List (Addr × Obj)) (σ:St) (Q:Bool->Hp->Prop) (b:Bool) (s':Shared):Prop:=∃ H',Inv X pn σ H' s' /\ Q b H'
noncomputable def AP (X:Cx) (pn:List (Addr × Obj)) (σ:St) (Q:List V->Hp->Prop) (us:List Value) (s':Shared):Prop:=∃ vs H',Inv X pn σ H' s' /\ Vals vs us /\ Q vs H'
noncomputable def SP (X:Cx) (pn:List (Addr × Obj)) (D:Ends) (f:Flow) (s':Shared):Prop :=
 match f with
 | .next=>∃ σ' H',Inv X pn σ' H' s' /\ D.nx σ' H'
 | .brk=>∃ σ' H',Inv X pn σ' H' s' /\ D.bk σ' H'
 | .cont=>∃ σ' H',Inv X pn σ' H' s' /\ D.ct σ' H'
 | .ret u=>∃ v σ' H',Inv X pn σ' H' s' /\ RelV v u /\ D.rt v H'
noncomputable def PE (X:Cx) (e:Expr) (t:TE):Prop :=
 ∀ (pn:List (Addr × Obj)) (s:Shared) (σ:St) (H:Hp) (Q:VK),Inv X pn σ H s->t σ H Q->wpAny (model X.prog X.w) X.A (eval e X.env) (EP X pn σ Q) X.xe s
noncomputable def PT (X:Cx) (e:Expr) (t:TT):Prop :=
 ∀ (pn:List (Addr × Obj)) (s:Shared) (σ:St) (H:Hp) (Q:Bool->Hp->Prop),Inv X pn σ H s->t σ H Q->wpAny (model X.prog X.w) X.A (isTrue e X.env (eval e X.env)) (TP X pn σ Q) X.xe s
noncomputable def PW (X:Cx) (e:Expr) (t:TT):Prop :=
 ∀ (whole:Sem Value) (pn:List (Addr × Obj)) (s:Shared) (σ:St) (H:Hp) (Q:Bool->Hp->Prop),Inv X pn σ H s->t σ H Q->wpAny (model X.prog X.w) X.A (isTrue e X.env whole) (TP X pn σ Q) X.xe s
theorem PW.pt {X:Cx} {e:Expr} {t:TT} (h:PW X e t):PT X e t:=h _
noncomputable def PA (X:Cx) (es:List Expr) (t:TA):Prop :=
 ∀ (pos:Pos) (pn:List (Addr × Obj)) (s:Shared) (σ:St) (H:Hp) (Q:List V->Hp->Prop),Inv X pn σ H s->t σ H Q->wpAny (model X.prog X.w) X.A (spliced (backTo pos (starEach es X.env))) (AP X pn σ Q) X.xe s
noncomputable def PS (X:Cx) (st:Stmt) (t:TS):Prop :=
 ∀ (pn:List (Addr × Obj)) (s:Shared) (σ:St) (H:Hp) (D:Ends),Inv X pn σ H s->t D σ H->wpAny (model X.prog X.w) X.A (exec st X.env) (SP X pn D) X.xe s
noncomputable def PSs (X:Cx) (st:List Stmt) (t:TS):Prop :=
 ∀ (pn:List (Addr × Obj)) (s:Shared) (σ:St) (H:Hp) (D:Ends),Inv X pn σ H s->t D σ H->wpAny (model X.prog X.w) X.A (execs st X.env) (SP X pn D) X.xe s
theorem thn {α:Type} {t:Sem α} {Q Q':α->Shared->Prop} {M:Model} {A:Around} {E:Value->Shared->Prop} {s:Shared} (h:wpAny M A t Q E s) (hQ:∀ a s,Q a s->Q' a s):wpAny M A t Q' E s:=wpAny_mono h hQ fun _ _ x=>x
section
variable {X:Cx}
noncomputable def tVar (i:Nat):TE:=fun σ H Q=>∃ v,σ[i]?=some (some v) /\ Q v H
noncomputable def tC (v:V):TE:=fun _ H Q=>Q v H
theorem wt {i:Nat} {x:Str} {pos:Pos} (hN:X.N[i]?=some x) (hv:Vis X.env.scope x) (hd:(x == ("__debug__" : Str))=false:=by decide) (hcd:(x == ("__classdict__" : Str))=false:=by decide):PE X (.Name x pos) (tVar i):=by
 intro pn s σ H Q I h
 obtain ⟨v,e,h⟩:=h
 obtain ⟨m,hn,hl⟩:=I.loc
 obtain ⟨u,r,l⟩:=hl i x v hN e hv
 have fin:EP X pn σ Q u s:=⟨v,H,I,r,h⟩
 rcases l with ⟨hk,hm⟩ | ⟨hk,c,hc,hcell⟩
 ·exact wpAny_Name (wpAny_loadName_local I.ok.kind hk hn hm fin) hd
 ·rcases hk with hk | hk
  ·exact wpAny_Name (wpAny_loadName_cell I.ok.kind hk hc hcell fin) hd
  ·exact wpAny_Name (wpAny_loadName_free I.ok.kind hk hc hcell fin hcd) hd
theorem E2 {i j pos}:PE X (.Constant (.int i) j pos) (tC (.int i)):=fun _ _ _ H _ I h=>wpAny_Constant_int ⟨.int i,H,I.tok _,⟨_,rfl⟩,h⟩
theorem E3 {b j pos}:PE X (.Constant (.bool b) j pos) (tC (.bl b)):=fun _ _ _ H _ I h=>Constant_bool ⟨.bl b,H,I,rfl,h⟩
theorem Fy {j pos}:PE X (.Constant .none j pos) (tC .non):=fun _ _ _ H _ I h=>Constant_none ⟨.non,H,I,rfl,h⟩
theorem Fu {x j pos}:PE X (.Constant (.str x) j pos) (tC (.str x)):=fun _ _ _ H _ I h=>Calls.Constant_str ⟨.str x,H,I.tok _,⟨_,rfl⟩,h⟩
noncomputable def Gl (X:Cx) (x:Str):Prop:=X.env.kindOf x=some .globalImplicit
theorem Xr {E:Value->Shared->Prop} {pn:List (Addr × Obj)} {s:Shared} {σ:St} {H:Hp} {x:Str} {u:Value} {pos:Pos} {Q:Value->Shared->Prop} (I:Inv X pn σ H s) (hg:Gl X x) (hm:X.mg x=some u) (h:Q u s)
  (hd:(x == ("__debug__" : Str))=false:=by decide):wpAny (model X.prog X.w) X.A (eval (.Name x pos) X.env) Q E s :=
 Calls.Name_function_global I.ok.kind hg (Calls.loadGlobal_global (by rw [I.ok.glob]; exact I.mod.glob.keeps I.bk) hm h) hd
theorem rj {E:Value->Shared->Prop} {pn:List (Addr × Obj)} {s:Shared} {σ:St} {H:Hp} {x:Str} {u:Value} {pos:Pos} {Q:Value->Shared->Prop} (I:Inv X pn σ H s) (hg:Gl X x) (hm:X.mg x=none) (hv:bootBuiltins x=some u) (h:Q u s)
  (hn:x ≠ "__name__":=by decide) (hd:(x == ("__debug__" : Str))=false:=by decide):wpAny (model X.prog X.w) X.A (eval (.Name x pos) X.env) Q E s:=by
 obtain ⟨mb,h1,h2⟩:=I.mod.blt
 exact Calls.Name_function_global I.ok.kind hg (Calls.loadGlobal_builtin (by rw [I.ok.glob]; exact I.mod.glob.keeps I.bk) hm (by rw [I.ok.blt]; exact h1.keeps I.bk) ((h2 x hn).trans hv) h) hd
theorem Jc {x:Str} {v:V} {u:Value} {pos:Pos} (hg:Gl X x) (hm:X.mg x=some u) (r:RelV v u) (hd:(x == ("__debug__" : Str))=false:=by decide):PE X (.Name x pos) (tC v) :=
 fun _ _ _ H _ I h=>Xr I hg hm ⟨v,H,I,r,h⟩ hd
theorem Jf {x:Str} {v:V} {u:Value} {pos:Pos} (hg:Gl X x) (hm:X.mg x=none) (hv:bootBuiltins x=some u) (r:RelV v u) (hn:x ≠ "__name__":=by decide) (hd:(x == ("__debug__" : Str))=false:=by decide):PE X (.Name x pos) (tC v) :=
 fun _ _ _ H _ I h=>rj I hg hm hv ⟨v,H,I,r,h⟩ hn hd
variable {a b:Expr} {ta tb:TE} {pos:Pos}
noncomputable def tB (t:TE):TT:=fun σ H Q=>t σ H fun x H1=>∃ c,x=.bl c /\ Q c H1
theorem Fl {e:Expr} {t:TE} (h:PE X e t) (he:∀ whole,isTrue e X.env whole=(do let v <- whole; standAt e.pos; holding [v] (truthy v)):=by intro _; rfl):PT X e (tB t):=by
 intro pn s σ H Q I hw
 refine isTrue_plain (thn (h pn s σ H _ I hw) fun v s1 ⟨x,H1,I1,r1,q1⟩=>?_) (he _)
 obtain ⟨d,rfl,q⟩:=q1
 cases r1
 exact wpAny_truthy_bool ⟨H1,I1,q⟩
variable {tA tB':TT} {rest:List Expr}
noncomputable def tAnd (t u:TT):TT:=fun σ H Q=>t σ H fun c H1=>if c=true then u σ H1 Q else Q false H1
noncomputable def tOr (t u:TT):TT:=fun σ H Q=>t σ H fun c H1=>if c=true then Q true H1 else u σ H1 Q
noncomputable def tNot (t:TT):TT:=fun σ H Q=>t σ H fun c H1=>Q (!c) H1
theorem Kz (ha:PT X a tA):PW X (.BoolOp .And [a] pos) tA:=by
 intro wh pn s σ H Q I h
 refine isTrue_and (thn (ha pn s σ H Q I h) fun c s1 e=>?_)
 cases c with
 | true=>exact isTrue_and_nil e
 | false=>exact e
theorem Fh (ha:PT X a tA):PW X (.BoolOp .Or [a] pos) tA:=by
 intro wh pn s σ H Q I h
 refine isTrue_or (thn (ha pn s σ H Q I h) fun c s1 e=>?_)
 cases c with
 | false=>exact isTrue_or_nil e
 | true=>exact e
theorem Fi (ha:PT X a tA) (hb:PW X (.BoolOp .And (b :: rest) pos) tB'):PW X (.BoolOp .And (a :: b :: rest) pos) (tAnd tA tB'):=by
 intro wh pn s σ H Q I h
 refine isTrue_and (thn (ha pn s σ H _ I h) fun c s1 ⟨H1,I1,q1⟩=>?_)
 cases c with
 | true=>exact hb wh pn s1 σ H1 Q I1 q1
 | false=>exact ⟨H1,I1,q1⟩
theorem C4 (ha:PT X a tA) (hb:PW X (.BoolOp .Or (b :: rest) pos) tB'):PW X (.BoolOp .Or (a :: b :: rest) pos) (tOr tA tB'):=by
 intro wh pn s σ H Q I h
 refine isTrue_or (thn (ha pn s σ H _ I h) fun c s1 ⟨H1,I1,q1⟩=>?_)
 cases c with
 | true=>exact ⟨H1,I1,q1⟩
 | false=>exact hb wh pn s1 σ H1 Q I1 q1
theorem Fm (ha:PT X a tA):PT X (.UnaryOp .Not a pos) (tNot tA):=by
 intro pn s σ H Q I h
 exact isTrue_not (ha pn s σ H (fun c H1=>Q (!c) H1) I h)
noncomputable def Dx (ta tb:TE):TE:=fun σ H Q=>ta σ H fun x H1=>∃ c,x=.bl c /\ if c=true then tb σ H1 Q else Q (.bl false) H1
noncomputable def tOrV (ta tb:TE):TE:=fun σ H Q=>ta σ H fun x H1=>∃ c,x=.bl c /\ if c=true then Q (.bl true) H1 else tb σ H1 Q
noncomputable def Du (ta:TE):TE:=fun σ H Q=>ta σ H fun x H1=>∃ c,x=.bl c /\ Q (.bl (!c)) H1
theorem Fw {op} {t:TE} (h:PE X a t):PE X (.BoolOp op [a] pos) t:=fun pn s σ H Q I hw=>BoolOp_one (h pn s σ H Q I hw)
theorem E4 (ha:PE X a ta) (hb:PE X (.BoolOp .And (b :: rest) pos) tb):PE X (.BoolOp .And (a :: b :: rest) pos) (Dx ta tb):=by
 intro pn s σ H Q I h
 refine BoolOp_and (thn (ha pn s σ H _ I h) fun v s1 ⟨x,H1,I1,r1,q1⟩=>?_)
 obtain ⟨c,rfl,q1⟩:=q1
 cases r1
 refine wpAny_truthy_bool ?_
 cases c with
 | true=>exact hb pn s1 σ H1 Q I1 q1
 | false=>exact ⟨.bl false,H1,I1,rfl,q1⟩
theorem C7 (ha:PE X a ta) (hb:PE X (.BoolOp .Or (b :: rest) pos) tb):PE X (.BoolOp .Or (a :: b :: rest) pos) (tOrV ta tb):=by
 intro pn s σ H Q I h
 refine BoolOp_or (thn (ha pn s σ H _ I h) fun v s1 ⟨x,H1,I1,r1,q1⟩=>?_)
 obtain ⟨c,rfl,q1⟩:=q1
 cases r1
 refine wpAny_truthy_bool ?_
 cases c with
 | false=>exact hb pn s1 σ H1 Q I1 q1
 | true=>exact ⟨.bl true,H1,I1,rfl,q1⟩
theorem Fx (ha:PE X a ta):PE X (.UnaryOp .Not a pos) (Du ta):=by
 intro pn s σ H Q I h
 refine UnaryOp_ (thn (ha pn s σ H _ I h) fun v s1 ⟨x,H1,I1,r1,q1⟩=>?_)
 obtain ⟨c,rfl,q1⟩:=q1
 cases r1
 exact not_of (wpAny_truthy_bool ⟨.bl (!c),H1,I1,rfl,q1⟩)
noncomputable def tIf (t:TT) (ta tb:TE):TE:=fun σ H Q=>t σ H fun c H1=>if c=true then ta σ H1 Q else tb σ H1 Q
theorem N4 {c:Expr} (hc:PT X c tA) (ha:PE X a ta) (hb:PE X b tb):PE X (.IfExp c a b pos) (tIf tA ta tb):=by
 intro pn s σ H Q I h
 refine wpAny_IfExp (thn (hc pn s σ H _ I h) fun d s1 ⟨H1,I1,q1⟩=>?_)
 cases d with
 | true=>exact ha pn s1 σ H1 Q I1 q1
 | false=>exact hb pn s1 σ H1 Q I1 q1
end
noncomputable def SqL (K:W.Frag) (H:Hp) (a:Addr) (xs:List V):Prop :=
 Rd H a (.lst xs) \/
  ∃ (o:Obj) (its:Array Value) (n:Nat),K.lookup a=some o /\ o.cls=.type "list" /\ o.dict=none /\ o.data=.seq its n /\ its.size <= sizeLine /\ Vals xs its.toList
noncomputable def SqT (K:W.Frag) (H:Hp) (a:Addr) (xs:List V):Prop :=
 Rd H a (.tup xs) \/
  ∃ (o:Obj) (its:Array Value) (n:Nat),K.lookup a=some o /\ o.cls=.type "tuple" /\ o.data=.seq its n /\ its.size <= sizeLine /\ Vals xs its.toList
noncomputable def absV:Value->Option V
 | .none=>some .non
 | .bool b=>some (.bl b)
 | .int i _=>some (.int i)
 | .str x _=>some (.str x)
 | .bytes b _=>some (.byt b)
 | .float b _=>some (.flt b)
 | .ref a=>some (.ref a)
 | .type n=>some (.ty n)
 | _=>none
theorem RelV.abs {x:V} {u:Value} (r:RelV x u):absV u=some x:=by
 cases x with
 | non=>cases r; rfl
 | bl _=>cases r; rfl
 | int _=>obtain ⟨t,rfl⟩:=r; rfl
 | str _=>obtain ⟨t,rfl⟩:=r; rfl
 | byt _=>obtain ⟨t,rfl⟩:=r; rfl
 | flt _=>obtain ⟨t,rfl⟩:=r; rfl
 | ref _=>cases r; rfl
 | ty _=>cases r; rfl
theorem RelV.inj {x y:V} {u:Value} (r:RelV x u) (q:RelV y u):x=y:=Option.some.inj (r.abs.symm.trans q.abs)
theorem Vals.inj:∀ {xs ys:List V} {us:List Value},Vals xs us->Vals ys us->xs=ys
 | _,_,_,.nil,.nil=>rfl
 | _,_,_,.cons r t,.cons r' t'=>by rw [r.inj r',Vals.inj t t']
section
variable {X:Cx} {pn:List (Addr × Obj)} {σ:St} {H:Hp} {s:Shared} {a:Addr} {xs ys:List V}
theorem SqL.of {K:W.Frag} (h:H a=some (.lst xs)):SqL K H a xs:=.inl (.inl h)
theorem SqT.of {K:W.Frag} (h:H a=some (.tup xs)):SqT K H a xs:=.inl (.inl h)
theorem Inv.list (I:Inv X pn σ H s) (h:SqL X.K H a xs):∃ its:List Value,Vals xs its /\ PlainL s.heap a its.toArray /\ xs.length <= sizeLine:=by
 rcases h with h | ⟨o,its,n,hk,hc,hd,hs,hz,r⟩
 ·obtain ⟨z,its,n,r,e⟩:=h.ok I.hok
  exact ⟨its,r,⟨_,n,e,rfl,rfl,rfl⟩,z⟩
 ·refine ⟨its.toList,r,⟨o,n,I.kIn a o hk,hc,hd,by simpa using hs⟩,?_⟩
  have e:=r.length
  simp only [Array.length_toList] at e
  omega
theorem Inv.tuple (I:Inv X pn σ H s) (h:SqT X.K H a xs):∃ its:List Value,Vals xs its /\ IsTup s.heap a its.toArray /\ xs.length <= sizeLine:=by
 rcases h with h | ⟨o,its,n,hk,hc,hs,hz,r⟩
 ·obtain ⟨z,its,r,p⟩:=h.ok I.hok
  exact ⟨its,r,p.1,z⟩
 ·refine ⟨its.toList,r,⟨o,I.kIn a o hk,hc,n,by simpa using hs⟩,?_⟩
  have e:=r.length
  simp only [Array.length_toList] at e
  omega
theorem Inv.list_inj (I:Inv X pn σ H s) (h:SqL X.K H a xs) (h':SqL X.K H a ys):xs=ys:=by
 obtain ⟨its,r,⟨o,n,e,_,_,d⟩,_⟩:=I.list h
 obtain ⟨its',r',⟨o',n',e',_,_,d'⟩,_⟩:=I.list h'
 rw [e] at e'; cases e'
 rw [d] at d'
 injection d' with d1 _
 have:its=its':=by simpa using congrArg Array.toList d1
 subst this
 exact r.inj r'
theorem Inv.tuple_inj (I:Inv X pn σ H s) (h:SqT X.K H a xs) (h':SqT X.K H a ys):xs=ys:=by
 obtain ⟨its,r,⟨o,e,_,n,d⟩,_⟩:=I.tuple h
 obtain ⟨its',r',⟨o',e',_,n',d'⟩,_⟩:=I.tuple h'
 rw [e] at e'; cases e'
 rw [d] at d'
 injection d' with d1 _
 have:its=its':=by simpa using congrArg Array.toList d1
 subst this
 exact r.inj r'
end
noncomputable abbrev Cx.wish (X:Cx) (E:Value->Shared->Prop):Cx:={ X with xe:=E }
noncomputable abbrev Cx.nox (X:Cx):Cx:=X.wish fun _ _=>False
theorem Cx.Ok.wish {X:Cx} (ok:X.Ok) (E:Value->Shared->Prop):(X.wish E).Ok :=
 ⟨ok.mod,ok.kind,ok.glob,ok.blt,ok.above,ok.inj,ok.has,ok.cab,ok.hd,ok.frames,ok.stk,ok.exf,ok.bs,ok.bsz,ok.noex,ok.exfs,ok.funs,ok.frf⟩
theorem Cx.Ok.unwish {X:Cx} {E:Value->Shared->Prop} (ok:(X.wish E).Ok):X.Ok :=
 ⟨ok.mod,ok.kind,ok.glob,ok.blt,ok.above,ok.inj,ok.has,ok.cab,ok.hd,ok.frames,ok.stk,ok.exf,ok.bs,ok.bsz,ok.noex,ok.exfs,ok.funs,ok.frf⟩
section
variable {X:Cx} {pn:List (Addr × Obj)} {σ:St} {H:Hp} {s:Shared} {E:Value->Shared->Prop}
theorem Inv.wish (I:Inv X pn σ H s) (E:Value->Shared->Prop):Inv (X.wish E) pn σ H s:=⟨I.ok.wish E,I.os,I.bare,I.base,I.loc,I.cell,I.free,I.freeC,I.pin,I.hok,I.len⟩
theorem Inv.unwish (I:Inv (X.wish E) pn σ H s):Inv X pn σ H s:=⟨I.ok.unwish,I.os,I.bare,I.base,I.loc,I.cell,I.free,I.freeC,I.pin,I.hok,I.len⟩
theorem SP.unwish {D:Ends} {f:Flow} {s':Shared} (h:SP (X.wish E) pn D f s'):SP X pn D f s':=by
 cases f with
 | next=>obtain ⟨σ',H',I,q⟩:=h; exact ⟨σ',H',I.unwish,q⟩
 | brk=>obtain ⟨σ',H',I,q⟩:=h; exact ⟨σ',H',I.unwish,q⟩
 | cont=>obtain ⟨σ',H',I,q⟩:=h; exact ⟨σ',H',I.unwish,q⟩
 | ret u=>obtain ⟨v,σ',H',I,r,q⟩:=h; exact ⟨v,σ',H',I.unwish,r,q⟩
theorem PSs.nox {st:List Stmt} {t:TS} (h:PSs X.nox st t):PSs X st t:=fun pn s σ H D I hw =>
 wpAny_mono (h pn s σ H D (I.wish _) hw) (fun _ _ q=>q.unwish) fun _ _ z=>False.elim z
end
section
variable {X:Cx} {st:Stmt} {rest:List Stmt} {t u:TS} {e:Expr} {te:TE} {pos:Pos}
noncomputable def Dv:TS:=fun D σ H=>D.nx σ H
noncomputable def tSeq (t u:TS):TS:=fun D σ H=>t { D with nx:=u D } σ H
theorem Xj:PSs X [] Dv:=fun _ _ σ H _ I h=>wpAny_execs_nil ⟨σ,H,I,h⟩
theorem xx (h1:PS X st t) (h2:PSs X rest u):PSs X (st :: rest) (tSeq t u):=by
 intro pn s σ H D I h
 refine wpAny_execs_cons (thn (h1 pn s σ H { D with nx:=u D } I h) fun f s1 q=>?_)
 cases f with
 | next =>
  obtain ⟨σ',H',I',q⟩:=q
  exact h2 pn s1 σ' H' D I' q
 | ret v=>exact q
 | brk=>exact q
 | cont=>exact q
theorem k8 (h1:PS X st t):PSs X [st] t:=by
 intro pn s σ H D I h
 refine wpAny_execs_cons (thn (h1 pn s σ H D I h) fun f s1 q=>?_)
 cases f with
 | next=>exact wpAny_execs_nil q
 | ret v=>exact q
 | brk=>exact q
 | cont=>exact q
noncomputable def Dw:TS:=fun D σ H=>D.ct σ H
theorem Xk:PS X (.Continue pos) Dw:=fun _ _ σ H _ I h=>wpAny_Continue ⟨σ,H,I,h⟩
theorem Inv.quiet {pn:List (Addr × Obj)} {σ:St} {H:Hp} {s:Shared} (I:Inv X pn σ H s):interactive X.env=false:=by simp [interactive,I.ok.kind]
noncomputable def Z4 (te:TE):TS:=fun D σ H=>te σ H fun _ H1=>D.nx σ H1
theorem vo (he:PE X e te) (hs:swapsWith e none pos.line X.env=pure false:=by rfl):PS X (.Expr e pos) (Z4 te):=by
 intro pn s σ H D I h
 exact wpAny_Expr_any (thn (he pn s σ H _ I h) fun v s1 ⟨x,H1,I1,r1,q1⟩=>⟨σ,H1,I1,q1⟩) I.quiet hs
noncomputable def tRet (te:TE):TS:=fun D σ H=>te σ H D.rt
theorem Ub (he:PE X e te):PS X (.Return (some e) pos) (tRet te):=by
 intro pn s σ H D I h
 exact wpAny_Return_some (thn (he pn s σ H _ I h) fun v s1 ⟨x,H1,I1,r1,q1⟩=>⟨x,σ,H1,I1,r1,q1⟩)
noncomputable def Ds:TS:=fun D _ H=>D.rt .non H
theorem J3:PS X (.Return none pos) Ds:=fun _ _ σ H _ I h=>wpAny_Return_none ⟨.non,σ,H,I,rfl,h⟩
noncomputable def tIfS (c:TT) (t u:TS):TS:=fun D σ H=>c σ H fun b H1=>if b=true then t D σ H1 else u D σ H1
theorem J4 {c:Expr} {a b:List Stmt} {tc:TT} (hc:PT X c tc) (ha:PSs X a t) (hb:PSs X b u):PS X (.If c a b pos) (tIfS tc t u):=by
 intro pn s σ H D I h
 refine wpAny_If (thn (hc pn s σ H _ I h) fun d s1 ⟨H1,I1,q1⟩=>?_)
 cases d with
 | true=>exact ha pn s1 σ H1 D I1 q1
 | false=>exact hb pn s1 σ H1 D I1 q1
noncomputable def Gg:TS:=fun _ _ _=>False
theorem N1:PS X st Gg:=fun _ _ _ _ _ _ h=>h.elim
end
noncomputable abbrev TG:=V->St->Hp->(St->Hp->Prop)->Prop
noncomputable abbrev TGs:=List V->St->Hp->(St->Hp->Prop)->Prop
noncomputable def PG (X:Cx) (target:Expr) (t:TG):Prop :=
 ∀ (pn:List (Addr × Obj)) (s:Shared) (σ:St) (H:Hp) (v:V) (u:Value) (Q:St->Hp->Prop),Inv X pn σ H s->RelV v u->t v σ H Q ->
  wpAny (model X.prog X.w) X.A (assign target X.env u) (fun _ s'=>∃ σ' H',Inv X pn σ' H' s' /\ Q σ' H') X.xe s
noncomputable def PGs (X:Cx) (ts:List Expr) (t:TGs):Prop :=
 ∀ (pn:List (Addr × Obj)) (s:Shared) (σ:St) (H:Hp) (vs:List V) (us:List Value) (Q:St->Hp->Prop),Inv X pn σ H s->Vals vs us->t vs σ H Q ->
  wpAny (model X.prog X.w) X.A (assignInOrder ((assignEach ts X.env).map (·.2)) us) (fun _ s'=>∃ σ' H',Inv X pn σ' H' s' /\ Q σ' H') X.xe s
noncomputable abbrev TSet:=V->V->V->Hp->(Hp->Prop)->Prop
noncomputable def PSet (X:Cx) (t:TSet):Prop :=
 ∀ (pn:List (Addr × Obj)) (s:Shared) (σ:St) (H:Hp) (o i v:V) (ov iv u:Value) (Q:Hp->Prop),Inv X pn σ H s->RelV o ov->RelV i iv->RelV v u->t o i v H Q ->
  wpAny (model X.prog X.w) X.A (setItem ov iv u) (fun _ s'=>∃ H',Inv X pn σ H' s' /\ Q H') X.xe s
noncomputable abbrev TIp:=V->V->Hp->VK->Prop
noncomputable def PIp (X:Cx) (op:Operator) (t:TIp):Prop :=
 ∀ (pn:List (Addr × Obj)) (s:Shared) (σ:St) (H:Hp) (x y:V) (v u:Value) (Q:VK),Inv X pn σ H s->RelV x v->RelV y u->t x y H Q ->
  wpAny (model X.prog X.w) X.A (inplaceOp op v u) (EP X pn σ Q) X.xe s
section
variable {X:Cx} {pos:Pos}
noncomputable def ug (i:Nat):TG:=fun v σ H Q=>Q (σ.set i (some v)) H
theorem yb {i:Nat} {x:Str} (hN:X.N.Nodup) (hi:X.N[i]?=some x) (hx:Loc X.env.scope x) (hf:X.fn x=true \/ X.env.scope.names.lookup x=some .local:=by first | exact .inl rfl | exact .inr rfl | assumption):PG X (.Name x pos) (ug i):=by
 intro pn s σ H v u Q I r h
 exact wpAny_assign_Name (d8 I hN hi hx r (fun s' I'=>⟨_,H,I',h⟩) hf)
noncomputable def gNil:TGs:=fun vs σ H Q=>vs=[] /\ Q σ H
noncomputable def qg (t:TG) (u:TGs):TGs:=fun vs σ H Q=>∃ v r,vs=v :: r /\ t v σ H fun σ' H'=>u r σ' H' Q
theorem du:PGs X [] gNil:=by
 intro pn s σ H vs us Q I r h
 obtain ⟨e,h⟩:=h
 subst e
 cases r
 exact assignInOrder_nil ⟨σ,H,I,h⟩
theorem xn {e:Expr} {es:List Expr} {t:TG} {u:TGs} (h1:PG X e t) (h2:PGs X es u)
  (hs:(assignEach (e :: es) X.env).map (·.2)=assign e X.env :: (assignEach es X.env).map (·.2):=by rfl):PGs X (e :: es) (qg t u):=by
 intro pn s σ H vs us Q I r h
 obtain ⟨v,vr,e1,h⟩:=h
 subst e1
 cases r with
 | cons r rr =>
  rw [hs]
  refine assignInOrder_cons (thn (h1 pn s σ H _ _ _ I r h) fun _ s1 ⟨σ1,H1,I1,q1⟩=>?_)
  exact h2 pn s1 σ1 H1 _ _ Q I1 rr q1
noncomputable def gTup (K:W.Frag) (n:Nat) (t:TGs):TG:=fun v σ H Q=>∃ a xs,v=.ref a /\ SqT K H a xs /\ xs.length=n /\ t xs σ H Q
theorem Fs {es:List Expr} {k:Nat} {t:TGs} {n:Nat} (hc:X.calm=true) (h:PGs X es t)
  (hn:(assignEach es X.env).length=n:=by rfl) (hst:(assignEach es X.env).findIdx? (·.1)=none:=by rfl):PG X (.Tuple es k pos) (gTup X.K n t):=by
 intro pn s σ H v u Q I r hw
 obtain ⟨a,xs,e1,hq,hl,hw⟩:=hw
 subst e1
 cases r
 obtain ⟨its,rv,ht,hz⟩:=I.tuple hq
 refine assign_Tuple_tuple (I.ok.hd hc) ht (by simp [hn,<- hl,rv.length]) hst fun h' hx=>?_
 have I1:Inv X pn σ H { s with heap:=h' }:=I.kept (t':=s.toks) fun b o e=>hx b o (Nat.ne_of_lt (Heap.lt_size e)) e
 exact h pn _ σ H xs _ Q I1 (by simpa using rv) hw
noncomputable def gSub (to ti:TE) (t:TSet):TG:=fun v σ H Q=>to σ H fun o H1=>ti σ H1 fun i H2=>t o i v H2 fun H3=>Q σ H3
theorem Le {o i:Expr} {to ti:TE} {t:TSet} (ho:PE X o to) (hi:PE X i ti) (hs:PSet X t)
  (ha:∀ v,assign (.Subscript o i pos) X.env v=(do
   let ov <- holding [v] (eval o X.env)
   let iv <- holding [v,ov] (eval i X.env)
   standAt pos
   holding [v,ov,iv] (setItem ov iv v)
   release [v,ov,iv] []):=by intro _; rfl):PG X (.Subscript o i pos) (gSub to ti t):=by
 intro pn s σ H v u Q I r h
 rw [ha]
 refine wpAny_bind (wpAny_holding (thn (ho pn s σ H _ I h) fun ov s1 ⟨x,H1,I1,r1,q1⟩=>?_))
 refine wpAny_bind (wpAny_holding (thn (hi pn s1 σ H1 _ I1 q1) fun iv s2 ⟨y,H2,I2,r2,q2⟩=>?_))
 refine wpAny_bind (wpAny_standAt (wpAny_bind (wpAny_holding (thn (hs pn s2 σ H2 x y v ov iv u _ I2 r1 r2 r q2) fun _ s3 ⟨H3,I3,q3⟩=>?_))))
 exact wpAny_release ⟨σ,H3,I3,q3⟩
noncomputable def tAsg (te:TE) (g:TG):TS:=fun D σ H=>te σ H fun x H1=>g x σ H1 D.nx
theorem Uc {tg e:Expr} {te:TE} {g:TG} (he:PE X e te) (hg:PG X tg g) (hs:swapsWithSole [tg] e pos.line X.env=pure false:=by rfl) (hw:swappedStores [tg] e X.env=pure none:=by rfl)
  (h1:(assignEach [tg] X.env).map (·.2)=[assign tg X.env]:=by rfl):PS X (.Assign [tg] e pos) (tAsg te g):=by
 intro pn s σ H D I h
 refine wpAny_Assign_stores (thn (he pn s σ H _ I h) fun v s1 ⟨x,H1,I1,r1,q1⟩=>?_) hs hw
 rw [h1]
 exact thn (hg pn s1 σ H1 x v _ I1 r1 q1) fun _ s2 q=>q
theorem rg {i:Nat} {x:Str} {e:Expr} {te:TE} {pos':Pos} (hN:X.N.Nodup) (hi:X.N[i]?=some x) (hx:Loc X.env.scope x) (he:PE X e te) (hs:swapsWith e (some (.Name x pos')) pos.line X.env=pure false:=by rfl) (hf:X.fn x=true \/ X.env.scope.names.lookup x=some .local:=by first | exact .inl rfl | exact .inr rfl | assumption) :
  PS X (.Assign [.Name x pos'] e pos) (tAsg te (ug i)):=by
 intro pn s σ H D I h
 refine wpAny_Assign_Name (thn (he pn s σ H _ I h) fun v s1 ⟨y,H1,I1,r1,q1⟩=>?_) hs
 exact d8 I1 hN hi hx r1 (fun s2 I2=>⟨_,H1,I2,q1⟩) hf
noncomputable def tAug (i:Nat) (te:TE) (ti:TIp):TS:=fun D σ H=>∃ x,σ[i]?=some (some x) /\ te σ H fun y H1=>ti x y H1 fun z H2=>D.nx (σ.set i (some z)) H2
theorem Fo {i:Nat} {x:Str} {e:Expr} {te:TE} {op:Operator} {ti:TIp} {pos':Pos} (hN:X.N.Nodup) (hi:X.N[i]?=some x) (hx:Loc X.env.scope x) (he:PE X e te) (ho:PIp X op ti) (hf:X.fn x=true \/ X.env.scope.names.lookup x=some .local:=by first | exact .inl rfl | exact .inr rfl | assumption) :
  PS X (.AugAssign (.Name x pos') op e pos) (tAug i te ti):=by
 intro pn s σ H D I h
 obtain ⟨v,e1,h⟩:=h
 obtain ⟨m,hn,hl⟩:=I.loc
 have vis:Vis X.env.scope x:=by rcases hx with k | k; exact .inl k; exact .inr (.inl k)
 obtain ⟨u,r,l⟩:=hl i x v hi e1 vis
 refine wpAny_AugAssign_Name ?_
 have go:wpAny (model X.prog X.w) X.A (eval e X.env) (fun w s₂=>wpAny (model X.prog X.w) X.A (inplaceOp op u w) (fun r s₃=>wpAny (model X.prog X.w) X.A (storeName X.env x r) (fun _=>SP X pn D .next) X.xe s₃) X.xe s₂) X.xe s:=by
  refine thn (he pn s σ H _ I h) fun w s1 ⟨y,H1,I1,r1,q1⟩=>?_
  refine thn (ho pn s1 σ H1 v y u w _ I1 r r1 q1) fun z s2 ⟨zv,H2,I2,r2,q2⟩=>?_
  exact d8 I2 hN hi hx r2 (fun s3 I3=>⟨_,H2,I3,q2⟩) hf
 rcases l with ⟨hk,hm⟩ | ⟨hk,c,hc,hcell⟩
 ·exact wpAny_loadName_local I.ok.kind hk hn hm go
 ·rcases hk with hk | hk
  ·exact wpAny_loadName_cell I.ok.kind hk hc hcell go
  ·rcases hx with k | k
   ·have:X.env.scope.names.lookup x=some .free:=hk
    rw [k] at this; cases this
   ·have:X.env.scope.names.lookup x=some .free:=hk
    rw [k] at this; cases this
noncomputable def ipI (f:Int->Int->Int):TIp:=fun x y H Q=>∃ i j,x=.int i /\ y=.int j /\ Q (.int (f i j)) H
theorem D6:PIp X .Add (ipI fun i j=>i + j):=by
 intro pn s σ H x y v u Q I r1 r2 h
 obtain ⟨i,j,e1,e2,q⟩:=h
 subst e1; subst e2
 obtain ⟨t,rfl⟩:=r1
 obtain ⟨t',rfl⟩:=r2
 exact iadd_int ⟨.int _,H,I.tok _,⟨_,rfl⟩,q⟩
noncomputable def Ge (c:TT) (tb:TS):TS:=fun D σ H=>∃ W:Nat->St->Hp->Prop,(∃ m,W m σ H) /\ ∀ m σ H,W m σ H ->
 c σ H fun b H1=>if b=true then ∃ N:St->Hp->Prop,(∀ σ' H',N σ' H'->∃ m',m' < m /\ W m' σ' H') /\ tb { D with nx:=N,ct:=N,bk:=D.nx } σ H1 else D.nx σ H1
theorem Ua {c:Expr} {body:List Stmt} {tc:TT} {tb:TS} (hp:PassesOwn (model X.prog X.w) X.A X.env X.xe) (hc:PT X c tc) (hb:PSs X body tb):PS X (.While c body [] pos) (Ge tc tb):=by
 intro pn s σ H D I h
 obtain ⟨W,⟨m0,w0⟩,turn⟩:=h
 refine wpAny_While (codeAny_whileLoop (fun n s'=>∃ σ' H',Inv X pn σ' H' s' /\ W n σ' H') ?_ m0 ⟨σ,H,I,w0⟩)
 rintro n s1 ⟨σ1,H1,I1,w1⟩
 refine wpAny_passesOwn hp (thn (hc pn s1 σ1 H1 _ I1 (turn n σ1 H1 w1)) fun b s2 ⟨H2,I2,q2⟩=>?_)
 cases b with
 | true =>
  obtain ⟨N,hN,q2⟩:=q2
  rw [if_pos rfl]
  refine wpAny_passesOwn hp (thn (hb pn s2 σ1 H2 _ I2 q2) fun f s3 q3=>?_)
  cases f with
  | next =>
   obtain ⟨σ3,H3,I3,n3⟩:=q3
   obtain ⟨m',hm,w3⟩:=hN σ3 H3 n3
   exact ⟨m',hm,σ3,H3,I3,w3⟩
  | cont =>
   obtain ⟨σ3,H3,I3,n3⟩:=q3
   obtain ⟨m',hm,w3⟩:=hN σ3 H3 n3
   exact ⟨m',hm,σ3,H3,I3,w3⟩
  | brk=>exact q3
  | ret v=>exact q3
 | false =>
  rw [if_neg Bool.false_ne_true]
  exact wpAny_execs_nil ⟨σ1,H2,I2,q2⟩
end
structure It where
 go:Nat->Hp->Prop
 yld:Nat->Hp->V->Hp->Prop
 stop:Nat->Hp->Prop
noncomputable def FpOk (X:Cx) (pn:List (Addr × Obj)) (H:Hp) (b:Addr):Prop :=
 H b=none /\ b ≠ X.env.locals /\ b ∉ X.fs /\ (b ∈ X.ex \/ X.s₀.heap.objs.size <= b) /\ (∀ x c,X.env.cells.lookup x=some c->c ≠ b) /\ ∀ p ∈ X.pn ++ pn,p.1 ≠ b
theorem Inv.fpOk {X:Cx} {pn:List (Addr × Obj)} {σ:St} {H H':Hp} {s:Shared} {b:Addr} (I:Inv X pn σ H s) (hb:s.heap.objs.size <= b) (hn:H' b=none):FpOk X pn H' b:=by
 refine ⟨hn,Nat.ne_of_gt (Nat.lt_of_lt_of_le I.lt hb),I.nofs hb,.inr (Nat.le_trans I.sz hb),fun x c e z=>?_,fun p hp z=>?_⟩
 ·obtain ⟨v,q⟩:=I.cell x c e
  exact absurd (Nat.lt_of_lt_of_le q.lt (by rw [z]; exact hb)) (Nat.lt_irrefl _)
 ·exact absurd (Nat.lt_of_lt_of_le (Heap.lt_size (I.pin p hp).1) (by rw [z]; exact hb)) (Nat.lt_irrefl _)
structure Turn (P:Program) (w:World) (K:W.Frag) (tg:Expr) (J:It) (fp:List Addr) (it:Addr) (tn:Nat->Heap->Prop):Prop where
 mem:it ∈ fp
 obj:∀ i h,tn i h->∀ b ∈ fp,∃ o,h.get? b=some o /\ ∀ v,o.data ≠ .cell v
 keep:∀ i h h',tn i h->(∀ b ∈ fp,∀ o,h.get? b=some o->h'.get? b=some o)->tn i h'
 item:∀ (X:Cx),X.prog=P->X.w=w->X.K=K->X.calm=true->∀ (i:Nat) (pn:List (Addr × Obj)) (s:Shared) (σ:St) (H:Hp) (E:Value->Shared->Prop),Inv X pn σ H s->(∀ b ∈ fp,FpOk X pn H b)->tn i s.heap->J.go i H ->
  wpAny (model P w) X.A (pyNext (.ref it)) (fun r s1=>∃ u,r=some u /\
   wpAny (model P w) X.A (letOwnedTupleGo tg (.ref it) u) (fun _ s2=>∃ x H',Inv X pn σ H' s2 /\ RelV x u /\ J.yld i H x H' /\ tn (i + 1) s2.heap /\ ∀ b ∈ fp,H' b=none) E s1) E s
 done:∀ (X:Cx),X.prog=P->X.w=w->X.K=K->X.calm=true->∀ (i:Nat) (pn:List (Addr × Obj)) (s:Shared) (σ:St) (H:Hp) (E:Value->Shared->Prop),Inv X pn σ H s->(∀ b ∈ fp,FpOk X pn H b)->tn i s.heap->J.stop i H ->
  wpAny (model P w) X.A (pyNext (.ref it)) (fun r s1=>r=none /\ Inv X pn σ H s1) E s
 self:∀ (A:Around) (i:Nat) (s:Shared) (Q:Value->Shared->Prop) (E:Value->Shared->Prop),tn i s.heap->Q (.ref it) s->wpAny (model P w) A (pyIter (.ref it)) Q E s
noncomputable abbrev TI:=St->Hp->(It->Hp->Prop)->Prop
noncomputable def PIE (X:Cx) (pn:List (Addr × Obj)) (σ:St) (tg:Expr) (R:It->Hp->Prop) (itv:Value) (s2:Shared):Prop :=
 ∃ (it:Addr) (fp:List Addr) (tn:Nat->Heap->Prop) (J:It) (H':Hp),itv=.ref it /\ Inv X pn σ H' s2 /\ Turn X.prog X.w X.K tg J fp it tn /\ tn 0 s2.heap /\ (∀ b ∈ fp,FpOk X pn H' b) /\ R J H'
noncomputable def PI (X:Cx) (tg iter:Expr) (wi:TI):Prop :=
 ∀ (pn:List (Addr × Obj)) (s:Shared) (σ:St) (H:Hp) (R:It->Hp->Prop),Inv X pn σ H s->wi σ H R ->
  wpAny (model X.prog X.w) X.A (eval iter X.env) (fun v s1=>wpAny (model X.prog X.w) X.A (pyIter v) (PIE X pn σ tg R) X.xe s1) X.xe s
theorem Qz {M:Model} {A:Around} {E:Value->Shared->Prop} {s:Shared} {tg:Expr} {it:Addr} {u:Value} {o:Obj} {n:String} {vs:Array Value} {Q:Unit->Shared->Prop} (ho:s.heap.get? it=some o) (hc:o.cls=.type n) (hd:o.data=.fields vs)
  (hn:["enumerate", "zip", "dict_itemiterator", "dict_reverseitemiterator", "odict_iterator", "itertools.zip_longest", "itertools.pairwise"].contains n=false) (hQ:Q () s):wpAny M A (letOwnedTupleGo tg (.ref it) u) Q E s:=by
 unfold letOwnedTupleGo
 cases tg <;> first
  | exact wpAny_pure hQ
  | (cases u <;> first
    | exact wpAny_pure hQ
    | (refine wpAny_bind (wpAny_load ho ?_)
       rw [hc,hd]
       show wpAny M A (if (["enumerate", "zip", "dict_itemiterator", "dict_reverseitemiterator", "odict_iterator", "itertools.zip_longest", "itertools.pairwise"].contains n && vs[0]? == some (rawInt _))=true then _ else _) Q E s
       rw [if_neg (by intro h; rw [hn,Bool.false_and] at h; cases h)]
       exact wpAny_pure hQ))
noncomputable def Itl (K:W.Frag) (a:Addr):It :=
 ⟨fun i H=>∃ xs x,SqL K H a xs /\ xs[i]?=some x,fun i H x H'=>H'=H /\ ∀ xs,SqL K H a xs->xs[i]?=some x,fun i H=>∃ xs,SqL K H a xs /\ xs.length <= i⟩
noncomputable def Itt (K:W.Frag) (a:Addr):It :=
 ⟨fun i H=>∃ xs x,SqT K H a xs /\ xs[i]?=some x,fun i H x H'=>H'=H /\ ∀ xs,SqT K H a xs->xs[i]?=some x,fun i H=>∃ xs,SqT K H a xs /\ xs.length <= i⟩
noncomputable def Itr (lo:Int) (n:Nat):It:=⟨fun i _=>i < n,fun i H x H'=>H'=H /\ x=.int (lo + i),fun i _=>n <= i⟩
theorem R7 {P:Program} {w:World} {K:W.Frag} {tg:Expr} (a it:Addr):Turn P w K tg (Itl K a) [it] it (fun i h=>h.IsListIter it a i) where
 mem:=by simp
 obj:=fun i h st b hb=>by
  have e:b=it:=by simpa using hb
  subst e
  obtain ⟨o,e,c,d⟩:=st
  exact ⟨o,e,fun v z=>by rw [d] at z; cases z⟩
 keep:=fun i h h' st k=>st.at fun o e=>k it (by simp) o e
 item:=by
  intro X hP hw hK hc i pn s σ H E I hf st hg
  subst hP hw hK
  obtain ⟨xs,x,hq,hx⟩:=hg
  obtain ⟨its,rv,p,hz⟩:=I.list hq
  obtain ⟨u,hu,ru⟩:=rv.get hx
  obtain ⟨f0,f1,f2,f3,f4,f5⟩:=hf it (by simp)
  refine wpAny_pyNext_list_item st p.isList (x:=u) (by simpa using hu) fun h' st' sb=>?_
  have I1:Inv X pn σ H { s with heap:=h' }:=I.turned (t':=s.toks) (fun b o hb e=>(sb.2 b hb).trans e) f0 f1 f3 f4 f5
  obtain ⟨o,e,c,d⟩:=id st'
  exact ⟨u,rfl,Qz (s:={ s with heap:=h' }) e c d (by decide) ⟨x,H,I1,ru,⟨rfl,fun ys hy=>by rw [I.list_inj hy hq]; exact hx⟩,st',fun b hb=>(hf b hb).1⟩⟩
 done:=by
  intro X hP hw hK hc i pn s σ H E I hf st hg
  subst hP hw hK
  obtain ⟨xs,hq,hx⟩:=hg
  obtain ⟨its,rv,p,hz⟩:=I.list hq
  obtain ⟨f0,f1,f2,f3,f4,f5⟩:=hf it (by simp)
  have hl:=rv.length
  exact wpAny_pyNext_list_end (I.ok.hd hc) st p.isList (by simp; omega) fun h' eb=>⟨rfl,I.turned (t':=s.toks) (fun b o hb e=>eb b o hb e) f0 f1 f3 f4 f5⟩
 self:=fun _ _ _ _ _ st h=>wpAny_pyIter_listiter st h
theorem T7 {P:Program} {w:World} {K:W.Frag} {tg:Expr} (a it:Addr):Turn P w K tg (Itt K a) [it] it (fun i h=>h.IsTupleIter it a i) where
 mem:=by simp
 obj:=fun i h st b hb=>by
  have e:b=it:=by simpa using hb
  subst e
  obtain ⟨o,e,c,d⟩:=st
  exact ⟨o,e,fun v z=>by rw [d] at z; cases z⟩
 keep:=fun i h h' st k=>st.at fun o e=>k it (by simp) o e
 item:=by
  intro X hP hw hK hc i pn s σ H E I hf st hg
  subst hP hw hK
  obtain ⟨xs,x,hq,hx⟩:=hg
  obtain ⟨its,rv,p,hz⟩:=I.tuple hq
  obtain ⟨u,hu,ru⟩:=rv.get hx
  obtain ⟨f0,f1,f2,f3,f4,f5⟩:=hf it (by simp)
  refine wpAny_pyNext_tuple_item st (show s.heap.IsTuple a its.toArray from p) (x:=u) (by simpa using hu) fun h' st' sb=>?_
  have I1:Inv X pn σ H { s with heap:=h' }:=I.turned (t':=s.toks) (fun b o hb e=>(sb.2 b hb).trans e) f0 f1 f3 f4 f5
  obtain ⟨o,e,c,d⟩:=id st'
  exact ⟨u,rfl,Qz (s:={ s with heap:=h' }) e c d (by decide) ⟨x,H,I1,ru,⟨rfl,fun ys hy=>by rw [I.tuple_inj hy hq]; exact hx⟩,st',fun b hb=>(hf b hb).1⟩⟩
 done:=by
  intro X hP hw hK hc i pn s σ H E I hf st hg
  subst hP hw hK
  obtain ⟨xs,hq,hx⟩:=hg
  obtain ⟨its,rv,p,hz⟩:=I.tuple hq
  obtain ⟨f0,f1,f2,f3,f4,f5⟩:=hf it (by simp)
  have hl:=rv.length
  exact wpAny_pyNext_tuple_end (I.ok.hd hc) st (show s.heap.IsTuple a its.toArray from p) (by simp; omega) fun h' eb=>⟨rfl,I.turned (t':=s.toks) (fun b o hb e=>eb b o hb e) f0 f1 f3 f4 f5⟩
 self:=fun _ _ _ _ _ st h=>wpAny_pyIter_tupleiter st h
theorem T8 {P:Program} {w:World} {K:W.Frag} {tg:Expr} (it:Addr) (lo:Int) (n:Nat):Turn P w K tg (Itr lo n) [it] it (fun i h=>IsRangeIter h it (lo + (i:Nat) * 1) ((n:Int) - (i:Nat)) 1) where
 mem:=by simp
 obj:=fun i h st b hb=>by
  have e:b=it:=by simpa using hb
  subst e
  exact ⟨_,st,fun v z=>by
   have z':Data.fields _=Data.cell v:=z
   cases z'⟩
 keep:=fun i h h' st k=>k it (by simp) _ st
 item:=by
  intro X hP hw hK hc i pn s σ H E I hf st hg
  subst hP hw hK
  obtain ⟨f0,f1,f2,f3,f4,f5⟩:=hf it (by simp)
  have W:=Walks.range (prog:=X.prog) (w:=X.w) (I.ok.hd hc) it lo 1 n
  refine W.item i s _ _ hg st fun v h' tk hv st' kk=>?_
  obtain ⟨t,rfl⟩:=hv
  have I1:Inv X pn σ H { s with heap:=h',toks:=tk }:=I.turned (fun b o hb e=>kk b o (by simpa using hb) e) f0 f1 f3 f4 f5
  refine ⟨_,rfl,Qz (s:={ s with heap:=h',toks:=tk }) (n:="range_iterator") st' rfl rfl (by decide) ⟨.int (lo + i),H,I1,⟨t,?_⟩,⟨rfl,rfl⟩,st',fun b hb=>(hf b hb).1⟩⟩
  rw [Int.mul_one]
 done:=by
  intro X hP hw hK hc i pn s σ H E I hf st hg
  subst hP hw hK
  obtain ⟨f0,f1,f2,f3,f4,f5⟩:=hf it (by simp)
  exact wpAny_pyNext_range_end (I.ok.hd hc) st (by have:n <= i:=hg; omega) fun h' eb=>⟨rfl,I.turned (t':=s.toks) (fun b o hb e=>eb b o hb e) f0 f1 f3 f4 f5⟩
 self:=fun _ _ _ _ _ st h=>wpAny_pyIter_rangeiter st h
section
variable {X:Cx} {tg:Expr}
theorem Ow {pn:List (Addr × Obj)} {σ:St} {H:Hp} {s:Shared} {R:It->Hp->Prop} {E:Value->Shared->Prop} {lo hi:Int} {t u v:Tok} {tk:Nat} (I:Inv X pn σ H s) (h1:-(2 ^ 62) <= lo) (h2:lo < 2 ^ 62) (h3:-(2 ^ 62) <= hi) (h4:hi < 2 ^ 62)
  (q:R (Itr lo (hi - lo).toNat) H):wpAny (model X.prog X.w) X.A (pyIter (.ref s.heap.objs.size)) (PIE X pn σ tg R) E { s with heap:=s.heap.push { cls:=.type "range", data:=.fields #[.int lo t,.int hi u,.int 1 v] },toks:=tk }:=by
 refine wpAny_pyIter_range (IsRange.new ..) (small_one h1 h2 h3 h4) ?_
 have I1:Inv X pn σ H { s with heap:=s.heap.push { cls:=.type "range", data:=.fields #[.int lo t,.int hi u,.int 1 v] },toks:=tk }:=I.kept fun b o e=>Heap.get?_push_of_some _ e
 refine ⟨(s.heap.push { cls:=.type "range", data:=.fields #[.int lo t,.int hi u,.int 1 v] }).objs.size,[(s.heap.push { cls:=.type "range", data:=.fields #[.int lo t,.int hi u,.int 1 v] }).objs.size],_,_,H,rfl,
  I1.kept (t':=tk) fun b o e=>Heap.get?_push_of_some _ e,T8 _ lo (hi - lo).toNat,?_,fun b hb=>?_,q⟩
 ·have e1:lo + ((0:Nat):Int) * 1=lo:=by simp
  have e2:(((hi - lo).toNat:Nat):Int) - ((0:Nat):Int)=Builtin.Range.rangeSize lo hi 1:=by rw [rangeSize_one]; split <;> omega
  show IsRangeIter _ _ (lo + ((0:Nat):Int) * 1) ((((hi - lo).toNat:Nat):Int) - ((0:Nat):Int)) 1
  rw [e1,e2]
  exact Heap.get?_push_size _ rfl
 ·have e:b=(s.heap.push { cls:=.type "range", data:=.fields #[.int lo t,.int hi u,.int 1 v] }).objs.size:=by simpa using hb
  subst e
  exact I1.fpOk (Nat.le_refl _) (I1.hok.fresh (Nat.le_refl _))
noncomputable def Cj (ta:TA):TI:=fun σ H R=>ta σ H fun vs H1=>∃ j:Int,vs=[.int j] /\ -(2 ^ 62) <= j /\ j < 2 ^ 62 /\ R (Itr 0 j.toNat) H1
theorem Q9 {a:Expr} {ta:TA} {p pos:Pos} (hg:Gl X "range") (hm:X.mg "range" = none) (ha:PA X [a] ta) (hs:starEach [a] X.env=[(false,eval a X.env)]:=by rfl):PI X tg (.Call (.Name "range" p) [a] [] pos) (Cj ta):=by
 intro pn s σ H R I h
 refine Call_ (rj I hg hm boot_range (PyProof.Rows.callWith_type1 (thn (ha pos pn s σ H _ I h) fun us s1 ⟨vs,H1,I1,r1,q1⟩=>?_) hs rfl))
 obtain ⟨j,e,q1,q2,q⟩:=q1
 subst e
 cases r1 with
 | cons r rr =>
  cases rr
  obtain ⟨t,rfl⟩:=r
  exact call_range_1 (Ow I1 (by omega) (by omega) q1 q2 (by simpa using q))
noncomputable def tFor (wi:TI) (g:TG) (tb:TS):TS:=fun D σ H=>wi σ H fun J H1=>∃ W:Nat->Nat->St->Hp->Prop,(∃ m,W 0 m σ H1) /\ ∀ i m σ H,W i m σ H ->
 (J.stop i H /\ D.nx σ H) \/ (J.go i H /\ ∃ N:St->Hp->Prop,(∀ σ' H',N σ' H'->∃ m',m' < m /\ W (i + 1) m' σ' H') /\ ∀ x H',J.yld i H x H'->g x σ H' fun σ2 H2=>tb { D with nx:=N,ct:=N,bk:=D.nx } σ2 H2)
noncomputable def Zf (fp:List Addr) (h:Heap):List (Addr × Obj):=fp.filterMap fun b=>(h.get? b).map fun o=>(b,o)
theorem ue {fp:List Addr} {h:Heap} {b:Addr} {o:Obj} (hb:b ∈ fp) (e:h.get? b=some o):(b,o) ∈ Zf fp h:=List.mem_filterMap.mpr ⟨b,hb,by rw [e]; rfl⟩
theorem Qh {fp:List Addr} {h:Heap} {p:Addr × Obj} (hp:p ∈ Zf fp h):p.1 ∈ fp /\ h.get? p.1=some p.2:=by
 obtain ⟨b,hb,e⟩:=List.mem_filterMap.mp hp
 cases q:h.get? b with
 | none=>rw [q] at e; cases e
 | some o =>
  rw [q] at e
  have e':(b,o)=p:=Option.some.inj e
  subst e'
  exact ⟨hb,q⟩
theorem Inv.pinned {pn:List (Addr × Obj)} {σ:St} {H:Hp} {s:Shared} {fp:List Addr} (I:Inv X pn σ H s) (hf:∀ b ∈ fp,FpOk X pn H b) (ho:∀ b ∈ fp,∃ o,s.heap.get? b=some o /\ ∀ v,o.data ≠ .cell v):Inv X (pn ++ Zf fp s.heap) σ H s :=
 I.pins_of fun p hp=>(List.mem_append.mp hp).elim (fun z=>I.pin p (List.mem_append_right _ z)) fun z=>by
  obtain ⟨hb,e⟩:=Qh z
  obtain ⟨f0,f1,f2,_⟩:=hf p.1 hb
  obtain ⟨o,e',d⟩:=ho p.1 hb
  rw [e] at e'; cases e'
  exact ⟨e,f0,f1,f2,d⟩
theorem Inv.unpinned {pn pl:List (Addr × Obj)} {σ:St} {H:Hp} {s:Shared} (I:Inv X (pn ++ pl) σ H s):Inv X pn σ H s:=I.pins_of fun p hp=>I.pin p (List.mem_append_right _ (List.mem_append_left _ hp))
theorem Fn {iter:Expr} {body:List Stmt} {wi:TI} {g:TG} {tb:TS} {pos:Pos} (hp:PassesOwn (model X.prog X.w) X.A X.env X.xe) (hc:X.calm=true) (hi:PI X tg iter wi) (hg:PG X tg g) (hb:PSs X body tb)
  (hs:∀ x,foldedSetIterable iter X.env x=pure x:=by intro _; rfl):PS X (.For tg iter body [] pos) (tFor wi g tb):=by
 intro pn s σ H D I h
 refine wpAny_For (thn (hi pn s σ H _ I h) fun v s1 h1=>thn h1 fun itv s2 h2=>?_) hs
 obtain ⟨it,fp,tn,J,H2,e,I2,T,st2,f2,W,⟨m0,w0⟩,turn⟩:=h2
 subst e
 have stat:∀ {H':Hp},(∀ b ∈ fp,H' b=none)->∀ b ∈ fp,FpOk X pn H' b:=fun hn b hb=>⟨hn b hb,(f2 b hb).2⟩
 refine codeAny_forLoop_any (fun n s'=>∃ i σ' H',Inv X pn σ' H' s' /\ tn i s'.heap /\ (∀ b ∈ fp,H' b=none) /\ W i n σ' H') ?_ m0 ⟨0,σ,H2,I2,st2,fun b hb=>(f2 b hb).1,w0⟩
 rintro n s3 ⟨i,σ3,H3,I3,st3,fr3,w3⟩
 rcases turn i n σ3 H3 w3 with ⟨stop,qn⟩ | ⟨go,N,hN,step⟩
 ·refine wpAny_passesOwn hp (thn (T.done X rfl rfl rfl hc i pn s3 σ3 H3 X.xe I3 (stat fr3) st3 stop) fun r s4 ⟨hr,I4⟩=>?_)
  subst hr
  exact wpAny_execs_nil ⟨σ3,H3,I4,qn⟩
 ·refine wpAny_passesOwn hp (thn (T.item X rfl rfl rfl hc i pn s3 σ3 H3 X.xe I3 (stat fr3) st3 go) fun r s4 ⟨u,hr,h4⟩=>?_)
  subst hr
  refine wpAny_passesOwn hp (thn h4 fun _ s5 ⟨x,H5,I5,r5,y5,st5,fr5⟩=>?_)
  have I5':=I5.pinned (stat fr5) (T.obj _ _ st5)
  refine wpAny_passesOwn hp (thn (hg _ s5 σ3 H5 x u _ I5' r5 (step x H5 y5)) fun _ s6 ⟨σ6,H6,I6,q6⟩=>?_)
  refine wpAny_passesOwn hp (thn (hb _ s6 σ6 H6 _ I6 q6) fun f s7 q7=>?_)
  have again:∀ {σ7:St} {H7:Hp},Inv X (pn ++ Zf fp s5.heap) σ7 H7 s7->N σ7 H7->∃ m,m < n /\ ∃ i σ' H',Inv X pn σ' H' s7 /\ tn i s7.heap /\ (∀ b ∈ fp,H' b=none) /\ W i m σ' H':=fun {σ7 H7} I7 n7=>by
   obtain ⟨m',hm,w7⟩:=hN σ7 H7 n7
   refine ⟨m',hm,i + 1,σ7,H7,I7.unpinned,T.keep _ _ _ st5 fun b hb o e=>(I7.pin (b,o) (List.mem_append_right _ (List.mem_append_right _ (ue hb e)))).1,fun b hb=>?_,w7⟩
   obtain ⟨o,e,d⟩:=T.obj _ _ st5 b hb
   exact (I7.pin (b,o) (List.mem_append_right _ (List.mem_append_right _ (ue hb e)))).2.1
  cases f with
  | next=>obtain ⟨σ7,H7,I7,n7⟩:=q7; exact again I7 n7
  | cont=>obtain ⟨σ7,H7,I7,n7⟩:=q7; exact again I7 n7
  | brk=>obtain ⟨σ7,H7,I7,q7⟩:=q7; exact ⟨σ7,H7,I7.unpinned,q7⟩
  | ret v=>obtain ⟨x7,σ7,H7,I7,r7,q7⟩:=q7; exact ⟨x7,σ7,H7,I7.unpinned,r7,q7⟩
end
noncomputable abbrev R2:=V->V->Hp->VK->Prop
noncomputable def OpR (X:Cx) (f:Value->Value->Sem Value) (r:R2):Prop :=
 ∀ (pn:List (Addr × Obj)) (s:Shared) (σ:St) (H:Hp) (x y:V) (v u:Value) (Q:VK),Inv X pn σ H s->RelV x v->RelV y u->r x y H Q ->
  wpAny (model X.prog X.w) X.A (f v u) (EP X pn σ Q) X.xe s
noncomputable def UnR (X:Cx) (f:Value->Sem Value) (r:V->Hp->VK->Prop):Prop :=
 ∀ (pn:List (Addr × Obj)) (s:Shared) (σ:St) (H:Hp) (x:V) (v:Value) (Q:VK),Inv X pn σ H s->RelV x v->r x H Q ->
  wpAny (model X.prog X.w) X.A (f v) (EP X pn σ Q) X.xe s
noncomputable def uv (X:Cx) (f:Value) (r:List V->Hp->VK->Prop):Prop :=
 ∀ (pn:List (Addr × Obj)) (s:Shared) (σ:St) (H:Hp) (xs:List V) (us:List Value) (Q:VK),Inv X pn σ H s->Vals xs us->r xs H Q ->
  wpAny (model X.prog X.w) X.A (call f us) (EP X pn σ Q) X.xe s
noncomputable def TruR (X:Cx) (r:V->Hp->(Bool->Hp->Prop)->Prop):Prop :=
 ∀ (pn:List (Addr × Obj)) (s:Shared) (σ:St) (H:Hp) (x:V) (v:Value) (Q:Bool->Hp->Prop),Inv X pn σ H s->RelV x v->r x H Q ->
  wpAny (model X.prog X.w) X.A (truthy v) (TP X pn σ Q) X.xe s
noncomputable def tOp (r:R2) (ta tb:TE):TE:=fun σ H Q=>ta σ H fun x H1=>tb σ H1 fun y H2=>r x y H2 Q
noncomputable def tUn (r:V->Hp->VK->Prop) (ta:TE):TE:=fun σ H Q=>ta σ H fun x H1=>r x H1 Q
noncomputable def rI (C:Int->Int->Prop) (g:Int->Int->V):R2:=fun x y H Q=>∃ i j,x=.int i /\ y=.int j /\ C i j /\ Q (g i j) H
noncomputable def rI0 (g:Int->Int->V):R2:=fun x y H Q=>∃ i j,x=.int i /\ y=.int j /\ Q (g i j) H
noncomputable def rU (g:Int->V):V->Hp->VK->Prop:=fun x H Q=>∃ i,x=.int i /\ Q (g i) H
section
variable {X:Cx} {a b c:Expr} {ta tb tc:TE} {pos:Pos}
theorem binT (ha:PE X a ta) (hb:PE X b tb) {pn:List (Addr × Obj)} {s:Shared} {σ:St} {H:Hp} {R:V->V->Hp->Prop} (I:Inv X pn σ H s)
  (h:ta σ H fun x H1=>tb σ H1 fun y H2=>R x y H2) {Q:Value->Shared->Prop} {f:Value->Value->Sem Value}
  (hf:∀ v u s2 x y H2,Inv X pn σ H2 s2->RelV x v->RelV y u->R x y H2->wpAny (model X.prog X.w) X.A (f v u) Q X.xe s2) :
  wpAny (model X.prog X.w) X.A (eval a X.env) (fun v s₁=>wpAny (model X.prog X.w) X.A (eval b X.env) (fun u s₂=>wpAny (model X.prog X.w) X.A (f v u) Q X.xe s₂) X.xe s₁) X.xe s:=by
 refine thn (ha pn s σ H _ I h) fun v s1 ⟨x,H1,I1,r1,q1⟩=>?_
 refine thn (hb pn s1 σ H1 _ I1 q1) fun u s2 ⟨y,H2,I2,r2,q2⟩=>?_
 exact hf v u s2 x y H2 I2 r1 r2 q2
theorem Fv {op:Operator} {r:R2} (ho:OpR X (binaryOp op) r) (ha:PE X a ta) (hb:PE X b tb):PE X (.BinOp a op b pos) (tOp r ta tb):=by
 intro pn s σ H Q I h
 exact wpAny_BinOp (binT ha hb I h fun v u s2 x y H2 I2 rx ry q=>ho pn s2 σ H2 x y v u Q I2 rx ry q)
theorem C6 {op:UnaryOp} {r:V->Hp->VK->Prop} (ho:UnR X (unaryOp op) r) (ha:PE X a ta):PE X (.UnaryOp op a pos) (tUn r ta):=by
 intro pn s σ H Q I h
 exact UnaryOp_ (thn (ha pn s σ H _ I h) fun v s1 ⟨x,H1,I1,r1,q1⟩=>ho pn s1 σ H1 x v Q I1 r1 q1)
theorem opI {f:Value->Value->Sem Value} {C:Int->Int->Prop} {g:Int->Int->Int}
  (rule:∀ (i j:Int) (t u:Tok) (s:Shared) (Q:Value->Shared->Prop) (E:Value->Shared->Prop),C i j->Q (.int (g i j) s.toks) { s with toks:=s.toks + 1 }->wpAny (model X.prog X.w) X.A (f (.int i t) (.int j u)) Q E s) :
  OpR X f (rI C fun i j=>.int (g i j)):=by
 intro pn s σ H x y v u Q I rx ry h
 obtain ⟨i,j,rfl,rfl,hc,q⟩:=h
 obtain ⟨t,rfl⟩:=rx
 obtain ⟨t',rfl⟩:=ry
 exact rule i j t t' s _ _ hc ⟨.int (g i j),H,I.tok _,⟨_,rfl⟩,q⟩
theorem opI0 {f:Value->Value->Sem Value} {g:Int->Int->Int}
  (rule:∀ (i j:Int) (t u:Tok) (s:Shared) (Q:Value->Shared->Prop) (E:Value->Shared->Prop),Q (.int (g i j) s.toks) { s with toks:=s.toks + 1 }->wpAny (model X.prog X.w) X.A (f (.int i t) (.int j u)) Q E s) :
  OpR X f (rI0 fun i j=>.int (g i j)):=by
 intro pn s σ H x y v u Q I rx ry h
 obtain ⟨i,j,rfl,rfl,q⟩:=h
 obtain ⟨t,rfl⟩:=rx
 obtain ⟨t',rfl⟩:=ry
 exact rule i j t t' s _ _ ⟨.int (g i j),H,I.tok _,⟨_,rfl⟩,q⟩
theorem opB0 {f:Value->Value->Sem Value} {g:Int->Int->Bool}
  (rule:∀ (i j:Int) (t u:Tok) (s:Shared) (Q:Value->Shared->Prop) (E:Value->Shared->Prop),Q (.bool (g i j)) s->wpAny (model X.prog X.w) X.A (f (.int i t) (.int j u)) Q E s) :
  OpR X f (rI0 fun i j=>.bl (g i j)):=by
 intro pn s σ H x y v u Q I rx ry h
 obtain ⟨i,j,rfl,rfl,q⟩:=h
 obtain ⟨t,rfl⟩:=rx
 obtain ⟨t',rfl⟩:=ry
 exact rule i j t t' s _ _ ⟨.bl (g i j),H,I,rfl,q⟩
noncomputable def CPow (i j:Int):Prop:=0 <= j /\ j <= 1000000 /\ i.natAbs < 2 ^ 64
theorem Eb:OpR X (binaryOp .Add) (rI0 fun i j=>.int (i + j)):=opI0 fun _ _ _ _ _ _ _ q=>add_int q
theorem E5:OpR X (binaryOp .Sub) (rI0 fun i j=>.int (i - j)):=opI0 fun _ _ _ _ _ _ _ q=>sub_int q
theorem Jj:OpR X (binaryOp .Mod) (rI (fun _ j=>j ≠ 0) fun i j=>.int (i.fmod j)):=opI fun _ _ _ _ _ _ _ hc q=>mod_int' hc q
theorem E7:OpR X (binaryOp .Pow) (rI CPow fun i j=>.int (i ^ j.toNat)):=opI fun _ _ _ _ _ _ _ hc q=>pow_int_small hc.1 hc.2.1 hc.2.2 q
theorem unI {f:Value->Sem Value} {g:Int->Int}
  (rule:∀ (i:Int) (t:Tok) (s:Shared) (Q:Value->Shared->Prop) (E:Value->Shared->Prop),Q (.int (g i) s.toks) { s with toks:=s.toks + 1 }->wpAny (model X.prog X.w) X.A (f (.int i t)) Q E s) :
  UnR X f (rU fun i=>.int (g i)):=by
 intro pn s σ H x v Q I rx h
 obtain ⟨i,rfl,q⟩:=h
 obtain ⟨t,rfl⟩:=rx
 exact rule i t s _ _ ⟨.int (g i),H,I.tok _,⟨_,rfl⟩,q⟩
theorem Ga:UnR X (unaryOp .USub) (rU fun i=>.int (-i)):=unI fun _ _ _ _ _ q=>neg_int q
theorem Lq {pn:List (Addr × Obj)} {σ:St} {H:Hp} {s:Shared} {Q:VK} {k k':Bool} (I:Inv X pn σ H s) (q:Q (.bl k) H) (e:k=k'):EP X pn σ Q (.bool k') s:=by
 subst e
 exact ⟨.bl k,H,I,rfl,q⟩
theorem C9:OpR X (compareOp .Lt) (rI0 fun i j=>.bl (decide (i < j))):=opB0 fun _ _ _ _ _ _ _ q=>lt_int q
theorem Ca:OpR X (compareOp .Gt) (rI0 fun i j=>.bl (decide (j < i))):=opB0 fun _ _ _ _ _ _ _ q=>gt_int q
theorem Cb:OpR X (compareOp .GtE) (rI0 fun i j=>.bl (decide (j <= i))):=opB0 fun _ _ _ _ _ _ _ q=>ge_int q
theorem E9:OpR X (compareOp .Is) (fun x y H Q=>y=.non /\ Q (.bl (decide (x=.non))) H):=by
 intro pn s σ H x y v u Q I rx ry h
 obtain ⟨rfl,q⟩:=h
 cases ry
 refine is_none_gen (Lq I q ?_)
 cases x <;> first
  | (cases rx; rfl)
  | (obtain ⟨t,rfl⟩:=rx; rfl)
theorem Jh:OpR X (compareOp .IsNot) (fun x y H Q=>y=.non /\ Q (.bl (!decide (x=.non))) H):=by
 intro pn s σ H x y v u Q I rx ry h
 obtain ⟨rfl,q⟩:=h
 cases ry
 refine isnot_none_gen (Lq I q ?_)
 cases x <;> first
  | (cases rx; rfl)
  | (obtain ⟨t,rfl⟩:=rx; rfl)
theorem OpR.or {f:Value->Value->Sem Value} {r r':R2} (h:OpR X f r) (h':OpR X f r'):OpR X f (fun x y H Q=>r x y H Q \/ r' x y H Q):=by
 intro pn s σ H x y v u Q I rx ry q
 rcases q with q | q
 ·exact h pn s σ H x y v u Q I rx ry q
 ·exact h' pn s σ H x y v u Q I rx ry q
theorem rh (b:Expr) {op:CmpOp} (h:op ≠ .In:=by decide) (h2:op ≠ .NotIn:=by decide):behindInMarks op b=false:=by
 have e1:(op == CmpOp.In)=false:=by cases op <;> first | rfl | exact absurd rfl h
 have e2:(op == CmpOp.NotIn)=false:=by cases op <;> first | rfl | exact absurd rfl h2
 cases b <;> simp [behindInMarks,e1,e2]
theorem Je {op:CmpOp} {r:R2} (ho:OpR X (compareOp op) r) (ha:PE X a ta) (hb:PE X b tb) (hm:behindInMarks op b=false):PE X (.Compare a [op] [b] pos) (tOp r ta tb):=by
 intro pn s σ H Q I h
 exact wpAny_Compare1 (binT ha hb I h fun v u s2 x y H2 I2 rx ry q=>ho pn s2 σ H2 x y v u Q I2 rx ry q) hm
noncomputable def Dr (t:TE):TT:=fun σ H Q=>t σ H fun x H'=>∃ k,x=.bl k /\ Q k H'
theorem J2 {op:CmpOp} {r:R2} (ho:OpR X (compareOp op) r) (ha:PE X a ta) (hb:PE X b tb) (hm:behindInMarks op b=false):PT X (.Compare a [op] [b] pos) (Dr (tOp r ta tb)):=by
 intro pn s σ H Q I h
 refine wpAny_isTrue_Compare1 (thn (ha pn s σ H _ I h) fun v s1 ⟨x,H1,I1,r1,q1⟩=>thn (hb pn s1 σ H1 _ I1 q1) fun u s2 ⟨y,H2,I2,r2,q2⟩ =>
  thn (ho pn s2 σ H2 x y v u _ I2 r1 r2 q2) fun c s3 ⟨z,H3,I3,r3,k,e,q3⟩=>?_) hm
 subst e
 cases r3
 exact wpAny_truthy_bool ⟨H3,I3,q3⟩
noncomputable def TruV (K:W.Frag) (x:V) (H:Hp) (k:Bool):Prop :=
 match x with
 | .non=>k=false
 | .bl b=>k=b
 | .int i=>k=(i != 0)
 | .str y=>y.length <= sizeLine /\ k=((y.length:Int) != 0)
 | .byt y=>y.size <= sizeLine /\ k=((y.size:Int) != 0)
 | .ref p=>(∃ xs,SqL K H p xs /\ k=!xs.isEmpty) \/ (∃ xs,SqT K H p xs /\ k=!xs.isEmpty) \/ ∃ kvs,H p=some (.dK kvs) /\ k=!kvs.isEmpty
 | _=>False
theorem Sk {κ:Type} {kvs:List (κ × V)} {vs:List (κ × Value)} (r:KV kvs vs):(!vs.isEmpty)=!kvs.isEmpty:=by
 cases r <;> rfl
theorem gy {xs:List V} {its:List Value} (r:Vals xs its):(!its.toArray.isEmpty)=!xs.isEmpty:=by
 cases r <;> simp
theorem t4:(sizeLine:Nat) < 2 ^ 63:=by rw [sizeLine_eq]; decide
theorem Gc:TruR X (fun x H Q=>∃ k,TruV X.K x H k /\ Q k H):=by
 intro pn s σ H x v Q I rx h
 obtain ⟨k,e,q⟩:=h
 have hl:=t4
 have hs:sizeLine=16777216:=sizeLine_eq
 cases x with
 | non =>
  cases rx
  have e':k=false:=e
  subst e'
  exact truthy_none ⟨H,I,q⟩
 | bl b =>
  cases rx
  have e':k=b:=e
  subst e'
  exact wpAny_truthy_bool ⟨H,I,q⟩
 | int i =>
  obtain ⟨t,rfl⟩:=rx
  have e':k=(i != 0):=e
  subst e'
  exact PySem.P.truthy_int ⟨H,I,q⟩
 | str y =>
  obtain ⟨t,rfl⟩:=rx
  obtain ⟨hy,e'⟩:y.length <= sizeLine /\ k=((y.length:Int) != 0):=e
  subst e'
  exact PySem.P.truthy_str (by omega) ⟨H,I.tok _,q⟩
 | byt y =>
  obtain ⟨t,rfl⟩:=rx
  obtain ⟨hy,e'⟩:y.size <= sizeLine /\ k=((y.size:Int) != 0):=e
  subst e'
  exact W.truthy_bytes (by omega) ⟨H,I.tok _,q⟩
 | ref p =>
  cases rx
  have e':(∃ xs,SqL X.K H p xs /\ k=!xs.isEmpty) \/ (∃ xs,SqT X.K H p xs /\ k=!xs.isEmpty) \/ ∃ kvs,H p=some (.dK kvs) /\ k=!kvs.isEmpty:=e
  rcases e' with ⟨xs,hx,e'⟩ | ⟨xs,hx,e'⟩ | ⟨kvs,hx,e'⟩
  ·subst e'
   obtain ⟨its,r,pl,hz⟩:=I.list hx
   have hlen:=r.length
   exact wpAny_truthy_list pl.isList (by simp only [List.size_toArray]; omega) ⟨H,I.tok _,by rw [gy r]; exact q⟩
  ·subst e'
   obtain ⟨its,r,pl,hz⟩:=I.tuple hx
   have hlen:=r.length
   exact truthy_tuple pl (by simp only [List.size_toArray]; omega) ⟨H,I.tok _,by rw [gy r]; exact q⟩
  ·subst e'
   obtain ⟨hz,hS,vs,r,m⟩:kvs.length <= sizeLine /\ (p == sysModules)=false /\ ∃ vs,KV kvs vs /\ s.heap.DictOf (yg X.prog X.w) p vs:=I.hok p _ hx
   have hlen:kvs.length=vs.length:=Paired.length r
   exact wpAny_truthy_dict hS m (by omega) ⟨H,I.tok _,by rw [Sk r]; exact q⟩
 | _=>exact (show False from e).elim
theorem N0 (ha:PE X a ta) (he:∀ whole,isTrue a X.env whole=(do let v <- whole; standAt a.pos; holding [v] (truthy v))) :
  PT X a (fun σ H Q=>ta σ H fun x H'=>∃ k,TruV X.K x H' k /\ Q k H'):=by
 intro pn s σ H Q I h
 exact isTrue_plain (thn (ha pn s σ H _ I h) fun v s1 ⟨x,H1,I1,r1,q1⟩=>Gc pn s1 σ H1 x v Q I1 r1 q1) (he _)
theorem Tg:OpR X (binaryOp .Add) (fun x y H Q=>∃ i j,x=.str i /\ y=.str j /\ i.length + j.length <= sizeLine /\ Q (.str (i ++ j)) H):=by
 intro pn s σ H x y v u Q I rx ry h
 obtain ⟨i,j,rfl,rfl,hz,q⟩:=h
 obtain ⟨t,rfl⟩:=rx
 obtain ⟨t',rfl⟩:=ry
 exact add_str (fun t' tk=>⟨.str (i ++ j),H,I.tok _,⟨_,rfl⟩,q⟩) hz
theorem Z1 {x:V} {us:List Value} (r:Vals [x] us):∃ u,us=[u] /\ RelV x u:=by
 cases r with
 | cons r1 r2=>cases r2; exact ⟨_,rfl,r1⟩
theorem K6 {x y:V} {us:List Value} (r:Vals [x,y] us):∃ u w',us=[u,w'] /\ RelV x u /\ RelV y w':=by
 cases r with
 | cons r1 r2 =>
  cases r2 with
  | cons r3 r4=>cases r4; exact ⟨_,_,rfl,r1,r3⟩
end
structure ObjM (h:Heap) (x dx C:Addr) (mA:Str->Option Value):Prop where
 obj:h.get? x=some (W.instObj C dx)
 ns:h.Ns1 dx mA
 ne:dx ≠ x
theorem Ql {h:Heap} {dx:Addr} {mA:Str->Option Value} (n:h.Ns1 dx mA):∃ od,h.get? dx=some od /\ ∀ name,W.lookIn name od=some (mA name):=by
 obtain ⟨o,es,ep,ho,hd,hk,_,hm⟩:=n
 refine ⟨o,ho,fun name=>?_⟩
 have e:=hm name
 unfold nsFind findBy at e
 rw [<- Array.find?_toList] at e
 unfold W.lookIn
 rw [hd]
 dsimp only
 split
 ·rename_i y q
  rw [q] at e
  exact congrArg some e
 ·rename_i q
  rw [q] at e
  have a:es.toList.any (·.refKey)=false:=by
   rw [List.any_eq_false]
   intro y hy
   obtain ⟨z,t,hkey⟩:=hk y (Array.mem_toList_iff.mp hy)
   simp [DictEntry.refKey,hkey]
  have a':¬ es.toList.any (·.refKey)=true:=by rw [a]; exact Bool.false_ne_true
  rw [if_neg a']
  exact congrArg some e
theorem ObjM.look {h:Heap} {x dx C:Addr} {mA:Str->Option Value} (I:ObjM h x dx C mA):∃ od,W.InstAt h x (W.instObj C dx) C (some od) /\ ∀ name,W.lookIn name od=some (mA name) :=
 let ⟨od,ho,hl⟩:=Ql I.ns
 ⟨od,⟨I.obj,rfl,rfl,ho⟩,hl⟩
section
variable {prog:Program} {w:World} {A:Around} {E:Value->Shared->Prop} {s:Shared} {K:W.Frag} {x dx C f:Addr} {mA:Str->Option Value} {name:Str} {v:Value}
theorem Hd {expr:Bool} {Q:Value->Shared->Prop} (X:K.In s.heap) (I:ObjM s.heap x dx C mA) (hg:W.plainGet K C name=true) (hh:W.hasDictIn K C=true)
  (ha:W.findIn K (.ref C) name=some none) (hv:mA name=some v) (hv':W.handedIn v=true) (h:Q v { s with toks:=s.toks + 1 }) :
  wpAny (model prog w) A (getAttr (.ref x) name expr) Q E s:=by
 obtain ⟨od,J,hl⟩:=I.look
 exact W.get_value X J (W.plainGet_of hg).1 (W.findObj_own hh ha rfl (by rw [hl,hv])) hv' h
theorem Nx {pl:Sem Bool} {Q:Value × List Value->Shared->Prop} (X:K.In s.heap) (I:ObjM s.heap x dx C mA) (hg:W.plainGet K C name=true)
  (hf:W.findIn K (.ref C) name=some (some (.ref f))) (ht:W.isFn K (.ref f)=true) (hv:mA name=none) (h:Q (.ref f,[.ref x]) s) :
  wpAny (model prog w) A (getMethod (.ref x) name pl) Q E s:=by
 obtain ⟨od,J,hl⟩:=I.look
 exact W.method_fn X J (W.plainGet_of hg).1 (W.plainGet_of hg).2 hf (beq_iff_eq.mp ht) (by show (W.lookIn name od).map (·.isSome)=some false; rw [hl,hv]; rfl) h
theorem Kj {ns:List Str} {Q:Unit->Shared->Prop} (X:K.In s.heap) (I:ObjM s.heap x dx C mA)
  (hs:W.findIn K (.ref C) "__setattr__" = some (some (.builtin "object.__setattr__"))) (hp:W.plainOver K C=true) (ht:W.takerIn K C name=some none) (hh:W.hasDictIn K C=true)
  (hw:PySem.Within mA ns) (hsz:ns.length <= sizeLine)
  (h:∀ h',ObjM h' x dx C (fun y=>if y=name then some v else mA y)->Heap.SameBut dx s.heap h'->Q () { s with heap:=h',toks:=s.toks + 2 }) :
  wpAny (model prog w) A (setAttr (.ref x) name v) Q E s:=by
 obtain ⟨od,J,hl⟩:=I.look
 refine W.set_plain X J hs (W.osa_open (s:={ s with toks:=s.toks + 1 }) (r:=none) X J hp ht fun b=>?_)
 obtain ⟨cd,hc,hd'⟩:=W.any_some hh
 have hx:s.heap.get? x=some ⟨.ref C,some dx,.plain,#[]⟩:=I.obj
 refine wpAny_bind (wpAny_pure (wpAny_bind (wpAny_bind (wpAny_loadPart hx (wpAny_bind (W.Looks.here (s:={ s with toks:=s.toks + 1 }) (W.looks_clsIn X hc) ?_))))))
 rw [hd']
 refine wpAny_pure (a:=some dx) (wpAny_bind (wpAny_pure (wpAny_bind ?_)))
 refine wpAny_nsSet1 (s:={ s with toks:=s.toks + 1 }) I.ns fun h' hn2 hs2=>?_
 obtain ⟨oD,esD,epD,hoD,hdD,hcD⟩:=hn2.count (PySem.Within.cons name v hw)
 refine wpAny_bind (wpAny_lookBehind hoD (by rw [hdD]; exact pastItsLine_dict (Nat.le_trans hcD (by rw [zLc]; omega))) ?_)
 exact wpAny_pure (h _ ⟨(hs2.2 _ (Ne.symm I.ne)).trans I.obj,hn2,I.ne⟩ hs2)
theorem Nb {R:Result->Shared->Prop} {vs:List Value} {kw:List (Str × Value)} (X:K.In s.heap) (hm:W.makesIn K C=true)
  (hi:W.findIn K (.ref C) "__init__" = some (some (.ref f))) (hf:W.typeIn K (.ref f)=some (.type "function"))
  (h:codeAny (model prog w) (A.under (.builtin "type.__call__" ⟨.ref C :: vs,kw⟩)) (.call (.ref f) ⟨.ref (s.heap.objs.size + 1) :: vs,kw⟩) (W.InitBack (s.heap.objs.size + 1) R)
   { s with heap:=(s.heap.push W.emptyDict).push (W.instObj C s.heap.objs.size) }) :
  codeAny (model prog w) A (.call (.ref C) ⟨vs,kw⟩) R s:=by
 obtain ⟨hh,g,d,t,os⟩:=s
 exact W.make_core (W.makes_of X hm) (W.looks_findIn X hi) (fun self=>W.bind_fn X self hf) (.inl rfl) h
end
noncomputable def putF (f:Str) (v:V):List (Str × V)->List (Str × V)
 | []=>[(f,v)]
 | (g,x) :: r=>if g=f then (g,v) :: r else (g,x) :: putF f v r
theorem kh (f g:Str) (v:V):∀ fs:List (Str × V),(putF f v fs).lookup g=if g=f then some v else fs.lookup g
 | []=>by
  show List.lookup g [(f,v)]=_
  by_cases h:g=f
  ·have hb:(g == f)=true:=beq_iff_eq.mpr h
   simp only [List.lookup,hb,if_pos h]
  ·have hb:(g == f)=false:=beq_eq_false_iff_ne.mpr h
   simp only [List.lookup,hb,if_neg h]
 | (k,x) :: r=>by
  have ih:=kh f g v r
  rw [show putF f v ((k,x) :: r)=(if k=f then (k,v) :: r else (k,x) :: putF f v r) from rfl]
  by_cases hk:k=f
  ·rw [if_pos hk]
   by_cases h:g=k
   ·have hb:(g == k)=true:=beq_iff_eq.mpr h
    simp only [List.lookup,hb,if_pos (h.trans hk)]
   ·have hb:(g == k)=false:=beq_eq_false_iff_ne.mpr h
    simp only [List.lookup,hb,if_neg (fun e:g=f=>h (e.trans hk.symm))]
  ·rw [if_neg hk]
   by_cases h:g=k
   ·have hb:(g == k)=true:=beq_iff_eq.mpr h
    simp only [List.lookup,hb,if_neg (fun e:g=f=>hk (h.symm.trans e))]
   ·have hb:(g == k)=false:=beq_eq_false_iff_ne.mpr h
    simp only [List.lookup,hb]
    exact ih
theorem j6 (f:Str) (v:V):∀ fs:List (Str × V),f ∈ (putF f v fs).map (·.1) /\ ∀ g,g ∈ fs.map (·.1)->g ∈ (putF f v fs).map (·.1)
 | []=>⟨by simp [putF],fun g h=>by simp at h⟩
 | (k,x) :: r=>by
  obtain ⟨i1,i2⟩:=j6 f v r
  rw [show putF f v ((k,x) :: r)=(if k=f then (k,v) :: r else (k,x) :: putF f v r) from rfl]
  by_cases hk:k=f
  ·rw [if_pos hk]
   subst hk
   exact ⟨by simp,fun g h=>by simpa using h⟩
  ·rw [if_neg hk]
   refine ⟨?_,fun g h=>?_⟩
   ·rw [List.map_cons]
    exact List.mem_cons_of_mem _ i1
   ·rw [List.map_cons] at h ⊢
    rcases List.mem_cons.mp h with e | e
    ·exact List.mem_cons.mpr (.inl e)
    ·exact List.mem_cons_of_mem _ (i2 g e)
theorem kj (f:Str) (v:V):∀ fs:List (Str × V),(putF f v fs).length <= fs.length + 1
 | []=>by simp [putF]
 | (k,x) :: r=>by
  have ih:=kj f v r
  rw [show putF f v ((k,x) :: r)=(if k=f then (k,v) :: r else (k,x) :: putF f v r) from rfl]
  by_cases hk:k=f
  ·rw [if_pos hk,zLc,zLc]; omega
  ·rw [if_neg hk,zLc,zLc]; omega
theorem RelO.some_of {v:V} {o:Option Value} (r:RelO (some v) o):∃ u,o=some u /\ RelV v u:=by
 cases o with
 | none=>exact (show False from r).elim
 | some u=>exact ⟨u,rfl,r⟩
theorem RelO.none_of {o:Option Value} (r:RelO none o):o=none:=by
 cases o with
 | none=>rfl
 | some u=>exact (show False from r).elim
theorem Qy {v:V} {u:Value} (r:RelV v u):W.handedIn u=true:=by
 cases v with
 | non=>cases (show u=Value.none from r); rfl
 | bl b=>cases (show u=Value.bool b from r); rfl
 | int i=>obtain ⟨t,e⟩:=(show ∃ t,u=Value.int i t from r); cases e; rfl
 | str x=>obtain ⟨t,e⟩:=(show ∃ t,u=Value.str x t from r); cases e; rfl
 | byt b=>obtain ⟨t,e⟩:=(show ∃ t,u=Value.bytes b t from r); cases e; rfl
 | flt b=>obtain ⟨t,e⟩:=(show ∃ t,u=Value.float b t from r); cases e; rfl
 | ref a=>cases (show u=Value.ref a from r); rfl
 | ty n=>cases (show u=Value.type n from r); rfl
section
variable {P:Program} {w:World} {H H':Hp} {h h':Heap} {a C dx:Addr} {fs fs':List (Str × V)}
theorem cx (hok:HOk P w H h) (e:H a=some (.ins C dx fs)):∃ mA,ObjM h a dx C mA /\ (∀ f,RelO (fs.lookup f) (mA f)) /\ PySem.Within mA (fs.map (·.1)) /\ fs.length <= 1000 /\ H dx=some (.own a):=by
 obtain ⟨d,z,ne,ob,mA,n,r,q⟩:=(show wj P w H h a (.ins C dx fs) from hok a _ e)
 exact ⟨mA,⟨ob,n,ne⟩,r,q,z,d⟩
end
structure Cls (K:W.Frag) (C:Addr):Prop where
 pg:W.plainGet K C Str.empty=true
 hd:W.hasDictIn K C=true
 po:W.plainOver K C=true
 sa:W.findIn K (.ref C) "__setattr__" = some (some (.builtin "object.__setattr__"))
theorem Cls.get {K:W.Frag} {C:Addr} (c:Cls K C) (f:Str):W.plainGet K C f=true:=c.pg
noncomputable def rn (K:W.Frag) (C:Addr) (f:Str):Prop:=W.findIn K (.ref C) f=some none
theorem rn.taker {K:W.Frag} {C:Addr} {f:Str} (n:rn K C f):W.takerIn K C f=some none:=by
 unfold W.takerIn
 rw [show W.findIn K (.ref C) f=some none from n]
 rfl
structure Con (K:W.Frag) (C:Addr) (f:Str) (v:V) (u:Value):Prop where
 at_:W.findIn K (.ref C) f=some (some u)
 rel:RelV v u
 get:W.specialIn K u "__get__" = some none
 cp:W.copiedNames.contains f=false
structure Meth (K:W.Frag) (C:Addr) (m:Str) (f:Addr):Prop where
 at_:W.findIn K (.ref C) m=some (some (.ref f))
 fn:W.isFn K (.ref f)=true
 kp:W.keepIn K (.ref f)=true
section
variable {X:Cx} {pn:List (Addr × Obj)} {σ:St} {H:Hp} {s:Shared} {a C dx:Addr} {fs:List (Str × V)} {f:Str} {v:V} {A:Around} {E:Value->Shared->Prop}
theorem Sl {b:Bool} {Q:Value->Shared->Prop} (I:Inv X pn σ H s) (e:H a=some (.ins C dx fs)) (c:Cls X.K C) (n:rn X.K C f) (l:fs.lookup f=some v)
  (h:∀ u s',Inv X pn σ H s'->RelV v u->Q u s'):wpAny (model X.prog X.w) A (getAttr (.ref a) f b) Q E s:=by
 obtain ⟨mA,O,r,_,_,_⟩:=cx I.hok e
 obtain ⟨u,hu,ru⟩:=RelO.some_of (v:=v) (o:=mA f) (by rw [<- l]; exact r f)
 exact Hd I.kIn O (c.get f) c.hd n hu (Qy ru) (h u _ (I.tok _) ru)
theorem fc {m:Str} {g:Addr} {pl:Sem Bool} {Q:Value × List Value->Shared->Prop} (I:Inv X pn σ H s) (e:H a=some (.ins C dx fs)) (c:Cls X.K C) (k:Meth X.K C m g) (l:fs.lookup m=none)
  (h:Q (.ref g,[.ref a]) s):wpAny (model X.prog X.w) A (getMethod (.ref a) m pl) Q E s:=by
 obtain ⟨mA,O,r,_,_,_⟩:=cx I.hok e
 have hn:mA m=none:=RelO.none_of (by rw [<- l]; exact r m)
 exact Nx I.kIn O (c.get m) k.at_ k.fn hn h
theorem Tb {y:V} {u:Value} {Q:Unit->Shared->Prop} (I:Inv X pn σ H s) (e:H a=some (.ins C dx fs)) (c:Cls X.K C) (n:rn X.K C f) (hl:fs.length < 1000) (ry:RelV y u)
  (h:∀ s',Inv X pn σ (upd H a (.ins C dx (putF f y fs))) s'->Q () s'):wpAny (model X.prog X.w) A (setAttr (.ref a) f u) Q E s:=by
 obtain ⟨mA,O,r,wi,_,ho⟩:=cx I.hok e
 have hz:(fs.map (·.1)).length <= sizeLine:=by rw [zLm,sizeLine_eq]; omega
 refine Kj I.kIn O c.sa c.po n.taker c.hd wi hz fun h' O' sb=>h _ ?_
 have hd:∃ o,h'.get? dx=some o:=let ⟨o,_,_,e',_⟩:=O'.ns; ⟨o,e'⟩
 refine I.write (x:=a) (e:=dx) (by rw [e]; exact True.intro) (.inr ho) (fun b q hb z=>(sb.2 b hb).trans z) hd ?_
 refine ⟨by rw [y0 O.ne]; exact ho,?_,O.ne,O'.obj,_,O'.ns,fun g=>?_,fun g hg=>?_⟩
 ·have:=kj f y fs; omega
 ·show RelO ((putF f y fs).lookup g) (if g=f then some u else mA g)
  rw [kh]
  by_cases q:g=f
  ·rw [if_pos q,if_pos q]; exact ry
  ·rw [if_neg q,if_neg q]; exact r g
 ·by_cases q:g=f
  ·rw [q]; exact (j6 f y fs).1
  ·refine (j6 f y fs).2 g (wi g fun z=>hg ?_)
   show (if g=f then some u else mA g)=none
   rw [if_neg q]; exact z
theorem Inv.made (I:Inv X pn σ H s):Inv X pn σ (upd (upd H s.heap.objs.size (.own (s.heap.objs.size + 1))) (s.heap.objs.size + 1) (.ins C s.heap.objs.size []))
  { s with heap:=(s.heap.push W.emptyDict).push (W.instObj C s.heap.objs.size) }:=by
 have e1:(s.heap.push W.emptyDict).get? s.heap.objs.size=some W.emptyDict:=Heap.get?_push_size s.heap rfl
 have e2:((s.heap.push W.emptyDict).push (W.instObj C s.heap.objs.size)).get? (s.heap.objs.size + 1)=some (W.instObj C s.heap.objs.size):=by
  have:=Heap.get?_push_size (s.heap.push W.emptyDict) (o:=W.instObj C s.heap.objs.size) rfl
  rwa [Heap.size_push] at this
 have e3:(s.heap.push W.emptyDict).Ns s.heap.objs.size (fun _=>none):=⟨W.emptyDict,#[],_,e1,rfl,(fun e he=>absurd he (by simp)),fun _=>rfl⟩
 have I1:=I.laid (a:=s.heap.objs.size) (o:=.own (s.heap.objs.size + 1)) (h':=s.heap.push W.emptyDict) (t':=s.toks) (fun b u q=>Heap.get?_push_of_some _ q) (Nat.le_refl _) ⟨_,e1⟩
 refine I1.laid (a:=s.heap.objs.size + 1) (o:=.ins C s.heap.objs.size []) (t':=s.toks) (fun b u q=>Heap.get?_push_of_some _ q) (Nat.le_of_eq (Heap.size_push _ _)) ?_
 have ne:s.heap.objs.size ≠ s.heap.objs.size + 1:=Nat.ne_of_lt (Nat.lt_succ_self _)
 refine ⟨by rw [y0 ne,zi],Nat.zero_le _,ne,e2,fun _=>none,(Heap.Ns1.of_empty e3).at fun o q=>Heap.get?_push_of_some _ q,fun _=>True.intro,fun y hy=>absurd rfl hy⟩
theorem Hv {prog:Program} {w:World} {env:Env} {e:Expr} {f:Str} {pos:Pos} {s:Shared} {Q:Value->Shared->Prop} (hb:attributeBase e f env (eval e env)=eval e env)
  (h:wpAny (model prog w) A (eval e env) (fun o s₁=>wpAny (model prog w) A (getAttr o f true) Q E s₁) E s):wpAny (model prog w) A (eval (.Attribute e f pos) env) Q E s :=
 Attribute_any_ h (by rw [arm_eval_Attribute,hb])
end
noncomputable def tFld (K:W.Frag) (ta:TE) (f:Str):TE:=fun σ H Q=>ta σ H fun x H1=>∃ a C dx fs v,x=.ref a /\ H1 a=some (.ins C dx fs) /\ Cls K C /\ rn K C f /\ fs.lookup f=some v /\ Q v H1
noncomputable def sFld (K:W.Frag) (ta tv:TE) (f:Str):TS:=fun D σ H=>tv σ H fun y H1=>ta σ H1 fun x H2=>∃ a C dx fs,x=.ref a /\ H2 a=some (.ins C dx fs) /\ Cls K C /\ rn K C f /\ fs.length < 1000 /\
 D.nx σ (upd H2 a (.ins C dx (putF f y fs)))
section
variable {X:Cx} {o e value:Expr} {f:Str} {pos pos' tpos:Pos} {ta tv:TE}
theorem Lf (he:PE X e ta) (hb:attributeBase e f X.env (eval e X.env)=eval e X.env):PE X (.Attribute e f pos) (tFld X.K ta f):=by
 intro pn s σ H Q I h
 refine Hv hb (thn (he pn s σ H _ I h) fun u s1 ⟨x,H1,I1,rx,a,C,dx,fs,v,ex,ea,c,n,l,q⟩=>?_)
 subst ex
 obtain rfl:u=Value.ref a:=rx
 exact Sl I1 ea c n l fun u' s2 I2 ru=>⟨v,H1,I2,ru,q⟩
theorem Lc (ha:PE X o ta) (hv:PE X value tv) (hs:swapsWith value (some (.Attribute o f pos')) pos.line X.env=pure false):PS X (.Assign [.Attribute o f pos'] value pos) (sFld X.K ta tv f):=by
 intro pn s σ H D I h
 refine plainObj_wpAny_Assign_Attribute (thn (hv pn s σ H _ I h) fun u s1 ⟨y,H1,I1,ry,q⟩=>thn (ha pn s1 σ H1 _ I1 q) fun ov s2 ⟨x,H2,I2,rx,a,C,dx,fs,ex,ea,c,n,l,q2⟩=>?_) hs
 subst ex
 obtain rfl:ov=Value.ref a:=rx
 exact Tb I2 ea c n l ry fun s3 I3=>⟨σ,_,I3,q2⟩
end
section
variable {X:Cx} {pn:List (Addr × Obj)} {σ:St} {H:Hp} {s:Shared} {A:Around} {E:Value->Shared->Prop} {Q:Value->Shared->Prop} {c:Value} {b:Bool}
inductive TyOf (K:W.Frag) (H:Hp):V->Value->Prop where
 | non:TyOf K H .non (.type "NoneType")
 | bl (x:Bool):TyOf K H (.bl x) (.type "bool")
 | int (i:Int):TyOf K H (.int i) (.type "int")
 | str (x:Str):TyOf K H (.str x) (.type "str")
 | flt (x:UInt64):TyOf K H (.flt x) (.type "float")
 | lst {a:Addr} {xs:List V} (e:H a=some (.lst xs)):TyOf K H (.ref a) (.type "list")
 | frz {a:Addr} {o:Obj} {xs:List V} (e:H a=some (.frz o (.lst xs))):TyOf K H (.ref a) (.type "list")
 | tup {a:Addr} {xs:List V} (e:H a=some (.tup xs)):TyOf K H (.ref a) (.type "tuple")
 | dK {a:Addr} {kvs:List (Key × V)} (e:H a=some (.dK kvs)):TyOf K H (.ref a) (.type "dict")
 | dT {a:Addr} {kvs:List (List Key × V)} (e:H a=some (.dT kvs)):TyOf K H (.ref a) (.type "dict")
 | ins {a C dx:Addr} {fs:List (Str × V)} (e:H a=some (.ins C dx fs)) (cl:Cls K C) (ha:W.findIn K (.ref C) "__class__" = some (some (.builtin "object.__class__")))
   (hn:W.specialIn K (.builtin "object.__class__") "__get__" = some (some (.builtin "getset_descriptor.__get__"))) (htk:W.takesIn K (.builtin "object.__class__")=some true)
   (hm:W.mroIn K C (.type "object")=some true):TyOf K H (.ref a) (.ref C)
theorem ww {x:V} {u t:Value} (I:Inv X pn σ H s) (rx:RelV x u) (ty:TyOf X.K H x t) (e:W.kitOne X.K t c=some b) (h:∀ tk,Q (.bool b) { s with toks:=tk }) :
  wpAny (model X.prog X.w) A (call (.builtin "isinstance") [u,c]) Q E s:=by
 cases ty with
 | non=>cases (show u=Value.none from rx); exact W.kia_one W.kitx_none I.kIn True.intro e (fun z=>nomatch z) h
 | bl y=>cases (show u=Value.bool y from rx); exact W.kia_one W.kitx_bool I.kIn True.intro e (fun z=>nomatch z) h
 | int i=>obtain ⟨t,q⟩:=(show ∃ t,u=Value.int i t from rx); cases q; exact W.kia_one W.kitx_int I.kIn True.intro e (fun z=>nomatch z) h
 | str y=>obtain ⟨t,q⟩:=(show ∃ t,u=Value.str y t from rx); cases q; exact W.kia_one W.kitx_str I.kIn True.intro e (fun z=>nomatch z) h
 | flt y=>obtain ⟨t,q⟩:=(show ∃ t,u=Value.float y t from rx); cases q; exact W.kia_one W.kitx_float I.kIn True.intro e (fun z=>nomatch z) h
 | @lst a xs ea =>
  cases (show u=Value.ref a from rx)
  obtain ⟨_,_,n,_,h1⟩:=(show wj X.prog X.w H s.heap a (.lst xs) from I.hok a _ ea)
  exact W.kia_one W.kitx_list I.kIn ⟨_,h1,rfl⟩ e (fun z=>nomatch z) h
 | @frz a ob xs ea =>
  cases (show u=Value.ref a from rx)
  obtain ⟨_,_,_,n,_,h1⟩:=(show wj X.prog X.w H s.heap a (.frz ob (.lst xs)) from I.hok a _ ea)
  exact W.kia_one W.kitx_list I.kIn ⟨_,h1,rfl⟩ e (fun z=>nomatch z) h
 | @tup a xs ea =>
  cases (show u=Value.ref a from rx)
  obtain ⟨_,_,_,p⟩:=(show wj X.prog X.w H s.heap a (.tup xs) from I.hok a _ ea)
  obtain ⟨o,h1,h2,_⟩:=p.1
  exact W.kia_one W.kitx_tuple I.kIn ⟨o,h1,h2⟩ e (fun z=>nomatch z) h
 | @dK a kvs ea =>
  cases (show u=Value.ref a from rx)
  obtain ⟨_,_,vs,_,p⟩:=(show wj X.prog X.w H s.heap a (.dK kvs) from I.hok a _ ea)
  obtain ⟨o,es,ep,h1,h2,_⟩:=p
  exact W.kia_one W.kitx_dict I.kIn ⟨o,h1,h2.1⟩ e (fun z=>nomatch z) h
 | @dT a kvs ea =>
  cases (show u=Value.ref a from rx)
  obtain ⟨_,_,xs,_,o,es,ep,h1,h2,_⟩:=(show wj X.prog X.w H s.heap a (.dT kvs) from I.hok a _ ea)
  exact W.kia_one W.kitx_dict I.kIn ⟨o,h1,h2.1⟩ e (fun z=>nomatch z) h
 | @ins a C dx fs ea cl ha hn htk hm =>
  cases (show u=Value.ref a from rx)
  obtain ⟨mA,O,_⟩:=cx I.hok ea
  obtain ⟨od,J,_⟩:=O.look
  exact W.kia_one (W.kitx_own (cl.get _) cl.hd ha hn htk hm) I.kIn J e (fun z=>nomatch z) h
end
structure Room (k:Nat) (A:Around):Prop where
 hd:A.handled=none
 dp:A.depth + 3 * k + 5 < recursionLimit
 un:A.units + 16 * k + 200 < cLine
theorem Room.mono {j k:Nat} {A:Around} (r:Room k A) (h:j <= k):Room j A:=⟨r.hd,by have:=r.dp; omega,by have:=r.un; omega⟩
theorem Room.deeper {k:Nat} {A:Around} (r:Room (k + 1) A) (env:Env):Room k (A.deeper env) :=
 ⟨r.hd,by have:=r.dp; show A.depth + 1 + 3 * k + 5 < _; omega,by have:=r.un; show A.units + 3 + 16 * k + 200 < _; omega⟩
theorem Tp {A:Around} {C:Addr} {us:List Value} {kw:List (Str × Value)}:(A.under (.builtin "type.__call__" ⟨.ref C :: us,kw⟩)).depth=A.depth + 1:=by
 first | rfl | simp [Around.under,Code.weight,Code.isCreation,Code.isGuard,Code.isCaller,Code.frames,Code.isFrame,guardIds]
theorem To {A:Around} {C:Addr} {us:List Value} {kw:List (Str × Value)}:(A.under (.builtin "type.__call__" ⟨.ref C :: us,kw⟩)).units=A.units + 1:=by
 first | rfl | simp [Around.under,Code.cUnits,Code.frames,Code.isFrame]
theorem Room.make {k:Nat} {A:Around} (r:Room (k + 1) A) (C:Addr) (us:List Value) (kw:List (Str × Value)):Room k (A.under (.builtin "type.__call__" ⟨.ref C :: us,kw⟩)) :=
 ⟨r.hd,by have:=r.dp; rw [Tp]; omega,by have:=r.un; rw [To]; omega⟩
theorem Room.depth {k:Nat} {A:Around} (r:Room k A):A.depth < recursionLimit:=by have:=r.dp; omega
theorem Room.units {k:Nat} {A:Around} (r:Room k A):A.units + 64 < cLine:=by have:=r.un; omega
noncomputable def tNil:TA:=fun _ H Q=>Q [] H
noncomputable def rq (ta:TE) (tr:TA):TA:=fun σ H Q=>ta σ H fun x H1=>tr σ H1 fun xs H2=>Q (x :: xs) H2
section
variable {X:Cx} {e:Expr} {es:List Expr} {te:TE} {t:TA} {pos:Pos}
theorem wu:PA X [] tNil:=fun _ _ _ _ H Q I h=>Calls.spliced_nil ⟨[],H,I,.nil,h⟩
theorem yo (ha:PE X e te) (hr:PA X es t) (hs:starEach (e :: es) X.env=(false,eval e X.env) :: starEach es X.env:=by rfl):PA X (e :: es) (rq te t):=by
 intro pos pn s σ H Q I h
 rw [hs]
 show wpAny _ _ (spliced ((false,eval e X.env) :: backTo pos (starEach es X.env))) _ _ s
 refine Calls.spliced_cons (thn (ha pn s σ H _ I h) fun u s1 ⟨x,H1,I1,r1,q1⟩=>?_)
 exact thn (hr pos pn s1 σ H1 _ I1 q1) fun us s2 ⟨xs,H2,I2,r2,q2⟩=>⟨x :: xs,H2,I2,.cons r1 r2,q2⟩
noncomputable def tTup (t:TA):TE:=fun σ H Q=>t σ H fun xs H1=>xs.length <= sizeLine /\ ∀ p,H1 p=none->Q (.ref p) (upd H1 p (.tup xs))
noncomputable def tLst (t:TA):TE:=fun σ H Q=>t σ H fun xs H1=>xs.length <= sizeLine /\ ∀ p,H1 p=none->Q (.ref p) (upd H1 p (.lst xs))
theorem gw {x1} (h:PA X es t):PE X (.Tuple es x1 pos) (tTup t):=by
 intro pn s σ H Q I hq
 refine wpAny_Tuple_spliced (thn (h pos pn s σ H _ I hq) fun us s1 ⟨xs,H1,I1,r,z,q⟩=>⟨by rw [<- r.length]; exact z,?_⟩)
 have hf:H1 s1.heap.objs.size=none:=I1.hok.fresh (Nat.le_refl _)
 refine ⟨.ref s1.heap.objs.size,upd H1 s1.heap.objs.size (.tup xs),I1.laid (t':=s1.toks) (fun b u e=>Heap.get?_push_of_some _ e) (Nat.le_refl _) ?_,rfl,q _ hf⟩
 exact ⟨z,us,r,⟨_,Heap.get?_push_size _ rfl,rfl,_,rfl⟩,_,Heap.get?_push_size _ rfl,rfl⟩
theorem Zg (h:PA X es t):PE X (.List es pos) (tLst t):=by
 intro pn s σ H Q I hq
 refine wpAny_List_spliced (thn (h pos pn s σ H _ I hq) fun us s1 ⟨xs,H1,I1,r,z,q⟩=>⟨by rw [<- r.length]; exact z,?_⟩)
 have hf:H1 s1.heap.objs.size=none:=I1.hok.fresh (Nat.le_refl _)
 refine ⟨.ref s1.heap.objs.size,upd H1 s1.heap.objs.size (.lst xs),I1.laid (t':=s1.toks) (fun b u e=>Heap.get?_push_of_some _ e) (Nat.le_refl _) ?_,rfl,q _ hf⟩
 exact ⟨z,us,0,r,Heap.get?_push_size _ rfl⟩
end
noncomputable abbrev Sp:=List V->Hp->VK->XK->Prop
noncomputable abbrev CXT:=List Env->Hp->Shared->XK->Value->Shared->Prop
structure Env0 (P:Program) (w:World) (K:W.Frag) (mg:Str->Option Value) (base:Heap) (A:Around) (outer:List Env) (s:Shared) (H:Hp):Prop where
 frames:A.frames=some outer
 mod:Mod K mg base
 bs:∀ b o,base.get? b=some o->s.heap.get? b=some o /\ H b=none
 bsz:base.objs.size <= s.heap.objs.size
 funs:s.heap.FunFrames base outer
 frf:∀ b ∈ frs outer,H b=none
 hok:HOk P w H s.heap
 bare:AllBare s.gens
noncomputable def CE (outer:List Env) (P:Program) (w:World) (H:Hp) (s:Shared) (Q:VK) (u:Value) (s':Shared):Prop :=
 ∃ v H',s'.os=s.os /\ AllBare s'.gens /\ Un (frs outer) [] H H' s.heap s'.heap /\ HOk P w H' s'.heap /\ RelV v u /\ Q v H'
noncomputable def CR (CX:CXT) (outer:List Env) (P:Program) (w:World) (H:Hp) (s:Shared) (Q:VK) (E:XK) (r:Result) (s':Shared):Prop :=
 match r with
 | .ok (.ret u)=>CE outer P w H s Q u s'
 | .ok _=>False
 | .error e=>CX outer H s E e s'
structure FnOk (P:Program) (w:World) (K:W.Frag) (mg:Str->Option Value) (base:Heap) (CX:CXT) (k:Nat) (f:Addr) (fd:FuncData) (ps:List Str) (sp:Sp):Prop where
 len:∀ vs H Q E,sp vs H Q E->vs.length=ps.length
 run:∀ (A:Around) (outer:List Env) (s:Shared) (H:Hp) (args:Args) (us:List Value) (vs:List V) (Q:VK) (E:XK),Room k A->Env0 P w K mg base A outer s H->BindsTo s fd args (ps.zip us)->Vals vs us->sp vs H Q E ->
  codeAny (model P w) A (.call (.ref f) args) (CR CX outer P w H s Q E) s
theorem Env0.make {P:Program} {w:World} {K:W.Frag} {mg:Str->Option Value} {base:Heap} {A:Around} {outer:List Env} {s:Shared} {H:Hp} (e:Env0 P w K mg base A outer s H) (C:Addr) (us:List Value) (kw:List (Str × Value)) :
  Env0 P w K mg base (A.under (.builtin "type.__call__" ⟨.ref C :: us,kw⟩)) outer s H:=⟨by first | exact e.frames | (simpa [Around.under,Code.envs,Code.isFrame,pushEnvs] using e.frames),e.mod,e.bs,e.bsz,e.funs,e.frf,e.hok,e.bare⟩
section
variable {X:Cx} {pn:List (Addr × Obj)} {σ:St} {H:Hp} {s s':Shared}
theorem Inv.env0 (I:Inv X pn σ H s):Env0 X.prog X.w X.K X.mg X.base X.A X.stack s H :=
 ⟨I.ok.frames,I.ok.mod,I.bs,Nat.le_trans I.ok.bsz I.sz,I.stack,I.stkFree,I.hok,I.bare⟩
theorem Inv.after {Q:VK} {u:Value} (I:Inv X pn σ H s) (h:CE X.stack X.prog X.w H s Q u s'):EP X pn σ Q u s':=by
 obtain ⟨v,H',os,bare,un,hok,r,q⟩:=h
 obtain ⟨hh,g,d,t,os'⟩:=s'
 obtain rfl:os'=s.os:=os
 exact ⟨v,H',I.call (h':=hh) (g':=g) (d':=d) (t':=t) (ch:=[]) un hok bare (fun b z=>absurd z (by simp)),r,q⟩
end
noncomputable def Ke (sp:Sp) (dvs:List V) (E:XK) (t:TA):TE:=fun σ H Q=>t σ H fun vs H1=>sp (vs ++ dvs) H1 Q E
noncomputable def Oc (C:Addr) (m:Str) (sp:Sp) (dvs:List V) (E:XK) (ta:TE) (t:TA):TE:=fun σ H Q=>ta σ H fun x H1=>∃ a dx fs,x=.ref a /\ H1 a=some (.ins C dx fs) /\ fs.lookup m=none /\
 t σ H1 fun vs H2=>sp (x :: (vs ++ dvs)) H2 Q E
noncomputable def d7 (C:Addr) (sp:Sp) (dvs:List V) (E:XK) (t:TA):TE:=fun σ H Q=>t σ H fun vs H1=>∀ x dx,H1 x=none->H1 dx=none->dx ≠ x ->
 sp (.ref x :: (vs ++ dvs)) (upd (upd H1 dx (.own x)) x (.ins C dx [])) (fun v H2=>v=.non /\ Q (.ref x) H2) E
noncomputable def wz (K:W.Frag) (fd:FuncData) (ps:List Str) (ds:List Value):Prop :=
 ∀ (s:Shared) (us:List Value),K.In s.heap->(us ++ ds).length=ps.length->BindsTo s fd ⟨us,[]⟩ (ps.zip (us ++ ds))
theorem wz.all {K:W.Frag} {fd:FuncData} {ps:List Str} (h:∀ us:List Value,us.length=ps.length->bindArgs fd ⟨us,[]⟩=pure (ps.zip us)):wz K fd ps []:=fun s us _ hl=>by
 rw [List.append_nil] at hl ⊢
 exact .of_eq (h us hl)
noncomputable def jh (CX:CXT) (X:Cx) (E:XK):Prop:=∀ (pn:List (Addr × Obj)) (σ:St) (H:Hp) (s:Shared) (e:Value) (s':Shared),Inv X pn σ H s->CX X.stack H s E e s'->X.xe e s'
section
variable {X:Cx} {CX:CXT} {k:Nat} {f C:Addr} {fd:FuncData} {ps:List Str} {sp:Sp} {dvs:List V} {ds:List Value} {E:XK} {x m:Str} {p pos apos:Pos} {e o:Expr} {es:List Expr} {ta:TE} {t:TA}
theorem Ru {pn:List (Addr × Obj)} {σ:St} {H:Hp} {s:Shared} {Q:VK} {us:List Value} {vs:List V} (F:FnOk X.prog X.w X.K X.mg X.base CX k f fd ps sp) (hr:Room k X.A) (hb:wz X.K fd ps ds) (hd:Vals dvs ds) (hx:jh CX X E)
  (I:Inv X pn σ H s) (r:Vals vs us) (h:sp (vs ++ dvs) H Q E):wpAny (model X.prog X.w) X.A (call (.ref f) us) (EP X pn σ Q) X.xe s:=by
 have r2:Vals (vs ++ dvs) (us ++ ds):=r.append hd
 have hl:(us ++ ds).length=ps.length:=by rw [<- r2.length]; exact F.len _ _ _ _ h
 refine wpAny_call (codeAny_mono (F.run X.A X.stack s H ⟨us,[]⟩ (us ++ ds) (vs ++ dvs) Q E hr I.env0 (hb s us I.kIn hl) r2 h) fun r s' hq=>?_)
 cases r with
 | error e=>exact hx pn σ H s e s' I hq
 | ok fl =>
  cases fl with
  | ret u=>exact I.after hq
  | next=>exact False.elim hq
  | brk=>exact False.elim hq
  | cont=>exact False.elim hq
theorem Qd (F:FnOk X.prog X.w X.K X.mg X.base CX k f fd ps sp) (hr:Room k X.A) (hg:Gl X x) (hm:X.mg x=some (.ref f)) (hk:W.keepIn X.K (.ref f)=true) (hb:wz X.K fd ps ds) (hd:Vals dvs ds) (hx:jh CX X E)
  (ha:PA X (e :: es) t) (hdb:(x == ("__debug__" : Str))=false:=by decide) (he:starEach (e :: es) X.env=(false,eval e X.env) :: starEach es X.env:=by rfl) (hpl:(backTo pos (starEach es X.env)).any (·.1)=false:=by rfl) :
  PE X (.Call (.Name x p) (e :: es) [] pos) (Ke sp dvs E t):=by
 intro pn s σ H Q I h
 refine wpAny_Call_Name_kw (Xr I hg hm ?_ hdb)
 refine W.callWith_K (h₀:=X.base) I.ok.mod.kin hk (thn (ha pos pn s σ H _ I h) fun us s1 ⟨vs,H1,I1,r,q⟩=>⟨I1.kIn,?_⟩) he hpl
 exact Ru F hr hb hd hx I1 r q
theorem Qa {pl:Sem Bool} (he:PE X o ta) (c:Cls X.K C) (hm:Meth X.K C m f) (F:FnOk X.prog X.w X.K X.mg X.base CX k f fd ps sp) (hr:Room k X.A) (hb:wz X.K fd ps ds) (hd:Vals dvs ds) (hx:jh CX X E) (ha:PA X (e :: es) t)
  (hst:starEach (e :: es) X.env=(false,eval e X.env) :: starEach es X.env:=by rfl) (hpl:(backTo pos (starEach es X.env)).any (·.1)=false:=by rfl)
  (ht:eval (.Call (.Attribute o m apos) (e :: es) [] pos) X.env=(do
   let ov <- eval o X.env
   standAt apos.atName
   let (f,first) <- holding [ov] (getMethod ov m pl)
   callWith pos f first (backTo pos (starEach (e :: es) X.env)) (backToKw pos (keywordEach [] X.env))):=by rfl) :
  PE X (.Call (.Attribute o m apos) (e :: es) [] pos) (Oc C m sp dvs E ta t):=by
 intro pn s σ H Q I h
 refine W.methodCall_KW (pl:=pl) (thn (he pn s σ H _ I h) fun u s1 ⟨x,H1,I1,rx,a,dx,fs,ex,ea,l,q⟩=>?_) ht
 subst ex
 obtain rfl:u=Value.ref a:=rx
 refine fc I1 ea c hm l ?_
 refine W.callWith_K (first:=[.ref a]) (h₀:=X.base) I.ok.mod.kin hm.kp (thn (ha pos pn s1 σ H1 _ I1 q) fun us s2 ⟨vs,H2,I2,r,q2⟩=>⟨I2.kIn,?_⟩) hst hpl
 exact Ru (us:=.ref a :: us) (vs:=.ref a :: vs) F hr hb hd hx I2 (.cons rfl r) q2
theorem Ue {pl:Sem Bool} (he:PE X o ta) (c:Cls X.K C) (hm:Meth X.K C m f) (F:FnOk X.prog X.w X.K X.mg X.base CX k f fd ps sp) (hr:Room k X.A) (hb:wz X.K fd ps ds) (hd:Vals dvs ds) (hx:jh CX X E)
  (ht:eval (.Call (.Attribute o m apos) [] [] pos) X.env=(do
   let ov <- eval o X.env
   standAt apos.atName
   let (f,first) <- holding [ov] (getMethod ov m pl)
   callWith pos f first (backTo pos (starEach [] X.env)) (backToKw pos (keywordEach [] X.env))):=by rfl) :
  PE X (.Call (.Attribute o m apos) [] [] pos) (Oc C m sp dvs E ta tNil):=by
 intro pn s σ H Q I h
 refine W.methodCall_KW (pl:=pl) (thn (he pn s σ H _ I h) fun u s1 ⟨x,H1,I1,rx,a,dx,fs,ex,ea,l,q⟩=>?_) ht
 subst ex
 obtain rfl:u=Value.ref a:=rx
 refine fc I1 ea c hm l ?_
 exact W.callWith_K0 (first:=[.ref a]) I1.kIn hm.kp (Ru (us:=[.ref a]) (vs:=[.ref a]) F hr hb hd hx I1 (.cons rfl .nil) q)
structure Mk (K:W.Frag) (C f:Addr):Prop where
 makes:W.makesIn K C=true
 init:W.findIn K (.ref C) "__init__" = some (some (.ref f))
 fn:W.isFn K (.ref f)=true
 kp:W.keepIn K (.ref C)=true
theorem Oo {pn:List (Addr × Obj)} {σ:St} {H:Hp} {s:Shared} {Q:VK} {us:List Value} {vs:List V} (M:Mk X.K C f) (F:FnOk X.prog X.w X.K X.mg X.base CX k f fd ps sp) (hr:Room (k + 1) X.A) (hb:wz X.K fd ps ds) (hd:Vals dvs ds)
  (hx:jh CX X E) (I:Inv X pn σ H s) (r:Vals vs us)
  (h:∀ x dx,H x=none->H dx=none->dx ≠ x->sp (.ref x :: (vs ++ dvs)) (upd (upd H dx (.own x)) x (.ins C dx [])) (fun v H2=>v=.non /\ Q (.ref x) H2) E) :
  wpAny (model X.prog X.w) X.A (call (.ref C) us) (EP X pn σ Q) X.xe s:=by
 have hq:=h (s.heap.objs.size + 1) s.heap.objs.size (I.hok.fresh (Nat.le_succ _)) (I.hok.fresh (Nat.le_refl _)) (Nat.ne_of_lt (Nat.lt_succ_self _))
 have I2:=Inv.made (C:=C) I
 have r2:Vals (V.ref (s.heap.objs.size + 1) :: (vs ++ dvs)) (Value.ref (s.heap.objs.size + 1) :: (us ++ ds)):=.cons rfl (r.append hd)
 have hl:(Value.ref (s.heap.objs.size + 1) :: us ++ ds).length=ps.length:=by
  have e:=r2.length
  rw [F.len _ _ _ _ hq] at e
  exact e.symm
 refine wpAny_call (Nb (f:=f) I.kIn M.makes M.init (beq_iff_eq.mp M.fn) (codeAny_mono (F.run _ X.stack _ _ ⟨Value.ref (s.heap.objs.size + 1) :: us,[]⟩ (Value.ref (s.heap.objs.size + 1) :: (us ++ ds)) _ _ E (hr.make C us [])
  (I2.env0.make C us []) (hb _ (Value.ref (s.heap.objs.size + 1) :: us) I2.kIn hl) r2 hq) fun r s' hq'=>?_))
 cases r with
 | error e=>exact hx pn σ _ _ e s' I2 hq'
 | ok fl =>
  cases fl with
  | ret u =>
   obtain ⟨v,H',I3,rv,ev,q3⟩:=I2.after hq'
   subst ev
   exact ⟨rv,⟨V.ref (s.heap.objs.size + 1),H',I3,rfl,q3⟩⟩
  | next=>exact False.elim hq'
  | brk=>exact False.elim hq'
  | cont=>exact False.elim hq'
theorem Jb (M:Mk X.K C f) (F:FnOk X.prog X.w X.K X.mg X.base CX k f fd ps sp) (hr:Room (k + 1) X.A) (hg:Gl X x) (hm:X.mg x=some (.ref C)) (hb:wz X.K fd ps ds) (hd:Vals dvs ds) (hx:jh CX X E)
  (ha:PA X (e :: es) t) (hdb:(x == ("__debug__" : Str))=false:=by decide) (he:starEach (e :: es) X.env=(false,eval e X.env) :: starEach es X.env:=by rfl) (hpl:(backTo pos (starEach es X.env)).any (·.1)=false:=by rfl) :
  PE X (.Call (.Name x p) (e :: es) [] pos) (d7 C sp dvs E t):=by
 intro pn s σ H Q I h
 refine wpAny_Call_Name_kw (Xr I hg hm ?_ hdb)
 refine W.callWith_K (h₀:=X.base) I.ok.mod.kin M.kp (thn (ha pos pn s σ H _ I h) fun us s1 ⟨vs,H1,I1,r,q⟩=>⟨I1.kIn,?_⟩) he hpl
 exact Oo M F hr hb hd hx I1 r q
end
structure zn (N P:List Str) (sc:Scope):Prop where
 kind:sc.kind=.function
 co:sc.isCoroutine=false
 gen:sc.isGenerator=false
 nd:N.Nodup
 pre:N.take P.length=P
 par:∀ x ∈ P,sc.names.lookup x=some .local \/ sc.names.lookup x=some .cell
 nofree:∀ y ∈ sc.names,y.2 ≠ .free
theorem X2 {kindOf:Str->Option NameKind} {x:Str}:∀ {binds:List (Str × Value)} {m:Str->Option Value},(∀ v,(x,v) ∉ binds)->bindL kindOf binds m x=m x
 | [],_,_=>rfl
 | (n,v) :: r,m,h=>by
  unfold bindL
  rw [X2 fun w hw=>h w (List.mem_cons_of_mem _ hw)]
  split
  ·have:x ≠ n:=by rintro rfl; exact h v List.mem_cons_self
   simp [this]
  ·rfl
theorem X4 {kindOf:Str->Option NameKind} {x:Str}:∀ {binds:List (Str × Value)} {m:Str->Option Value},(∀ v,(x,v) ∉ binds)->bindC kindOf binds m x=m x
 | [],_,_=>rfl
 | (n,v) :: r,m,h=>by
  unfold bindC
  rw [X4 fun w hw=>h w (List.mem_cons_of_mem _ hw)]
  split
  ·rfl
  ·have:x ≠ n:=by rintro rfl; exact h v List.mem_cons_self
   simp [this]
theorem X3 {kindOf:Str->Option NameKind} {x:Str} {v:Value}:∀ {P:List Str} {vs:List Value} {i:Nat} {m:Str->Option Value},P.Nodup->P[i]?=some x->vs[i]?=some v->kindOf x=some .local ->
  bindL kindOf (P.zip vs) m x=some v
 | [],_,_,_,_,h,_,_=>by simp at h
 | _ :: _,[],_,_,_,_,h,_=>by simp at h
 | p :: P,w :: vs,0,m,nd,h1,h2,hk=>by
  simp at h1 h2; subst h1; subst h2
  show bindL kindOf ((p,w) :: P.zip vs) m p=_
  unfold bindL
  rw [X2 fun v hv=>(List.nodup_cons.mp nd).1 (List.of_mem_zip hv).1,if_pos hk]
  simp
 | p :: P,w :: vs,i + 1,m,nd,h1,h2,hk=>by
  show bindL kindOf ((p,w) :: P.zip vs) m x=_
  unfold bindL
  exact X3 (i:=i) (List.nodup_cons.mp nd).2 (by simpa using h1) (by simpa using h2) hk
theorem X5 {kindOf:Str->Option NameKind} {x:Str} {v:Value}:∀ {P:List Str} {vs:List Value} {i:Nat} {m:Str->Option Value},P.Nodup->P[i]?=some x->vs[i]?=some v->kindOf x ≠ some .local ->
  bindC kindOf (P.zip vs) m x=some v
 | [],_,_,_,_,h,_,_=>by simp at h
 | _ :: _,[],_,_,_,_,h,_=>by simp at h
 | p :: P,w :: vs,0,m,nd,h1,h2,hk=>by
  simp at h1 h2; subst h1; subst h2
  show bindC kindOf ((p,w) :: P.zip vs) m p=_
  unfold bindC
  rw [X4 fun v hv=>(List.nodup_cons.mp nd).1 (List.of_mem_zip hv).1,if_neg hk]
  simp
 | p :: P,w :: vs,i + 1,m,nd,h1,h2,hk=>by
  show bindC kindOf ((p,w) :: P.zip vs) m x=_
  unfold bindC
  exact X5 (i:=i) (List.nodup_cons.mp nd).2 (by simpa using h1) (by simpa using h2) hk
noncomputable def start (N:List Str) (vs:List V):St:=vs.map some ++ List.replicate (N.length - vs.length) none
noncomputable def cxOf (CX:CXT) (P:Program) (w:World) (K:W.Frag) (mg:Str->Option Value) (base:Heap) (N:List Str) (qual:Str) (scope:Scope) (f:Addr) (cd:Value) (A:Around) (outer:List Env) (s:Shared) (H:Hp) (E:XK):Cx where
 prog:=P
 w:=w
 K:=K
 mg:=mg
 base:=base
 A:=A.deeper (envOfC qual scope s.heap.objs.size f cd)
 N:=N
 s₀:=s
 H₀:=H
 env:=envOfC qual scope s.heap.objs.size f cd
 outer:=outer
 stack:=envOfC qual scope s.heap.objs.size f cd :: outer
 ex:=[]
 calm:=true
 fn:=fun _=>true
 pn:=[]
 xe:=fun e s'=>wpAny (model P w) (A.deeper (envOfC qual scope s.heap.objs.size f cd)) (leaving (envOfC qual scope s.heap.objs.size f cd) e) (fun _ s''=>CX outer H s E e s'') (fun e' s''=>CX outer H s E e' s'') s'
theorem Uz {sc:Scope} {n:Nat} {x:Str} (h:sc.names.lookup x=some .cell):∃ c,(cellsFrom n sc.names []).lookup x=some c:=by
 have q:=W.cellsFrom_some sc.names n [] (.inl h)
 exact Option.isSome_iff_exists.mp q
theorem Qv {CX:CXT} {P:Program} {w:World} {K:W.Frag} {mg:Str->Option Value} {base:Heap} {N ps:List Str} {qual:Str} {scope:Scope} {f:Addr} {cd:Value} {A:Around} {outer:List Env} {s s1:Shared} {H:Hp} {E:XK} {us:List Value} {vs:List V}
  (S:zn N ps scope) (hd:A.handled=none) (e0:Env0 P w K mg base A outer s H) (hl:vs.length=ps.length) (r:Vals vs us)
  (x:InCallC s s.heap.objs.size (bindL (envOfC qual scope s.heap.objs.size f cd).kindOf (ps.zip us) fun _=>none) (cellsFrom (s.heap.objs.size + 1) scope.names []) (bindC (envOfC qual scope s.heap.objs.size f cd).kindOf (ps.zip us) fun _=>none) s1) :
  Inv (cxOf CX P w K mg base N qual scope f cd A outer s H E) [] (start N vs) H s1:=by
 have hpl:ps.length <= N.length:=by have:=congrArg List.length S.pre; rw [List.length_take] at this; omega
 obtain ⟨h1,tk,rfl,hk⟩:=x.done
 have noA:∀ b:Addr,b ∉ (cxOf CX P w K mg base N qual scope f cd A outer s H E).ex:=fun b z=>absurd (show b ∈ ([]:List Addr) from z) (by simp)
 refine ⟨⟨e0.mod,S.kind,rfl,rfl,Nat.le_refl _,fun y z c h1 h2=>?_,fun y hy=>?_,fun y c _ h=>?_,fun _=>hd,Around.frames_deeper e0.frames,.inr ⟨rfl,rfl⟩,fun b z=>absurd z (noA b),e0.bs,e0.bsz,fun b _ _=>noA b,fun b z=>absurd z (noA b),e0.funs,e0.frf⟩,
  rfl,e0.bare,Un.kept hk,⟨_,x.toInCall.ns,fun i y v h1 h2 h3=>?_⟩,fun y c h=>⟨_,x.cell y c h⟩,e0.hok.fresh (Nat.le_refl _),fun y c h=>?_,fun p hp=>absurd (show p ∈ ([]:List (Addr × Obj)) from hp) (by simp),e0.hok.kept hk,?_⟩
 ·exact name_of_addr x.apart (PySem.mem_of_lookup h1) (PySem.mem_of_lookup h2)
 ·have hy:scope.names.lookup y=some .cell \/ scope.names.lookup y=some .free:=hy
  rcases hy with hy | hy
  ·exact Uz hy
  ·exact absurd rfl (S.nofree _ (PySem.mem_of_lookup hy))
 ·exact Nat.le_of_lt (x.above y c (PySem.mem_of_lookup h))
 ·have hi:i < vs.length:=by
   unfold start at h2
   by_cases hi:i < vs.length
   ·exact hi
   ·rw [List.getElem?_append_right (by simpa using hi)] at h2
    rw [List.getElem?_replicate] at h2
    split at h2 <;> cases h2
  have ha:vs[i]?=some v:=by
   unfold start at h2
   rw [List.getElem?_append_left (by simpa using hi),List.getElem?_map] at h2
   cases e:vs[i]? with
   | none=>rw [e] at h2; cases h2
   | some a=>rw [e] at h2; cases h2; rfl
  obtain ⟨u,hu,rv⟩:=r.get ha
  have hp:ps[i]?=some y:=by
   rw [<- S.pre,List.getElem?_take_of_lt (by omega)]; exact h1
  have ndP:ps.Nodup:=by rw [<- S.pre]; exact S.nd.sublist (List.take_sublist _ _)
  refine ⟨u,rv,?_⟩
  rcases S.par y (List.mem_of_getElem? hp) with k | k
  ·exact .inl ⟨k,X3 ndP hp hu k⟩
  ·obtain ⟨c,e⟩:=Uz (n:=s.heap.objs.size + 1) k
   refine .inr ⟨.inl k,c,e,?_⟩
   have q:=x.cell y c e
   rw [X5 ndP hp hu (by show scope.names.lookup y ≠ _; rw [k]; decide)] at q
   exact q
 ·exact e0.hok.fresh (Nat.le_of_lt (x.above y c (PySem.mem_of_lookup h)))
 ·unfold start
  show _=N.length
  rw [zLa,zLm,List.length_replicate]
  omega
theorem D9 {CX:CXT} {P:Program} {w:World} {K:W.Frag} {mg:Str->Option Value} {base:Heap} {k:Nat} {f:Addr} {name qual:Str} {params:Arguments} {body:List Stmt} {scope:Scope} {dV kV doc pm qZ ct oc:Value} {an od:Option Addr}
  {osl:Array (Option Value)} {N ps:List Str} {sp:Sp} (lk:K.lookup f=some ⟨oc,od,.func (W.fnOf name qual params body scope dV kV doc pm an qZ ct),osl⟩) (hcd:W.codeIn K qZ qual=true) (S:zn N ps scope)
  (len:∀ vs H Q E,sp vs H Q E->vs.length=ps.length)
  (qY:∀ (A:Around) (outer:List Env) (s:Shared) (H:Hp) (vs:List V) (Q:VK) (E:XK),Room k (A.deeper (envOfC qual scope s.heap.objs.size f qZ))->sp vs H Q E ->
   ∃ t,PSs (cxOf CX P w K mg base N qual scope f qZ A outer s H E) body t /\ t { nx:=fun _ H'=>Q .non H',rt:=Q } (start N vs) H) :
  FnOk P w K mg base CX (k + 1) f (W.fnOf name qual params body scope dV kV doc pm an qZ ct) ps sp:=by
 refine ⟨len,fun A outer s H args us vs Q E hr e0 hb r hsp=>?_⟩
 have hl:=len _ _ _ _ hsp
 have KX:K.In s.heap:=e0.mod.kin.keeps fun b o e=>(e0.bs b o e).1
 have lim:s.heap.NoLimit:=e0.mod.nolimit.keeps fun b o e=>(e0.bs b o e).1
 have hkind:∀ y ∈ ps.zip us,scope.names.lookup y.1=some .local \/ (scope.names.lookup y.1=some .cell /\ ((cellsFrom (s.heap.objs.size + 1) scope.names []).lookup y.1).isSome=true):=fun ⟨n,v⟩ hy=>by
  rcases S.par n (List.of_mem_zip hy).1 with q | q
  ·exact .inl q
  ·exact .inr ⟨q,W.cellsFrom_some _ _ _ (.inl q)⟩
 refine codeAny_call_function hr.depth (KX _ _ lk) rfl S.co S.gen rfl (W.codeRec_of KX hcd) (hb _ _ _ _ ?_)
 refine wpAny_newFunctionEnv_cells S.kind hkind fun env he s1 x=>?_
 subst he
 refine ⟨lim.keeps x.toInCall.keep,codeAny_func ?_⟩
 obtain ⟨t,ht,hq⟩:=qY A outer s H vs Q E (hr.deeper _) hsp
 have I:Inv (cxOf CX P w K mg base N qual scope f qZ A outer s H E) [] (start N vs) H s1:=Qv S hr.hd e0 hl r x
 refine wpAny_mono (ht [] s1 (start N vs) H _ I hq) (fun fl s' hs=>?_) fun e s' hs=>hs
 have fin:∀ {σ':St} {H':Hp} {v:V} {u:Value},Inv (cxOf CX P w K mg base N qual scope f qZ A outer s H E) [] σ' H' s'->RelV v u->Q v H'->CE outer P w H s Q u s' :=
  fun {σ' H' v u} J rv q=>⟨v,H',J.os,J.bare,J.base,J.hok,rv,q⟩
 cases fl with
 | ret u =>
  obtain ⟨v,σ',H',J,rv,q⟩:=hs
  exact fin J rv q
 | next =>
  obtain ⟨σ',H',J,q⟩:=hs
  exact fin (v:=V.non) (u:=Value.none) J rfl q
 | brk =>
  obtain ⟨_,_,_,q⟩:=hs
  exact False.elim q
 | cont =>
  obtain ⟨_,_,_,q⟩:=hs
  exact False.elim q
section
variable {X:Cx} {x:Str} {p pos:Pos} {e:Expr} {es:List Expr} {t:TA} {id T:String} {r:List V->Hp->VK->Prop}
noncomputable def tCB (r:List V->Hp->VK->Prop) (t:TA):TE:=fun σ H Q=>t σ H fun vs H1=>r vs H1 Q
theorem N5 (hc:uv X (.builtin id) r) (hg:Gl X x) (hm:X.mg x=none) (hv:bootBuiltins x=some (.builtin id)) (ha:PA X (e :: es) t) (hn:x ≠ "__name__":=by decide) (hdb:(x == ("__debug__" : Str))=false:=by decide)
  (he:starEach (e :: es) X.env=(false,eval e X.env) :: starEach es X.env:=by rfl) (hpl:(backTo pos (starEach es X.env)).any (·.1)=false:=by rfl):PE X (.Call (.Name x p) (e :: es) [] pos) (tCB r t):=by
 intro pn s σ H Q I h
 refine wpAny_Call_Name_kw (rj I hg hm hv ?_ hn hdb)
 exact PyProof.Rows.callWith_builtin1 (thn (ha pos pn s σ H _ I h) fun us s1 ⟨vs,H1,I1,r1,q1⟩=>hc pn s1 σ H1 vs us Q I1 r1 q1) he hpl
theorem Qc (hc:uv X (.type T) r) (hg:Gl X x) (hm:X.mg x=none) (hv:bootBuiltins x=some (.type T)) (ha:PA X (e :: es) t) (hn:x ≠ "__name__":=by decide) (hdb:(x == ("__debug__" : Str))=false:=by decide)
  (he:starEach (e :: es) X.env=(false,eval e X.env) :: starEach es X.env:=by rfl) (hpl:(backTo pos (starEach es X.env)).any (·.1)=false:=by rfl):PE X (.Call (.Name x p) (e :: es) [] pos) (tCB r t):=by
 intro pn s σ H Q I h
 refine wpAny_Call_Name_kw (rj I hg hm hv ?_ hn hdb)
 exact PyProof.Rows.callWith_type1 (thn (ha pos pn s σ H _ I h) fun us s1 ⟨vs,H1,I1,r1,q1⟩=>hc pn s1 σ H1 vs us Q I1 r1 q1) he hpl
end
end L2
namespace HT
open PySem PyProof.Rows
section
open PySem.SeqAt
open PySem.AutoSeq1 (wpAny_loadPart')
open PySem.MeetsSeq PySem.MeetsSeq2 PySem.MeetsSeq3
end
section
variable {prog:Program} {w:World} {A:Around} {E:Value->Shared->Prop} {s:Shared}
theorem cat_tup {t b:Addr} {vs ws:List Value} {Q:Value->Shared->Prop} (ht:IsTup s.heap t vs.toArray) (hb:IsTup s.heap b ws.toArray) (hv:vs ≠ [])
  (h1:ws=[]->Q (.ref t) s) (h2:ws ≠ []->Q (.ref s.heap.objs.size) { s with heap:=s.heap.push { cls:=.type "tuple", data:=.seq (vs ++ ws).toArray } })
  (hsz:vs.length + ws.length <= sizeLine):wpAny (model prog w) A (binaryOp .Add (.ref t) (.ref b)) Q E s:=by
 obtain ⟨⟨cls,dd,data,sl⟩,ho,hc,n,hd⟩:=id ht
 obtain ⟨⟨cls2,dd2,data2,sl2⟩,ho2,hc2,n2,hd2⟩:=id hb
 simp only at hc hd hc2 hd2
 subst hc hd hc2 hd2
 have e:vs.toArray ++ ws.toArray=(vs ++ ws).toArray:=by simp
 by_cases hw:ws=[]
 ·exact concat_meets ⟨_,ho,rfl⟩ ⟨_,ho2,rfl⟩ noFill_tuple_add seq_tuple_add PySem.F.slot_tuple_add PySem.F.entry_tuple_add (PySem.F.args_tuple_add_2 _ _)
   (tuple_addW1 t b vs.toArray ws.toArray n n2 dd dd2 sl sl2 (by simpa using hv) (by simp [hw])) ⟨ho,ho2,h1 hw⟩
 ·refine concat_meets ⟨_,ho,rfl⟩ ⟨_,ho2,rfl⟩ noFill_tuple_add seq_tuple_add PySem.F.slot_tuple_add PySem.F.entry_tuple_add (PySem.F.args_tuple_add_2 _ _)
   (tuple_addW2 t b vs.toArray ws.toArray n n2 dd dd2 sl sl2 (by simpa using hv) (by simpa using hw) (by rw [List.size_toArray,List.size_toArray]; exact hsz)) ⟨ho,ho2,?_⟩
  rw [e]
  exact h2 hw
noncomputable def sIx (n d:Nat):Option Int->Nat
 | none=>d
 | some v=>if v < 0 then (v + (n:Int)).toNat else min v.toNat n
theorem sIx_nat (n d k:Nat):sIx n d (some (k:Int))=min k n:=by
 show (if (k:Int) < 0 then ((k:Int) + (n:Int)).toNat else min (k:Int).toNat n)=min k n
 rw [if_neg (by omega),Int.toNat_natCast]
theorem Gn (n d:Nat) (hd:d <= n) (o:Option Int):sIx n d o <= n:=by
 cases o with
 | none=>exact hd
 | some v =>
  show (if v < 0 then (v + (n:Int)).toNat else min v.toNat n) <= n
  by_cases hv:v < 0
  ·rw [if_pos hv]; omega
  ·rw [if_neg hv]; exact Nat.min_le_right _ _
theorem Pt (v:Int) (n d:Nat):(if v < 0 then max (v + (n:Int)) 0 else min v (n:Int))=((sIx n d (some v):Nat):Int):=by
 show (if v < 0 then max (v + (n:Int)) 0 else min v (n:Int))=(((if v < 0 then (v + (n:Int)).toNat else min v.toNat n):Nat):Int)
 by_cases hv:v < 0
 ·simp only [if_pos hv]; omega
 ·simp only [if_neg hv]; omega
theorem Sv (lo hi:Option Int) (n:Nat):Builtin.Slice.sliceAdjust lo hi 1 (n:Int)=(((sIx n 0 lo:Nat):Int),((sIx n n hi:Nat):Int)):=by
 have h1:¬ ((1:Int) < 0):=by omega
 unfold Builtin.Slice.sliceAdjust
 simp only [h1,if_false]
 refine Prod.ext ?_ ?_
 ·cases lo with
  | none=>rfl
  | some v=>exact Pt v n 0
 ·cases hi with
  | none=>rfl
  | some v=>exact Pt v n n
theorem Te (i j:Nat):Builtin.Slice.slicePlaces (i:Int) (j:Int) 1=j - i:=by
 unfold Builtin.Slice.slicePlaces
 have h1:(1:Int) > 0:=by omega
 simp only [h1,if_true,Int.ediv_one]
 split <;> omega
theorem gl {v:Value} {o:Option Int} {Q:Option Int->Shared->Prop} (p:IsPart v o) (h:Q o s):wpAny (model prog w) A (Builtin.Slice.slicePartIndex v) Q E s:=by
 cases p with
 | none=>exact slicePart_none h
 | int i t=>exact slicePart_int h
theorem rz {sl:Addr} {vl vu:Value} {lo hi:Option Int} {n:Nat} {Q:Int × Int × Nat->Shared->Prop} (hs:s.heap.IsSliceOf sl vl vu .none) (pl:IsPart vl lo) (pu:IsPart vu hi)
  (h:Q (((sIx n 0 lo:Nat):Int),1,sIx n n hi - sIx n 0 lo) s):wpAny (model prog w) A (Builtin.Slice.sliceApplied (.ref sl) (pure (n:Int))) Q E s:=by
 obtain ⟨os,hos,hcs,hds⟩:=id hs
 unfold Builtin.Slice.sliceApplied Builtin.Slice.sliceFields
 refine wpAny_bind (wpAny_bind (wpAny_field hos hds (x:=vl) rfl (wpAny_bind (wpAny_field hos hds (x:=vu) rfl (wpAny_bind (wpAny_field hos hds (x:=.none) rfl (wpAny_pure ?_)))))))
 refine wpAny_bind (slicePart_none ?_)
 show wpAny _ _ (if ((1:Int) == 0)=true then _ else _) _ _ s
 rw [if_neg (by decide)]
 refine wpAny_bind (gl pl (wpAny_bind (gl pu (wpAny_bind (wpAny_pure ?_)))))
 show wpAny _ _ (match Builtin.Slice.sliceAdjust lo hi 1 (n:Int) with | (lo,hi)=>pure (lo,(1:Int),Builtin.Slice.slicePlaces lo hi 1)) _ _ s
 rw [Sv lo hi n]
 show wpAny _ _ (pure (((sIx n 0 lo:Nat):Int),(1:Int),Builtin.Slice.slicePlaces ((sIx n 0 lo:Nat):Int) ((sIx n n hi:Nat):Int) 1)) _ _ s
 rw [Te]
 exact wpAny_pure h
theorem N2 (xs:Array Value) (i k:Nat):((List.range k).filterMap fun (m:Nat)=>xs[((i:Int) + (m:Int) * 1).toNat]?).toArray=((xs.toList.drop i).take k).toArray:=by
 have e:(fun (m:Nat)=>xs[((i:Int) + (m:Int) * 1).toNat]?)=fun m=>xs[i + m]?:=by
  funext m
  have:((i:Int) + (m:Int) * 1).toNat=i + m:=by omega
  rw [this]
 rw [e]
 have:=pick_run xs i k
 rw [List.filterMap_map] at this
 have e2:((fun x=>xs[x]?) ∘ fun x=>i + x)=fun m=>xs[i + m]?:=rfl
 rw [e2] at this
 rw [this]
theorem getItem_tuple_cut {t sl:Addr} {items:Array Value} {vl vu:Value} {lo hi:Option Int} {Q:Value->Shared->Prop} (ht:IsTup s.heap t items) (hs:s.heap.IsSliceOf sl vl vu .none) (pl:IsPart vl lo) (pu:IsPart vu hi)
  (hw:¬ (sIx items.size 0 lo=0 /\ sIx items.size items.size hi=items.size))
  (h:Q (.ref s.heap.objs.size) { s with heap:=s.heap.push { cls:=.type "tuple", data:=.seq ((items.toList.drop (sIx items.size 0 lo)).take (sIx items.size items.size hi - sIx items.size 0 lo)).toArray } })
  (hsz:items.size <= sizeLine):wpAny (model prog w) A (getItem (.ref t) (.ref sl)) Q E s:=by
 have htake:sizeOk (.seq ((items.toList.drop (sIx items.size 0 lo)).take (sIx items.size items.size hi - sIx items.size 0 lo)).toArray):=by
  show ((items.toList.drop (sIx items.size 0 lo)).take (sIx items.size items.size hi - sIx items.size 0 lo)).toArray.size <= sizeLine
  rw [List.size_toArray,List.length_take,List.length_drop,Array.length_toList]
  omega
 have hj:sIx items.size items.size hi <= items.size:=Gn _ _ (Nat.le_refl _) hi
 obtain ⟨os,hos,hcs,hds⟩:=id hs
 have hTs:s.TypeIs (.ref sl) "slice":=⟨os,hos,hcs⟩
 unfold getItem
 try with_reducible refine wpAny_holding ?_
 first | refine wpAny_bind (wpAny_pure ?_) | skip
 refine wpAny_bind (wpAny_sequenceKey ht.typeIs (by decide) ?_)
 refine wpAny_bind (wpAny_callSpecial?_slot (name:=Str.ofString "__getitem__") ht.typeIs PyProof.Rows.slot_tuple_getitem
  (wpAny_call_entry PyProof.Rows.slot_tuple_getitem ht.typeIs entry_tuple_getitem ?_ (args_tuple_getitem _ _)))
 show wpAny _ _ (Builtin.Tuple.tupleItemsOf (.ref t) >>= _) _ _ s
 refine wpAny_bind (tupleItemsOf_ ht ?_)
 refine wpAny_bind (wpAny_typeOf hTs ?_)
 rw [if_pos (by decide)]
 refine wpAny_bind (rz hs pl pu ?_)
 have hno:¬ ((((sIx items.size 0 lo:Nat):Int) == 0 && (1:Int) == 1 && (sIx items.size items.size hi - sIx items.size 0 lo) == items.size)=true):=by
  intro q
  rw [Bool.and_eq_true,Bool.and_eq_true] at q
  have q1:((sIx items.size 0 lo:Nat):Int)=0:=eq_of_beq q.1.1
  have q2:sIx items.size items.size hi - sIx items.size 0 lo=items.size:=eq_of_beq q.2
  exact hw ⟨by omega,by omega⟩
 show wpAny _ _ (if (((sIx items.size 0 lo:Nat):Int) == 0 && (1:Int) == 1 && (sIx items.size items.size hi - sIx items.size 0 lo) == items.size)=true then _ else _) _ _ s
 rw [if_neg hno,N2]
 first
  | exact wpAny_bind (m:=Builtin.Tuple.tupleExact _) (wpAny_newObj_type (wpAny_pure ⟨_,rfl,wpAny_pure h⟩) htake)
  | exact wpAny_bind (m:=Builtin.Tuple.tupleExact _) (wpAny_newObj_type (wpAny_bind (wpAny_pure (wpAny_pure ⟨_,rfl,wpAny_pure h⟩))) htake)
  | exact wpAny_bind (wpAny_bind (m:=Builtin.Tuple.tupleExact _) (wpAny_newObj_type (wpAny_pure (wpAny_pure ⟨_,rfl,wpAny_pure h⟩)) htake))
  | exact wpAny_bind (wpAny_bind (m:=Builtin.Tuple.tupleExact _) (wpAny_newObj_type (wpAny_pure ⟨_,rfl,wpAny_pure h⟩) htake))
end
end HT
namespace L2
open PySem PySem.Spec PyProof.Rows
noncomputable abbrev TO:=St->Hp->(Option Int->Hp->Prop)->Prop
noncomputable def PO (X:Cx) (e:Option Expr) (t:TO):Prop :=
 ∀ (pn:List (Addr × Obj)) (s:Shared) (σ:St) (H:Hp) (Q:Option Int->Hp->Prop),Inv X pn σ H s->t σ H Q ->
  wpAny (model X.prog X.w) X.A (evalPart e X.env) (fun u s'=>∃ o H',Inv X pn σ H' s' /\ IsPart u o /\ Q o H') X.xe s
noncomputable def Ka:TO:=fun _ H Q=>Q none H
noncomputable def Dt (t:TE):TO:=fun σ H Q=>t σ H fun x H1=>∃ i,x=.int i /\ Q (some i) H1
section
variable {X:Cx} {e:Expr} {te:TE} {lo hi:Option Expr} {tl th:TO} {pos p2:Pos}
theorem J7:PO X none Ka:=by
 intro pn s σ H Q I h
 rw [evalPart_none]
 exact wpAny_pure ⟨none,H,I,.none,h⟩
theorem J6 (h:PE X e te):PO X (some e) (Dt te):=by
 intro pn s σ H Q I hw
 rw [evalPart_some]
 refine thn (h pn s σ H _ I hw) fun u s1 ⟨x,H1,I1,r1,q1⟩=>?_
 obtain ⟨i,rfl,q⟩:=q1
 obtain ⟨t,rfl⟩:=r1
 exact ⟨some i,H1,I1,.int i t,q⟩
noncomputable def SlR (X:Cx) (r:V->Option Int->Option Int->Hp->VK->Prop):Prop :=
 ∀ (pn:List (Addr × Obj)) (s:Shared) (σ:St) (H:Hp) (x:V) (v vl vu:Value) (lo hi:Option Int) (sl:Addr) (Q:VK),Inv X pn σ H s->RelV x v->s.heap.IsSliceOf sl vl vu .none->IsPart vl lo->IsPart vu hi->r x lo hi H Q ->
  ∃ T id,typeLookup (.type T) "__getitem__" = pure (some (.builtin id)) /\ s.TypeIs v T /\ wpAny (model X.prog X.w) X.A (getItem v (.ref sl)) (EP X pn σ Q) X.xe s
theorem SlR.or {r r':V->Option Int->Option Int->Hp->VK->Prop} (h:SlR X r) (h':SlR X r'):SlR X (fun x lo hi H Q=>r x lo hi H Q \/ r' x lo hi H Q):=by
 intro pn s σ H x v vl vu lo hi sl Q I rx hs pl pu q
 rcases q with q | q
 ·exact h pn s σ H x v vl vu lo hi sl Q I rx hs pl pu q
 ·exact h' pn s σ H x v vl vu lo hi sl Q I rx hs pl pu q
noncomputable def tSl (r:V->Option Int->Option Int->Hp->VK->Prop) (te:TE) (tl th:TO):TE:=fun σ H Q=>te σ H fun x H1=>tl σ H1 fun l H2=>th σ H2 fun u H3=>r x l u H3 Q
theorem N3 {r:V->Option Int->Option Int->Hp->VK->Prop} (hr:SlR X r) (he:PE X e te) (hl:PO X lo tl) (hu:PO X hi th):PE X (.Subscript e (.Slice lo hi none p2) pos) (tSl r te tl th):=by
 intro pn s σ H Q I h
 refine Subscript_ (thn (he pn s σ H _ I h) fun v s1 ⟨x,H1,I1,r1,q1⟩=>?_)
 refine wpAny_Slice (thn (hl pn s1 σ H1 _ I1 q1) fun vl s2 ⟨l,H2,I2,pl,q2⟩=>thn (hu pn s2 σ H2 _ I2 q2) fun vu s3 ⟨u,H3,I3,pu,q3⟩=>?_)
 rw [evalPart_none]
 refine wpAny_pure ?_
 have I4:Inv X pn σ H3 { s3 with heap:=s3.heap.push { cls:=.type "slice", data:=.fields #[vl,vu,.none] } }:=I3.kept (t':=s3.toks) fun b ob q=>Heap.get?_push_of_some _ q
 obtain ⟨T,id,hT,ht,hg⟩:=hr pn { s3 with heap:=s3.heap.push { cls:=.type "slice", data:=.fields #[vl,vu,.none] } } σ H3 x v vl vu l u s3.heap.objs.size Q I4 r1 (Heap.IsSliceOf.new ..) pl pu q3
 show wpAny (model X.prog X.w) X.A (subscriptTail e (.Slice lo hi none p2) v (.ref s3.heap.objs.size)) (EP X pn σ Q) X.xe { s3 with heap:=s3.heap.push { cls:=.type "slice", data:=.fields #[vl,vu,.none] } }
 exact tail_any (ops:=[.ref s3.heap.objs.size,v]) ht hT hg (by with_unfolding_all rfl)
noncomputable def cutV (xs:List V) (lo hi:Option Int):List V:=(xs.drop (HT.sIx xs.length 0 lo)).take (HT.sIx xs.length xs.length hi - HT.sIx xs.length 0 lo)
theorem je (xs:List V) (lo hi:Option Int):(cutV xs lo hi).length <= xs.length:=by
 unfold cutV
 rw [List.length_take,List.length_drop]
 omega
noncomputable def rSlT (K:W.Frag):V->Option Int->Option Int->Hp->VK->Prop:=fun x lo hi H Q=>∃ a xs,x=.ref a /\ SqT K H a xs /\
 ¬ (HT.sIx xs.length 0 lo=0 /\ HT.sIx xs.length xs.length hi=xs.length) /\ ∀ p,H p=none->Q (.ref p) (upd H p (.tup (cutV xs lo hi)))
theorem Gj:SlR X (rSlT X.K):=by
 intro pn s σ H x v vl vu lo hi sl Q I rx hs pl pu h
 obtain ⟨a,xs,rfl,hx,hw,q⟩:=h
 cases rx
 obtain ⟨its,r,ht,hz⟩:=I.tuple hx
 have hlen:its.toArray.size=xs.length:=by rw [List.size_toArray]; exact r.length.symm
 refine ⟨"tuple", _,PyProof.Rows.slot_tuple_getitem.lookup,ht.typeIs,?_⟩
 refine HT.getItem_tuple_cut ht hs pl pu (by rw [hlen]; exact hw) ?_ (by rw [hlen]; exact hz)
 rw [hlen]
 refine ⟨.ref s.heap.objs.size,_,I.laid (t':=s.toks) (o:=.tup (cutV xs lo hi)) (fun b ob q=>Heap.get?_push_of_some _ q) (Nat.le_refl _) ?_,rfl,q _ (I.hok.fresh (Nat.le_refl _))⟩
 exact ⟨Nat.le_trans (je xs lo hi) hz,_,(r.drop (HT.sIx xs.length 0 lo)).take (HT.sIx xs.length xs.length hi - HT.sIx xs.length 0 lo),IsTup.new _ _,_,Heap.get?_push_size _ rfl,rfl⟩
noncomputable def F0 (K:W.Frag):R2:=fun x y H Q=>∃ a b xs ys,x=.ref a /\ y=.ref b /\ SqT K H a xs /\ SqT K H b ys /\ xs ≠ [] /\ xs.length + ys.length <= sizeLine /\
 (ys=[]->Q (.ref a) H) /\ (ys ≠ []->∀ p,H p=none->Q (.ref p) (upd H p (.tup (xs ++ ys))))
theorem Vals.nil_iff {xs:List V} {us:List Value} (r:Vals xs us):us=[] ↔ xs=[]:=by
 cases r with
 | nil=>simp
 | cons _ _=>simp
theorem Qf:OpR X (binaryOp .Add) (F0 X.K):=by
 intro pn s σ H x y v u Q I rx ry h
 obtain ⟨a,b,xs,ys,rfl,rfl,ha,hb,hx,hz,q1,q2⟩:=h
 cases rx
 cases ry
 obtain ⟨its,r1,p1,_⟩:=I.tuple ha
 obtain ⟨its2,r2,p2,_⟩:=I.tuple hb
 refine HT.cat_tup p1 p2 (fun z=>hx (r1.nil_iff.mp z)) (fun z=>⟨.ref a,H,I,rfl,q1 (r2.nil_iff.mp z)⟩) (fun z=>?_) (by rw [<- r1.length,<- r2.length]; exact hz)
 refine ⟨.ref s.heap.objs.size,_,I.laid (t':=s.toks) (o:=.tup (xs ++ ys)) (fun b ob q=>Heap.get?_push_of_some _ q) (Nat.le_refl _) ?_,rfl,q2 (fun w=>z (r2.nil_iff.mpr w)) _ (I.hok.fresh (Nat.le_refl _))⟩
 exact ⟨by rw [zLa]; exact hz,_,r1.append r2,IsTup.new _ _,_,Heap.get?_push_size _ rfl,rfl⟩
end
noncomputable def ixN (n:Nat) (i:Int):Option Nat:=if 0 <= i then (if i < n then some i.toNat else none) else if -(n:Int) <= i then some (i + n).toNat else none
noncomputable def atI {α:Type} (xs:List α) (i:Int):Option α:=(ixN xs.length i).bind fun j=>xs[j]?
theorem Ww {n:Nat} {i:Int} {j:Nat} (h:ixN n i=some j):seqIndex? i n=some j /\ j < n /\ -(n:Int) <= i /\ i < n:=by
 unfold ixN at h
 by_cases h0:0 <= i
 ·rw [if_pos h0] at h
  by_cases h1:i < n
  ·rw [if_pos h1] at h
   have e:i.toNat=j:=Option.some.inj h
   exact ⟨by rw [seqIndex_of h0 h1,e],by omega,by omega,h1⟩
  ·rw [if_neg h1] at h; cases h
 ·rw [if_neg h0] at h
  by_cases h1:-(n:Int) <= i
  ·rw [if_pos h1] at h
   have e:(i + n).toNat=j:=Option.some.inj h
   exact ⟨by rw [seqIndex_neg (by omega) h1,e],by omega,h1,by omega⟩
  ·rw [if_neg h1] at h; cases h
theorem Vl {α:Type} {xs:List α} {i:Int} {v:α} (h:atI xs i=some v):∃ j,seqIndex? i xs.length=some j /\ xs[j]?=some v /\ j < xs.length /\ -(xs.length:Int) <= i /\ i < xs.length:=by
 unfold atI at h
 cases e:ixN xs.length i with
 | none=>rw [e] at h; cases h
 | some j =>
  rw [e] at h
  obtain ⟨h1,h2,h3,h4⟩:=Ww e
  exact ⟨j,h1,h,h2,h3,h4⟩
theorem bx {α:Type} {xs:List α} {j:Nat} {v:α} (h:xs[j]?=some v):atI xs (j:Int)=some v:=by
 have hj:j < xs.length:=(List.getElem?_eq_some_iff.mp h).1
 have e:ixN xs.length (j:Int)=some j:=by
  unfold ixN
  rw [if_pos (by omega),if_pos (by omega)]; simp
 unfold atI; rw [e]; exact h
theorem qq {α:Type} (xs:List α) (v:α):atI (xs ++ [v]) (-1)=some v:=by
 have hl:(xs ++ [v]).length=xs.length + 1:=by simp
 have e:ixN (xs ++ [v]).length (-1)=some xs.length:=by
  unfold ixN
  rw [hl,if_neg (by decide),if_pos (by omega)]
  congr 1
  omega
 unfold atI
 rw [e]
 show (xs ++ [v])[xs.length]?=some v
 simp
noncomputable def Vm (b:Expr):Prop:=∀ o i,subscripted b false o i=operate [o,i] (getItem o i)
noncomputable def IxR (X:Cx) (r:R2):Prop :=
 ∀ (value slice:Expr) (pn:List (Addr × Obj)) (s:Shared) (σ:St) (H:Hp) (x y:V) (v u:Value) (Q:VK),Inv X pn σ H s->RelV x v->RelV y u->r x y H Q ->
  subscripted slice false v u=operate [v,u] (getItem v u)->wpAny (model X.prog X.w) X.A (subscriptTail value slice v u) (EP X pn σ Q) X.xe s
noncomputable def MtR (X:Cx) (id:String) (r:V->List V->Hp->VK->Prop):Prop :=
 ∀ (pn:List (Addr × Obj)) (s:Shared) (σ:St) (H:Hp) (x:V) (xs:List V) (v:Value) (us:List Value) (Q:VK),Inv X pn σ H s->RelV x v->Vals xs us->r x xs H Q ->
  wpAny (model X.prog X.w) X.A (call (.builtin id) (v :: us)) (EP X pn σ Q) X.xe s
section
variable {X:Cx} {a b:Expr} {ta tb:TE} {pos:Pos}
theorem IxR.or {r r':R2} (h:IxR X r) (h':IxR X r'):IxR X (fun x y H Q=>r x y H Q \/ r' x y H Q):=by
 intro value slice pn s σ H x y v u Q I rx ry q hs
 rcases q with q | q
 ·exact h value slice pn s σ H x y v u Q I rx ry q hs
 ·exact h' value slice pn s σ H x y v u Q I rx ry q hs
theorem E1 {r:R2} (hr:IxR X r) (ha:PE X a ta) (hb:PE X b tb) (hs:Vm b):PE X (.Subscript a b pos) (tOp r ta tb):=by
 intro pn s σ H Q I h
 exact Subscript_ (binT ha hb I h fun v u s2 x y H2 I2 rx ry q=>hr a b pn s2 σ H2 x y v u Q I2 rx ry q (hs _ _))
noncomputable def rIxL (K:W.Frag):R2:=fun x y H Q=>∃ p xs i v,x=.ref p /\ y=.int i /\ SqL K H p xs /\ atI xs i=some v /\ Q v H
noncomputable def rIxT (K:W.Frag):R2:=fun x y H Q=>∃ p xs i v,x=.ref p /\ y=.int i /\ SqT K H p xs /\ atI xs i=some v /\ Q v H
noncomputable def rIxS:R2:=fun x y H Q=>∃ z i c,x=.str z /\ y=.int i /\ z.length <= sizeLine /\ atI z.cps.toList i=some c /\ Q (.str ⟨#[c]⟩) H
theorem Jw:IxR X (rIxL X.K):=by
 intro value slice pn s σ H x y v u Q I rx ry h hs
 obtain ⟨p,xs,i,z,rfl,rfl,hq,he,q⟩:=h
 cases rx
 obtain ⟨t,rfl⟩:=ry
 obtain ⟨its,r,pl,hz⟩:=I.list hq
 obtain ⟨j,h1,h2,h3,h4,h5⟩:=Vl he
 obtain ⟨w,ew,rw'⟩:=r.get h2
 have hl:=r.length
 have hn:=t4
 have fin:EP X pn σ Q w s:=⟨z,H,I,rw',q⟩
 by_cases h0:0 <= i
 ·have hj:i.toNat=j:=by
   rw [seqIndex_of h0 h5] at h1
   exact Option.some.inj h1
  exact item_listR pl.isList h0 (by omega) (by rw [hj]; simpa using ew) fin hs
 ·have hj:(i + (its.toArray.size:Int)).toNat=j:=by
   rw [seqIndex_neg (by omega) h4] at h1
   rw [List.size_toArray,<- hl]
   exact Option.some.inj h1
  exact subscriptTail_builtinR (x:=w) pl.isList.typeIs slot_list_getitem.lookup
   (wpAny_getItem_list_neg (Q:=fun r s'=>r=w /\ EP X pn σ Q r s') pl.isList (by omega) (by rw [List.size_toArray] <;> omega) (by omega) (by rw [hj]; simpa using ew) ⟨rfl,fin⟩) hs
theorem Ew:IxR X (rIxT X.K):=by
 intro value slice pn s σ H x y v u Q I rx ry h hs
 obtain ⟨p,xs,i,z,rfl,rfl,hq,he,q⟩:=h
 cases rx
 obtain ⟨t,rfl⟩:=ry
 obtain ⟨its,r,pl,hz⟩:=I.tuple hq
 obtain ⟨j,h1,h2,h3,h4,h5⟩:=Vl he
 obtain ⟨w,ew,rw'⟩:=r.get h2
 have hl:=r.length
 have hn:=t4
 have fin:EP X pn σ Q w s:=⟨z,H,I,rw',q⟩
 exact subscriptTail_builtinR (x:=w) pl.typeIs slot_tuple_getitem.lookup
  (getItem_tuple (j:=j) (Q:=fun r s'=>r=w /\ EP X pn σ Q r s') pl (by omega) (by omega) (by rw [List.size_toArray,<- hl]; exact h1) (by simpa using ew) ⟨rfl,fin⟩) hs
theorem Ex:IxR X rIxS:=by
 intro value slice pn s σ H x y v u Q I rx ry h hs
 obtain ⟨z,i,c,rfl,rfl,hz,he,q⟩:=h
 obtain ⟨t,rfl⟩:=rx
 obtain ⟨t',rfl⟩:=ry
 obtain ⟨j,h1,h2,h3,h4,h5⟩:=Vl he
 have hl:z.cps.toList.length=z.length:=by simp [Str.length]
 rw [hl] at h1 h4 h5
 have hn:=t4
 exact tail_any (typeIs_str s z t) slot_str_getitem.lookup (getItem_str (c:=c) (by
  have e1:decide (i < -(2 ^ 63:Int))=false:=decide_eq_false (by omega)
  have e2:decide (i ≥ 2 ^ 63)=false:=decide_eq_false (by omega)
  rw [e1,e2,Bool.or_false]) (by rw [h1]; simpa using h2) ⟨.str ⟨#[c]⟩,H,I.tok _,⟨_,rfl⟩,q⟩) hs
noncomputable def rIx (K:W.Frag):R2:=fun x y H Q=>rIxL K x y H Q \/ rIxT K x y H Q \/ rIxS x y H Q
theorem Lk:IxR X (rIx X.K):=Jw.or (Ew.or Ex)
theorem Tl (its:List Value) (n j:Nat) (u:Value):Obj.mapSeq (·.setIfInBounds j u) { cls:=.type "list", data:=.seq its.toArray n }={ cls:=.type "list", data:=.seq (its.set j u).toArray n }:=by
 simp [Obj.mapSeq]
theorem Inv.lst {pn:List (Addr × Obj)} {σ:St} {H:Hp} {s:Shared} {p:Addr} {xs:List V} (I:Inv X pn σ H s) (h:H p=some (.lst xs)) :
  ∃ (its:List Value) (n:Nat),Vals xs its /\ s.heap.get? p=some { cls:=.type "list", data:=.seq its.toArray n } /\ xs.length <= sizeLine:=by
 obtain ⟨z,its,n,r,e⟩:=I.hok p _ h
 exact ⟨its,n,r,e,z⟩
theorem Inv.lstUpd {pn:List (Addr × Obj)} {σ:St} {H:Hp} {s:Shared} {p:Addr} {xs ys:List V} {its its':List Value} {n n':Nat} {f:Obj->Obj} (I:Inv X pn σ H s) (h:H p=some (.lst xs))
  (ho:s.heap.get? p=some { cls:=.type "list", data:=.seq its.toArray n }) (hf:f { cls:=.type "list", data:=.seq its.toArray n }={ cls:=.type "list", data:=.seq its'.toArray n' }) (r:Vals ys its') (hz:ys.length <= sizeLine) (t:Nat) :
  Inv X pn σ (upd H p (.lst ys)) { s with heap:=s.heap.update p f,toks:=t }:=by
 have e:(s.heap.update p f).get? p=some { cls:=.type "list", data:=.seq its'.toArray n' }:=by
  rw [Heap.get?_update_self f ho (by rw [hf] <;> rfl),hf]
 refine I.write (x:=p) (e:=p) (by rw [h]; trivial) (.inl rfl) (fun b u hb q=>(Heap.get?_update_other _ _ (Ne.symm hb)).trans q) ⟨_,e⟩ ?_
 exact ⟨hz,its',n',r,e⟩
noncomputable def C3:V->V->V->Hp->(Hp->Prop)->Prop:=fun o i v H Q=>∃ p xs k j,o=.ref p /\ i=.int k /\ H p=some (.lst xs) /\ ixN xs.length k=some j /\ Q (upd H p (.lst (xs.set j v)))
theorem Vz:PSet X C3:=by
 intro pn s σ H o i v ov iv u Q I ro ri rv h
 obtain ⟨p,xs,k,j,rfl,rfl,hp,hj,q⟩:=h
 cases ro
 obtain ⟨t,rfl⟩:=ri
 obtain ⟨its,n,r,ho,hz⟩:=I.lst hp
 obtain ⟨h1,h2,h3,h4⟩:=Ww hj
 have hl:=r.length
 have hn:=t4
 have I':Inv X pn σ (upd H p (.lst (xs.set j v))) { s with heap:=s.heap.update p (Obj.mapSeq (·.setIfInBounds j u)) } :=
  I.lstUpd hp ho (Tl its n j u) (r.set rv j) (by rw [List.length_set]; exact hz) s.toks
 by_cases h0:0 <= k
 ·have hk:k.toNat=j:=by
   rw [seqIndex_of h0 h4] at h1
   exact Option.some.inj h1
  exact W.ki_setAt ho h0 (by omega) (by rw [List.size_toArray,<- hl]; exact h4) (by rw [hk]; exact ⟨_,I',q⟩)
 ·have hk:(k + (its.toArray.size:Int)).toNat=j:=by
   rw [seqIndex_neg (by omega) h3] at h1
   rw [List.size_toArray,<- hl]
   exact Option.some.inj h1
  exact W.ki_setBack ho (by omega) (by rw [List.size_toArray,<- hl]; exact h3) (by omega) (by rw [hk]; exact ⟨_,I',q⟩)
theorem Z7 (lo hi:Option Int) (n:Nat):(sliceBounds lo hi none n).1=((HT.sIx n 0 lo:Nat):Int) /\ (sliceBounds lo hi none n).2.1=((HT.sIx n n hi:Nat):Int) /\ (sliceBounds lo hi none n).2.2=1:=by
 refine ⟨?_,?_,rfl⟩
 ·cases lo with
  | none=>simp [sliceBounds,HT.sIx]
  | some i =>
   simp only [sliceBounds,HT.sIx,Option.getD_none,show (1:Int) > 0 by decide,if_true]
   by_cases h:i < 0
   ·simp only [h,if_true] <;> omega
   ·simp only [h,if_false] <;> omega
 ·cases hi with
  | none=>simp [sliceBounds,HT.sIx]
  | some i =>
   simp only [sliceBounds,HT.sIx,Option.getD_none,show (1:Int) > 0 by decide,if_true]
   by_cases h:i < 0
   ·simp only [h,if_true] <;> omega
   ·simp only [h,if_false] <;> omega
theorem db (its:List Value) (lo hi:Option Int):slicePick its.toArray lo hi none=((its.drop (HT.sIx its.length 0 lo)).take (HT.sIx its.length its.length hi - HT.sIx its.length 0 lo)).toArray:=by
 obtain ⟨h1,h2,h3⟩:=Z7 lo hi its.toArray.size
 unfold slicePick
 rw [h1,h2,h3]
 simp only [sliceRange_one,pick_run,List.size_toArray] <;> rfl
noncomputable def rSlL (K:W.Frag):V->Option Int->Option Int->Hp->VK->Prop:=fun x lo hi H Q=>∃ a xs,x=.ref a /\ SqL K H a xs /\ ∀ p,H p=none->Q (.ref p) (upd H p (.lst (cutV xs lo hi)))
theorem Kh:SlR X (rSlL X.K):=by
 intro pn s σ H x v vl vu lo hi sl Q I rx hs pl pu h
 obtain ⟨a,xs,rfl,hx,q⟩:=h
 cases rx
 obtain ⟨its,r,ht,hz⟩:=I.list hx
 have hlen:=r.length
 refine ⟨"list", _,slot_list_getitem.lookup,ht.isList.typeIs,?_⟩
 refine wpAny_getItem_list_slice ht.isList hs pl pu .none (by simp) ?_ (by rw [List.size_toArray] <;> omega)
 rw [db,<- hlen]
 refine ⟨.ref s.heap.objs.size,_,I.laid (t':=s.toks) (o:=.lst (cutV xs lo hi)) (fun b ob q=>Heap.get?_push_of_some _ q) (Nat.le_refl _) ?_,rfl,q _ (I.hok.fresh (Nat.le_refl _))⟩
 exact ⟨Nat.le_trans (je xs lo hi) hz,_,0,(r.drop (HT.sIx xs.length 0 lo)).take (HT.sIx xs.length xs.length hi - HT.sIx xs.length 0 lo),Heap.get?_push_size _ rfl⟩
theorem Yz:uv X (.builtin "len") (fun xs H Q=>∃ p ys,xs=[.ref p] /\ (SqL X.K H p ys \/ SqT X.K H p ys) /\ Q (.int ys.length) H):=by
 intro pn s σ H xs us Q I r h
 obtain ⟨p,ys,rfl,hq,q⟩:=h
 obtain ⟨u,rfl,rx⟩:=Z1 r
 cases rx
 have hn:=t4
 rcases hq with hq | hq
 ·obtain ⟨its,r',pl,hz⟩:=I.list hq
  have hlen:=r'.length
  exact Calls.call_len_list pl.isList (by simp only [List.size_toArray] <;> omega) ⟨.int ys.length,H,I.tok _,⟨s.toks + 1,by rw [List.size_toArray,hlen]⟩,q⟩
 ·obtain ⟨its,r',pl,hz⟩:=I.tuple hq
  have hlen:=r'.length
  exact len_tuple pl (by simp only [List.size_toArray] <;> omega) ⟨.int ys.length,H,I.tok _,⟨s.toks + 1,by rw [List.size_toArray,hlen]⟩,q⟩
theorem Yy:uv X (.builtin "len") (fun xs H Q=>∃ z,xs=[.str z] /\ z.length <= sizeLine /\ Q (.int z.length) H):=by
 intro pn s σ H xs us Q I r h
 obtain ⟨z,rfl,hz,q⟩:=h
 obtain ⟨u,rfl,t,rfl⟩:=Z1 r
 have hn:=t4
 exact len_str (by omega) ⟨.int z.length,H,I.tok _,⟨_,rfl⟩,q⟩
theorem uv.or {f:Value} {r r':List V->Hp->VK->Prop} (h:uv X f r) (h':uv X f r'):uv X f (fun xs H Q=>r xs H Q \/ r' xs H Q):=by
 intro pn s σ H xs us Q I rs q
 rcases q with q | q
 ·exact h pn s σ H xs us Q I rs q
 ·exact h' pn s σ H xs us Q I rs q
theorem Yx:uv X (.type "list") (fun xs H Q=>∃ p ys,xs=[.ref p] /\ (SqL X.K H p ys \/ SqT X.K H p ys) /\ ∀ l,H l=none->Q (.ref l) (upd H l (.lst ys))):=by
 intro pn s σ H xs us Q I r h
 obtain ⟨p,ys,rfl,hq,q⟩:=h
 obtain ⟨u,rfl,rx⟩:=Z1 r
 cases rx
 have fin:∀ (its:List Value),Vals ys its->ys.length <= sizeLine->∀ (h':Heap) (c':Nat),(∀ b o',s.heap.get? b=some o'->h'.get? b=some o') ->
   h'.get? s.heap.objs.size=some { cls:=.type "list", dict:=none,data:=.seq its.toArray c',slots:=#[] }->EP X pn σ Q (.ref s.heap.objs.size) { s with heap:=h' }:=fun its r' hz h' c' kp e =>
  ⟨.ref s.heap.objs.size,_,I.laid (t':=s.toks) kp (Nat.le_refl _) (show wj X.prog X.w _ h' _ (.lst ys) from ⟨hz,its,c',r',e⟩),rfl,q _ (I.hok.fresh (Nat.le_refl _))⟩
 rcases hq with hq | hq
 ·obtain ⟨its,r',pl,hz⟩:=I.list hq
  have hlen:=r'.length
  obtain ⟨o,ho,hc,n,hd⟩:=pl.isList
  exact call_list_seq p (.inl rfl) ho hc hd (fun h' c' kp e=>fin its r' hz h' c' kp e) (by simp only [List.size_toArray] <;> omega)
 ·obtain ⟨its,r',pl,hz⟩:=I.tuple hq
  have hlen:=r'.length
  obtain ⟨o,ho,hc,n,hd⟩:=pl
  exact call_list_seq p (.inr rfl) ho hc hd (fun h' c' kp e=>fin its r' hz h' c' kp e) (by simp only [List.size_toArray] <;> omega)
theorem bv:uv X (.type "tuple") (fun xs H Q=>∃ p ys,xs=[.ref p] /\ ((SqL X.K H p ys /\ ∀ l,H l=none->Q (.ref l) (upd H l (.tup ys))) \/ (SqT X.K H p ys /\ Q (.ref p) H))):=by
 intro pn s σ H xs us Q I r h
 obtain ⟨p,ys,rfl,h⟩:=h
 obtain ⟨u,rfl,rx⟩:=Z1 r
 cases rx
 rcases h with ⟨hq,q⟩ | ⟨hq,q⟩
 ·obtain ⟨its,r',pl,hz⟩:=I.list hq
  have hlen:=r'.length
  refine call_tuple_list pl.isList (fun h' kp=>?_) (by simp only [List.size_toArray] <;> omega)
  have I1:Inv X pn σ H { s with heap:=h' }:=I.kept (t':=s.toks) kp
  have I2:Inv X pn σ (upd H h'.objs.size (.tup ys)) { s with heap:=h'.push { cls:=.type "tuple", data:=.seq its.toArray } } :=
   I1.laid (t':=s.toks) (fun b o e=>Heap.get?_push_of_some _ e) (Nat.le_refl _) (show wj X.prog X.w _ _ _ (.tup ys) from ⟨hz,its,r',IsTup.new _ _,_,Heap.get?_push_size _ rfl,rfl⟩)
  exact ⟨.ref h'.objs.size,_,I2,rfl,q _ (I1.hok.fresh (Nat.le_refl _))⟩
 ·obtain ⟨its,r',pl,hz⟩:=I.tuple hq
  exact call_tuple_same pl ⟨.ref p,H,I,rfl,q⟩
noncomputable def tyV (K:W.Frag) (T:String) (x:V) (H:Hp):Prop:=match x with
 | .str _=>T = "str"
 | .int _=>T = "int"
 | .ref p=>(T = "list" /\ ∃ xs,SqL K H p xs) \/ (T = "tuple" /\ ∃ o,K.lookup p=some o /\ o.cls=.type "tuple" /\ o.dict=none) \/
   (T = "dict" /\ ((∃ kvs,H p=some (.dK kvs)) \/ ∃ kvs,H p=some (.dT kvs))) \/ (T = "set" /\ ∃ S n,H p=some (.set S n))
 | _=>False
theorem Ms {pn:List (Addr × Obj)} {σ:St} {H:Hp} {s:Shared} {T:String} {x:V} {v:Value} (I:Inv X pn σ H s) (r:RelV x v) (ty:tyV X.K T x H) :
  s.TypeIs v T /\ ∀ a,v=.ref a->∃ ob,s.heap.get? a=some ob /\ ob.dict=none:=by
 cases x with
 | str z =>
  obtain ⟨t,rfl⟩:=r
  cases (show T = "str" from ty)
  exact ⟨typeIs_str s z t,fun _ e=>nomatch e⟩
 | int i =>
  obtain ⟨t,rfl⟩:=r
  cases (show T = "int" from ty)
  exact ⟨typeIs_int s i t,fun _ e=>nomatch e⟩
 | ref p =>
  cases r
  rcases ty with ⟨rfl,xs,hq⟩ | ⟨rfl,o,hk,hc,hd⟩ | ⟨rfl,hk⟩ | ⟨rfl,S,n,hk⟩
  ·obtain ⟨its,_,pl,_⟩:=I.list hq
   refine ⟨pl.isList.typeIs,fun a e=>?_⟩
   cases e
   obtain ⟨o,n,e,c,hd,_⟩:=pl
   exact ⟨o,e,hd⟩
  ·refine ⟨⟨o,I.kIn p o hk,hc⟩,fun a e=>?_⟩
   cases e
   exact ⟨o,I.kIn _ o hk,hd⟩
  ·have z:∃ o,s.heap.get? p=some o /\ o.ExactDict:=by
    rcases hk with ⟨kvs,hk⟩ | ⟨kvs,hk⟩
    ·obtain ⟨_,_,_,_,o,_,_,e,ex,_⟩:=I.hok p _ hk
     exact ⟨o,e,ex⟩
    ·obtain ⟨_,_,_,_,o,_,_,e,ex,_⟩:=I.hok p _ hk
     exact ⟨o,e,ex⟩
   obtain ⟨o,e,ex⟩:=z
   refine ⟨⟨o,e,ex.1⟩,fun a e2=>?_⟩
   cases e2
   exact ⟨o,e,ex.2.1⟩
  ·obtain ⟨o,_,_,_,e,ex,_⟩:=I.hok p _ hk
   refine ⟨⟨o,e,ex.1⟩,fun a e2=>?_⟩
   cases e2
   exact ⟨o,e,ex.2.1⟩
 | _=>exact False.elim ty
noncomputable def tBM0 (K:W.Frag) (T:String) (r:V->List V->Hp->VK->Prop) (to:TE):TE:=fun σ H Q=>to σ H fun x H1=>tyV K T x H1 /\ r x [] H1 Q
noncomputable def tBM (K:W.Frag) (T:String) (r:V->List V->Hp->VK->Prop) (to:TE) (t:TA):TE:=fun σ H Q=>to σ H fun x H1=>tyV K T x H1 /\ t σ H1 fun xs H2=>r x xs H2 Q
variable {o e:Expr} {es:List Expr} {to:TE} {t:TA} {name:Str} {apos cpos:Pos} {T id:String} {r:V->List V->Hp->VK->Prop}
theorem Ug (pa:PlainAttrs T) (slot:Slot T name id) (hty:typeOf (.builtin id)=pure (.type "method_descriptor")) (hm:MtR X id r) (ho:PE X o to)
  (hbase:attributeBase o name X.env (eval o X.env)=eval o X.env:=by rfl) (hline:(apos.endLine == cpos.line)=true:=by rfl):PE X (.Call (.Attribute o name apos) [] [] cpos) (tBM0 X.K T r to):=by
 intro pn s σ H Q I h
 refine wpAny_Call_method0_late hbase hline (thn (ho pn s σ H _ I h) fun v s1 ⟨x,H1,I1,r1,ty,q1⟩=>?_)
 obtain ⟨h1,h2⟩:=Ms I1 r1 ty
 exact ⟨T,id,pa,slot,hty,h1,h2,Calls.callWith_builtin rfl (PySem.evalArgs_none (hm pn s1 σ H1 x [] v [] Q I1 r1 .nil q1))⟩
theorem Xm (pa:PlainAttrs T) (slot:Slot T name id) (hty:typeOf (.builtin id)=pure (.type "method_descriptor")) (hm:MtR X id r) (ho:PE X o to) (ha:PA X (e :: es) t)
  (hbase:attributeBase o name X.env (eval o X.env)=eval o X.env:=by rfl)
  (hfew:((backTo cpos (starEach (e :: es) X.env)).all (fun x=>!x.1) && (backToKw cpos (keywordEach [] X.env)).all (fun x=>x.1.isSome)
   && decide ((e :: es).length + ([]:List Keyword).length + (if ([]:List Keyword).isEmpty then 0 else 1) < 30))=true:=by rfl)
  (hline:(apos.endLine == cpos.line)=true:=by rfl) (hs:starEach (e :: es) X.env=(false,eval e X.env) :: starEach es X.env:=by rfl) (hplain:(backTo cpos (starEach es X.env)).any (·.1)=false:=by rfl) :
  PE X (.Call (.Attribute o name apos) (e :: es) [] cpos) (tBM X.K T r to t):=by
 intro pn s σ H Q I h
 refine wpAny_Call_method_late hbase hfew hline rfl (thn (ho pn s σ H _ I h) fun v s1 ⟨x,H1,I1,r1,ty,q1⟩=>?_)
 obtain ⟨h1,h2⟩:=Ms I1 r1 ty
 refine ⟨T,id,pa,slot,hty,h1,h2,?_⟩
 have hA:=ha cpos pn s1 σ H1 _ I1 q1
 rw [hs] at hA ⊢
 refine Calls.callWith_builtin (by show (false || (backTo cpos (starEach es X.env)).any (·.1))=false; rw [hplain] <;> rfl) (Calls.evalArgs_plain ?_)
 exact thn hA fun us s2 ⟨vs,H2,I2,r2,q2⟩=>hm pn s2 σ H2 x vs v us Q I2 r1 r2 q2
end
noncomputable def MtM (X:Cx) (id:String) (r:V->List V->Hp->VK->Prop):Prop :=
 ∀ (pn:List (Addr × Obj)) (s:Shared) (σ:St) (H:Hp) (x:V) (xs:List V) (v:Value) (us:List Value) (Q:VK),Inv X pn σ H s->RelV x v->Vals xs us->r x xs H Q ->
  wpAny (model X.prog X.w) X.A (call (.builtin id) (v :: us)) (EP X pn σ Q) X.xe s
theorem Vals.one:∀ {x:V} {us:List Value},Vals [x] us->∃ u,us=[u] /\ RelV x u
 | _,_,.cons r .nil=>⟨_,rfl,r⟩
theorem Vals.zero:∀ {us:List Value},Vals [] us->us=[]
 | _,.nil=>rfl
theorem Vals.dropLast {xs:List V} {us:List Value} (h:Vals xs us):Vals xs.dropLast us.dropLast:=by
 induction h with
 | nil=>exact .nil
 | cons r t ih =>
  cases t with
  | nil=>exact .nil
  | cons q t'=>exact .cons r ih
theorem Vals.rep {xs:List V} {us:List Value} (h:Vals xs us):∀ k:Nat,Vals (List.replicate k xs).flatten (List.replicate k us).flatten
 | 0=>.nil
 | k + 1=>by
  rw [List.replicate_succ,List.replicate_succ,List.flatten_cons,List.flatten_cons]
  exact Vals.append h (Vals.rep h k)
theorem Sq {α:Type} (l:List α):l.eraseIdx (l.length - 1)=l.dropLast:=by
 induction l with
 | nil=>rfl
 | cons a r ih =>
  cases r with
  | nil=>rfl
  | cons b r =>
   have e:(a :: b :: r).length - 1=((b :: r).length - 1) + 1:=by
    have h1:(a :: b :: r).length=r.length + 2:=rfl
    have h2:(b :: r).length=r.length + 1:=rfl
    omega
   rw [e,List.eraseIdx_cons_succ,ih]
   all_goals rfl
theorem Yn (its:List Value):∀ (k:Nat) (acc:List Value),
  List.foldl (fun x1 x2=>x1 ++ x2) acc.toArray (List.replicate k its.toArray)=(acc ++ (List.replicate k its).flatten).toArray
 | 0,acc=>by simp
 | k + 1,acc=>by
  have e:acc.toArray ++ its.toArray=(acc ++ its).toArray:=by simp
  have e2:(acc ++ its) ++ (List.replicate k its).flatten=acc ++ (List.replicate (k + 1) its).flatten:=by
   rw [List.replicate_succ,List.flatten_cons,List.append_assoc]
  rw [<- e2,<- Yn its k (acc ++ its),<- e,List.replicate_succ,List.foldl_cons]
section
variable {X:Cx} {pn:List (Addr × Obj)} {σ:St} {H:Hp} {s:Shared} {l b:Addr} {xs ys zs:List V}
theorem Inv.lset {its its':List Value} {n:Nat} {f:Array Value->Array Value} {t':Nat} (I:Inv X pn σ H s) (hH:H l=some (.lst xs))
  (e:s.heap.get? l=some { cls:=.type "list", data:=.seq its.toArray n }) (hf:f its.toArray=its'.toArray) (hv:Vals ys its') (hz:ys.length <= sizeLine) :
  Inv X pn σ (upd H l (.lst ys)) { s with heap:=s.heap.update l (Obj.mapSeq f),toks:=t' }:=by
 have q:=PySem.IsL.update e f
 rw [hf] at q
 refine I.write (x:=l) (e:=l) (by rw [hH]; exact trivial) (.inl rfl) (fun b' u hb hu=>(Heap.get?_update_other s.heap (Obj.mapSeq f) (Ne.symm hb)).trans hu) ⟨_,q⟩ ?_
 exact ⟨hz,its',_,hv,q⟩
theorem Inv.lnew {its:List Value} {t':Nat} (I:Inv X pn σ H s) (hv:Vals ys its) (hz:ys.length <= sizeLine) :
  Inv X pn σ (upd H s.heap.objs.size (.lst ys)) { s with heap:=s.heap.push { cls:=.type "list", data:=.seq its.toArray },toks:=t' } :=
 I.laid (fun _ _ q=>Heap.get?_push_of_some _ q) (Nat.le_refl _) ⟨hz,its,0,hv,Heap.get?_push_size _ rfl⟩
theorem Inv.fresh (I:Inv X pn σ H s):H s.heap.objs.size=none:=I.hok.fresh (Nat.le_refl _)
theorem Inv.lstM (I:Inv X pn σ H s) (hH:H l=some (.lst xs)):xs.length <= sizeLine /\ ∃ (its:List Value) (n:Nat),Vals xs its /\ xs.length=its.length /\ s.heap.get? l=some { cls:=.type "list", data:=.seq its.toArray n }:=by
 obtain ⟨z,its,n,r,e⟩:=I.hok l _ hH
 exact ⟨z,its,n,r,r.length,e⟩
theorem Uh {n:Nat} (h:n <= sizeLine):Builtin.List.listTooLong n=false:=by
 unfold Builtin.List.listTooLong
 exact decide_eq_false (by omega)
end
section
variable {X:Cx}
noncomputable def qy:V->List V->Hp->VK->Prop:=fun x vs H Q=>∃ l xs y,x=.ref l /\ vs=[y] /\ H l=some (.lst xs) /\ xs.length < sizeLine /\ Q .non (upd H l (.lst (xs ++ [y])))
theorem u3:MtM X "list.append" qy:=by
 intro pn s σ H x vs v us Q I rx rv h
 obtain ⟨l,xs,y,rfl,rfl,hH,hz,q⟩:=h
 cases rx
 obtain ⟨u,rfl,ru⟩:=rv.one
 obtain ⟨z,its,n,r,hl,e⟩:=I.lstM hH
 refine call_meets F.slot_list_append ⟨_,e,rfl⟩ F.entry_list_append (F.args_list_append_2 _ _) (PySem.list_append l its.toArray n u (by rw [List.size_toArray]; omega)) ⟨e,?_⟩
 refine ⟨.non,_,I.lset (its':=its ++ [u]) hH e (by simp) (r.append (.cons ru .nil)) ?_,rfl,q⟩
 rw [zLa,List.length_singleton]
 omega
noncomputable def Xi:V->List V->Hp->VK->Prop:=fun x vs H Q=>∃ l b xs zs,x=.ref l /\ vs=[.ref b] /\ H l=some (.lst xs) /\ H b=some (.lst zs) /\ xs.length + zs.length <= sizeLine /\ Q .non (upd H l (.lst (xs ++ zs)))
theorem Zj:MtM X "list.extend" Xi:=by
 intro pn s σ H x vs v us Q I rx rv h
 obtain ⟨l,b,xs,zs,rfl,rfl,hH,hB,hz,q⟩:=h
 cases rx
 obtain ⟨u,rfl,ru⟩:=rv.one
 cases ru
 obtain ⟨z,its,n,r,hl,e⟩:=I.lstM hH
 obtain ⟨z2,its2,n2,r2,hl2,e2⟩:=I.lstM hB
 have hsz:its.toArray.size + its2.toArray.size <= sizeLine:=by rw [List.size_toArray,List.size_toArray]; omega
 have hlong:¬ (!its.toArray.isEmpty && Builtin.List.listTooLong (its.toArray.size + its2.toArray.size))=true:=by
  rw [Uh hsz,Bool.and_false]
  exact Bool.false_ne_true
 refine call_meets F.slot_list_extend ⟨_,e,rfl⟩ F.entry_list_extend (F.args_list_extend_2 _ _)
  (AutoSeq1.list_extend_list_list_0 l its.toArray n b its2.toArray n2 hlong (by rw [List.size_toArray]; omega) (by omega)) ⟨e,e2,?_⟩
 refine ⟨.non,_,I.lset (its':=its ++ its2) hH e (by simp) (r.append r2) ?_,rfl,q⟩
 rw [zLa]
 omega
noncomputable def rPop:V->List V->Hp->VK->Prop:=fun x vs H Q=>∃ l xs y,x=.ref l /\ vs=[] /\ H l=some (.lst xs) /\ xs[xs.length - 1]?=some y /\ Q y (upd H l (.lst xs.dropLast))
theorem Uk:MtM X "list.pop" rPop:=by
 intro pn s σ H x vs v us Q I rx rv h
 obtain ⟨l,xs,y,rfl,rfl,hH,hy,q⟩:=h
 cases rx
 have hus:=rv.zero
 subst hus
 obtain ⟨z,its,n,r,hl,e⟩:=I.lstM hH
 obtain ⟨u,hu,ru⟩:=r.get hy
 have hy':its.toArray[its.toArray.size - 1]?=some u:=by
  show its.toArray[its.length - 1]?=some u
  rw [<- Array.getElem?_toList,<- hl]
  exact hu
 refine call_meets F.slot_list_pop ⟨_,e,rfl⟩ F.entry_list_pop (F.args_list_pop_1 _) (MeetsSeq.list_pop_last l its.toArray n u hy' (by rw [List.size_toArray]; omega)) ⟨e,?_⟩
 refine ⟨y,_,I.lset (its':=its.dropLast) hH e ?_ r.dropLast ?_,ru,q⟩
 ·show its.toArray.eraseIdxIfInBounds (its.toArray.size - 1)=its.dropLast.toArray
  rw [List.size_toArray,List.eraseIdxIfInBounds_toArray,Sq]
 ·rw [List.length_dropLast]
  omega
noncomputable def rCat:R2:=fun x y H Q=>∃ l b xs zs,x=.ref l /\ y=.ref b /\ H l=some (.lst xs) /\ H b=some (.lst zs) /\ xs.length + zs.length <= sizeLine /\ ∀ p,H p=none->Q (.ref p) (upd H p (.lst (xs ++ zs)))
theorem Ea:OpR X (binaryOp .Add) rCat:=by
 intro pn s σ H x y v u Q I rx ry h
 obtain ⟨l,b,xs,zs,rfl,rfl,hH,hB,hz,q⟩:=h
 cases rx
 cases ry
 obtain ⟨z,its,n,r,hl,e⟩:=I.lstM hH
 obtain ⟨z2,its2,n2,r2,hl2,e2⟩:=I.lstM hB
 refine PySem.P.add_list e e2 ?_ (by rw [List.size_toArray,List.size_toArray]; omega)
 have ea:its.toArray ++ its2.toArray=(its ++ its2).toArray:=by simp
 rw [ea]
 exact ⟨.ref _,_,I.lnew (t':=s.toks) (r.append r2) (by rw [zLa]; omega),rfl,q _ I.fresh⟩
noncomputable def rRep:R2:=fun x y H Q=>∃ l k xs,x=.ref l /\ y=.int k /\ H l=some (.lst xs) /\ -(2 ^ 63) <= k /\ k < 2 ^ 63 /\ xs.length * k.toNat <= sizeLine /\
 ∀ p,H p=none->Q (.ref p) (upd H p (.lst (List.replicate k.toNat xs).flatten))
theorem Jt {α:Type} (xs:List α) (k:Nat):(List.replicate k xs).flatten.length=k * xs.length:=by
 induction k with
 | zero=>simp
 | succ k ih=>rw [List.replicate_succ,List.flatten_cons,zLa,ih,Nat.succ_mul,Nat.add_comm]
theorem E6:OpR X (binaryOp .Mult) rRep:=by
 intro pn s σ H x y v u Q I rx ry h
 obtain ⟨l,k,xs,rfl,rfl,hH,h1,h2,hz,q⟩:=h
 cases rx
 obtain ⟨t,rfl⟩:=ry
 obtain ⟨z,its,n,r,hl,e⟩:=I.lstM hH
 have hlen:its.toArray.size * k.toNat <= sizeLine:=by rw [List.size_toArray,<- hl]; exact hz
 have hcap:¬ its.toArray.size * k.toNat > (2 ^ 63 - 1) / 8:=by
  have:(sizeLine:Nat) <= (2 ^ 63 - 1) / 8:=by decide
  omega
 have hfit:¬ (!Builtin.List.listFitsIndex k)=true:=by
  rw [fitsIndex_both h1 h2]
  exact Bool.false_ne_true
 have hlong:¬ Builtin.List.listTooLong (its.toArray.size * k.toNat)=true:=by
  rw [Uh hlen]
  exact Bool.false_ne_true
 have hnew:List.foldl (fun x1 x2=>x1 ++ x2) #[] (List.replicate (if its.toArray.isEmpty=true then 0 else k.toNat) its.toArray)=(List.replicate k.toNat its).flatten.toArray:=by
  have f0:∀ m:Nat,List.foldl (fun x1 x2=>x1 ++ x2) #[] (List.replicate m its.toArray)=(List.replicate m its).flatten.toArray:=fun m=>by
   have:=Yn its m []
   rw [List.nil_append] at this
   exact this
  rw [f0]
  cases its with
  | nil=>simp
  | cons a r'=>rw [if_neg (by simp)]
 refine wpAny_binaryOp_repeat_ref (T:="list") (U:="int") (by decide) ⟨_,e,rfl⟩ (fun s'=>typeIs_int s' k t) noFill_list_mul F.fills_int_mul F.slot_int_rmul repeat_list F.slot_int_index.lookup
  (call_meets F.slot_int_rmul (typeIs_int s k t) F.entry_int_rmul (F.args_int_rmul_2 _ _) (int___rmul___int_list k t l its.toArray n)
   ⟨e,rfl,⟨_,e,rfl⟩,call_meets F.slot_list_mul ⟨_,e,rfl⟩ F.entry_list_mul (F.args_list_mul_2 _ _) (AutoListH.list___mul___list_int_3 l its.toArray n k t hfit hcap hlong) ⟨e,?_⟩⟩)
 rw [hnew]
 exact ⟨.ref _,_,I.lnew (t':=s.toks) (r.rep k.toNat) (by rw [Jt,Nat.mul_comm]; exact hz),rfl,q _ I.fresh⟩
end
end L2
namespace Att
open PySem PySem.W PySem.Calls PyProof.Rows
theorem j7 {P:Params} {h:Heap}:∀ (ns:List Int) (vs:List Value),WellAll P h vs (ns.map WData.int)->IntsAre vs ns:=by
 intro ns
 induction ns with
 | nil =>
  intro vs w
  rw [List.map_nil] at w
  cases w
  exact .nil
 | cons n ns ih =>
  intro vs w
  rw [List.map_cons] at w
  cases w with
  | cons a b =>
   cases a
   exact .cons _ _ (ih _ b)
theorem Ro {l:OpenLaw} {n:Nat} (hn:l.most=some n) {P:Params} {h:Heap} {args:List WData} {vals:List Value}
  (hpre:l.row.toRowW.claim.pre args=true) (hwl:WellAll P h vals args) :
  ∃ a vs ns,vals=[Value.ref a] /\ args=[WData.list (ns.map WData.int)] /\ h.get? a=some { cls:=.type "list", data:=.seq vs.toArray } /\ IntsAre vs ns /\ ns.length <= n:=by
 have hsh:WShape.hasAll [] args [.list .int]=true:=(pre_splitW hpre).1
 have hc:l.pre.holds [] { args:=args }=true:=(pre_splitW hpre).2
 obtain ⟨d,r,rfl,h1,h2⟩:=hasAllW_cons hsh
 obtain rfl:=hasAllW_nil h2
 obtain ⟨xs,rfl,h3⟩:=hasW_list h1
 obtain ⟨ns,rfl⟩:=items_int h3
 have hlen:ns.length <= n:=by
  unfold OpenLaw.pre at hc
  have h4:(WTm.not (.lt (.lit (.int (n:Int))) (.len (.arg 0)))).holds [] { args:=[.list (ns.map .int)] }=true:=by
   have h4:=(holds_andW hc).1
   rw [hn] at h4
   exact h4
  have h5:=condW_of h4 (w_not (w_lt w_lit (w_len_list (w_arg rfl))))
  rw [zLm] at h5
  refine Nat.le_of_not_lt fun q=>?_
  have q':(n:Int) < ((ns.length:Nat):Int):=by omega
  first
   | (rw [decide_eq_true q'] at h5; exact absurd h5 (by decide))
   | (simp at h5; omega)
 cases hwl with
 | cons w1 w2 =>
  cases w2
  cases w1 with
  | list ho hall=>exact ⟨_,_,ns,rfl,rfl,ho,j7 ns _ hall,hlen⟩
theorem Q8 (l:OpenLaw) (args:List WData):l.row.toRowW.claim.post args (.bool true) args=true :=
 postW_of (r:=l.row.toRowW) (X:=(true == true))
  (show WShape.has [] (.bool true) .bool=true by first | rfl | decide | simp [WShape.has,WShape.arms,WShape.armsAll])
  (show (WTm.eq .res (.lit (.bool true))).value [] { args:=args,res:=some (.bool true),after:=args }=some (.bool (true == true)) from w_eq_bool (w_res rfl) w_lit) rfl
theorem attach_call {l:OpenLaw} {n:Nat} {q:Program} {loose:List Str} {XP:(Str->Option Value)->Heap->Prop} {YP:World->Heap->Prop} {d:DefRec}
  (hn:l.most=some n) (hdf:d.params.defaults=[])
  (call:∀ (w:World) (s₀ s₁:Shared) (mg mb:Str->Option Value) (fa:Addr) (o:Obj) (pm cd doc:Value) (a:Addr) (vs:List Value) (ns:List Int),
   Ground q loose [] XP w s₀ mg mb s₁.heap->YP w s₁.heap ->
   s₁.heap.get? fa=some o->o.data=.func (docDef d.name d.params d.body d.scope pm cd doc)->s₁.heap.CodeRec cd d.name->mg d.name=some (.ref fa) ->
   s₁.heap.get? a=some { cls:=.type "list", data:=.seq vs.toArray }->IntsAre vs ns->ns.length <= n->s₁.gens=#[] ->
   codeAny (model l.prog w) callerA (.call (.ref fa) ⟨[.ref a],[]⟩) (fun r s'=>r=.ok (.ret (.bool true)) /\ OldK s₁.heap s'.heap /\ s'.os=s₁.os /\ AllBare s'.gens) s₁) :
  WalkO q loose XP YP l.row.toRowW d [] (fun f vs=>PySem.call f vs):=by
 intro w s₀ s₁ mg mb G Y fa o pm cd doc dV kV ho hd hcd hD hmg hg args vals as hpre hlay hrd hwl hlo
 obtain rfl:dV=.none:=Dflts.none hD hdf
 obtain rfl:kV=.none:=Dflts.noKw hD
 obtain ⟨a,vs,ns,rfl,rfl,hobj,hints,hlen⟩:=Ro hn hpre hwl
 refine enter_call (codeAny_mono (call w s₀ s₁ mg mb fa o pm cd doc a vs ns G Y ho (fd_plain hd) hcd hmg hobj hints hlen hg) fun r s' hq=>?_)
 obtain ⟨rfl,h2,h3,h4⟩:=hq
 exact ⟨.inl ⟨.bool true,.bool true,[],rfl,fun _=>rfl,.bool true,Q8 l _,fun _=>⟨List.Pairwise.nil,fun _ hm=>(nomatch hm)⟩⟩,h2,h3,h4⟩
end Att
namespace L2
open PySem PySem.Spec PyProof.Rows
theorem Z0:∀ {vs:List Value} {ns:List Int},IntsAre vs ns->Vals (ns.map V.int) vs
 | _,_,.nil=>.nil
 | _,_,.cons n t h=>.cons ⟨t,rfl⟩ (Z0 h)
noncomputable def Only (H:Hp):Prop:=∀ b,H b=none \/ ∃ o xs,H b=some (.frz o (.lst xs))
theorem Nl {P:Program} {w:World} {K:W.Frag} {mg mb:Str->Option Value} {CX:CXT} {k:Nat} {fa a:Addr} {fd:FuncData} {x:Str} {sp:Sp} {s₁:Shared} {vs:List Value} {ns:List Int}
  (KX:K.In s₁.heap) (hns:s₁.heap.Ns mainGlobals mg) (hb:s₁.heap.Ns builtinsNs mb) (hbb:∀ x:Str,x ≠ "__name__"->mb x=bootBuiltins x) (hlim:s₁.heap.NoLimit) (hg:s₁.gens=#[])
  (ha:s₁.heap.get? a=some { cls:=.type "list", data:=.seq vs.toArray }) (hi:IntsAre vs ns) (hl:ns.length <= sizeLine) (hr:Room k callerA)
  (F:∀ base:Heap,K.In base->base.Ns mainGlobals mg->FnOk P w K mg base CX k fa fd [x] sp) (hbind:∀ (s:Shared) (u:Value),BindsTo s fd ⟨[u],[]⟩ [(x,u)])
  (hsp:∀ H:Hp,Only H->SqL K H a (ns.map V.int)->sp [.ref a] H (fun v _=>v=.bl true) fun _ _ _=>False)
  (hCX:∀ H e s',CX [] H s₁ (fun _ _ _=>False) e s'->False) :
  codeAny (model P w) callerA (.call (.ref fa) ⟨[.ref a],[]⟩) (fun r s'=>r=.ok (.ret (.bool true)) /\ OldK s₁.heap s'.heap /\ s'.os=s₁.os /\ AllBare s'.gens) s₁:=by
 have rv:=Z0 hi
 have lenV:=hi.length
 have core:∀ H:Hp,Only H->SqL K H a (ns.map V.int)->HOk P w H s₁.heap->(∀ b,H b ≠ none->b=a)->(H a ≠ none->K.lookup a=none) ->
   codeAny (model P w) callerA (.call (.ref fa) ⟨[.ref a],[]⟩) (fun r s'=>r=.ok (.ret (.bool true)) /\ OldK s₁.heap s'.heap /\ s'.os=s₁.os /\ AllBare s'.gens) s₁:=by
  intro H hO hS hok hA hK
  have base_of:∀ {b:Addr} {o:Obj},s₁.heap.get? b=some o->H b=none->(hidT s₁.heap H).get? b=some o:=fun e n=>Nw e n
  have noA:∀ {b:Addr} {o:Obj} {es:Array DictEntry} {ep:Nat},s₁.heap.get? b=some o->o.data=.dict es ep->H b=none:=fun {b o es ep} e d=>by
   cases q:H b with
   | none=>rfl
   | some u =>
    have e':b=a:=hA b (by rw [q]; simp)
    subst e'
    rw [ha] at e; cases e
    have d':Data.seq vs.toArray _=Data.dict es ep:=d
    cases d'
  have nsK:∀ {b:Addr} {m:Str->Option Value},s₁.heap.Ns b m->(hidT s₁.heap H).Ns b m:=fun {b m} ⟨o,es,ep,e,d,r⟩=>⟨o,es,ep,base_of e (noA e d),d,r⟩
  have hKb:K.In (hidT s₁.heap H):=fun b o e=>base_of (KX b o e) (by
   cases q:H b with
   | none=>rfl
   | some u =>
    have e':b=a:=hA b (by rw [q]; simp)
    subst e'
    rw [hK (by rw [q]; simp)] at e; cases e)
  have hM:Mod K mg (hidT s₁.heap H):=⟨hKb,nsK hns,⟨mb,nsK hb,hbb⟩,let ⟨mc,h1,h2⟩:=hlim; ⟨mc,nsK h1,h2⟩⟩
  have e0:Env0 P w K mg (hidT s₁.heap H) callerA [] s₁ H:=⟨rfl,hM,fun b o e=>Jl e,Nat.le_of_eq (Qx _ _),trivial,fun b hb=>absurd (show b ∈ ([]:List Addr) from hb) (by simp),hok,.of_eq hg⟩
  refine codeAny_mono ((F _ hKb (nsK hns)).run callerA [] s₁ H ⟨[.ref a],[]⟩ [.ref a] [.ref a] _ _ hr e0 (hbind s₁ (.ref a)) (.cons rfl .nil) (hsp H hO hS)) fun r s' h=>?_
  cases r with
  | error e=>exact (hCX H e s' h).elim
  | ok fl =>
   cases fl with
   | next=>exact False.elim h
   | brk=>exact False.elim h
   | cont=>exact False.elim h
   | ret u =>
    obtain ⟨v,H',os,bare,un,hok',r',q⟩:=h
    have q':v=.bl true:=q
    subst q'
    obtain rfl:u=Value.bool true:=r'
    refine ⟨rfl,OldK.of_keep fun b o e=>?_,os,bare⟩
    cases q:H b with
    | none=>exact un.keep b o e q (by intro z; exact absurd (show b ∈ ([]:List Addr) from z) (by simp)) (by simp)
    | some u =>
     rcases hO b with z | ⟨ob,xs,z⟩
     ·rw [q] at z; cases z
     ·have z2:=un.frzs b ob _ z
      obtain ⟨e1,_⟩:=hok b _ z
      obtain ⟨e2,_⟩:=hok' b _ z2
      rw [e] at e1; cases e1
      exact e2
 cases hk:K.lookup a with
 | some o =>
  have e:=KX a o hk
  rw [ha] at e
  cases e
  refine core (fun _=>none) (fun _=>.inl rfl) (.inr ⟨_,vs.toArray,_,hk,rfl,rfl,rfl,by rw [List.size_toArray,lenV]; exact hl,by simpa using rv⟩) (fun b u z=>by have z':(none:Option HO)=some u:=z; cases z') (fun b z=>absurd rfl z) fun z=>absurd rfl z
 | none =>
  refine core (fun b=>if b=a then some (.frz { cls:=.type "list", data:=.seq vs.toArray } (.lst (ns.map V.int))) else none) (fun b=>?_) (.inl (.inr ⟨{ cls:=.type "list", data:=.seq vs.toArray },if_pos rfl⟩)) (fun b u z=>?_) (fun b z=>?_) fun _=>hk
  ·by_cases hb:b=a
   ·exact .inr ⟨_,_,if_pos hb⟩
   ·exact .inl (if_neg hb)
  ·by_cases hb:b=a
   ·have z':=(if_pos hb).symm.trans z
    cases z'
    subst hb
    exact ⟨ha,by rw [zLm]; exact hl,vs,_,rv,ha⟩
   ·have z':=(if_neg hb).symm.trans z
    cases z'
  ·by_cases hb:b=a
   ·exact hb
   ·exact absurd (if_neg hb) z
noncomputable abbrev KOf {K:W.Frag} {h:Heap} (_:K.In h):W.Frag:=K
theorem walk_of {l:W.OpenLaw} {n k:Nat} {q:Program} {loose:List Str} {XP:(Str->Option Value)->Heap->Prop} {YP:World->Heap->Prop} {d:DefRec} {K:Params->W.Frag} {CX:World->CXT} {sp:World->Sp} {x:Str}
  (hn:l.most=some n) (hn2:n <= sizeLine) (hdf:d.params.defaults=[]) (hr:Room k callerA)
  (hY:∀ (w:World) (h:Heap),YP w h->(K w.params).In h)
  (F:∀ (w:World) (mg:Str->Option Value) (fa:Addr) (h:Heap),(K w.params).In h->h.Ns mainGlobals mg->mg d.name=some (.ref fa) ->
   ∃ fd:FuncData,(∀ (s:Shared) (u:Value),BindsTo s fd ⟨[u],[]⟩ [(x,u)]) /\
    ∀ base:Heap,(K w.params).In base->base.Ns mainGlobals mg->FnOk l.prog w (K w.params) mg base (CX w) k fa fd [x] (sp w))
  (hsp:∀ (w:World) (H:Hp) (a:Addr) (ns:List Int),ns.length <= n->Only H->SqL (K w.params) H a (ns.map V.int)->sp w [.ref a] H (fun v _=>v=.bl true) fun _ _ _=>False)
  (hCX:∀ (w:World) (H:Hp) (s:Shared) (e:Value) (s':Shared),CX w [] H s (fun _ _ _=>False) e s'->False) :
  W.WalkO q loose XP YP l.row.toRowW d [] (fun f vs=>PySem.call f vs):=by
 refine Att.attach_call hn hdf fun w s₀ s₁ mg mb fa o pm cd doc a vs ns G Y ho hd hcd hmg hobj hints hlen hg=>?_
 have KX:=hY w _ Y
 obtain ⟨fd,hb,hF⟩:=F w mg fa _ KX G.T.g hmg
 exact Nl KX G.T.g G.T.b G.T.builtins G.T.nolimit hg hobj hints (Nat.le_trans hlen hn2) hr hF hb (fun H hO hS=>hsp w H a ns hlen hO hS) fun H e s'=>hCX w H s₁ e s'
end L2
namespace L2
open PySem PySem.Spec PyProof.Rows
noncomputable abbrev CX0:CXT:=fun _ _ _ _ _ _=>False
noncomputable abbrev E0:XK:=fun _ _ _=>False
theorem Xn {X:Cx}:jh CX0 X E0:=fun _ _ _ _ _ _ _ h=>h.elim
structure Fun (K:W.Frag) (x qual:Str) (st:Stmt) (f:Addr) (fd:FuncData):Prop where
 ex:∃ (oc:Value) (od:Option Addr) (kV doc pm:Value) (an:Option Addr) (qZ ct:Value) (osl:Array (Option Value)),
  fd=W.fnOf x qual (wk st) (yc st) (zb st) .none kV doc pm an qZ ct /\ K.lookup f=some ⟨oc,od,.func fd,osl⟩ /\ W.codeIn K qZ qual=true
 kp:W.keepIn K (.ref f)=true
section
variable {P:Program} {w:World} {K:W.Frag} {mg:Str->Option Value} {base:Heap}
theorem Fun.ok {x qual:Str} {st:Stmt} {f:Addr} {fd:FuncData} {N ps:List Str} {k:Nat} {sp:Sp} (F:Fun K x qual st f fd) (S:zn N ps (zb st)) (len:∀ vs H Q E,sp vs H Q E->vs.length=ps.length)
  (qY:∀ (qZ:Value) (A:Around) (outer:List Env) (s:Shared) (H:Hp) (vs:List V) (Q:VK) (E:XK),Room k (A.deeper (envOfC qual (zb st) s.heap.objs.size f qZ))->sp vs H Q E ->
   ∃ t,PSs (cxOf CX0 P w K mg base N qual (zb st) f qZ A outer s H E).nox (yc st) t /\ t { nx:=fun _ H'=>Q .non H',rt:=Q } (start N vs) H):FnOk P w K mg base CX0 (k + 1) f fd ps sp:=by
 obtain ⟨oc,od,kV,doc,pm,an,qZ,ct,osl,rfl,lk,hcd⟩:=F.ex
 refine D9 lk hcd S len fun A outer s H vs Q E hr hsp=>?_
 obtain ⟨t,h,q⟩:=qY qZ A outer s H vs Q E hr hsp
 exact ⟨t,h.nox,q⟩
theorem Fun.binds {x qual:Str} {st:Stmt} {f:Addr} {fd:FuncData} {ps:List Str} (F:Fun K x qual st f fd)
  (h:∀ (kV doc pm:Value) (an:Option Addr) (qZ ct:Value) (us:List Value),us.length=ps.length->bindArgs (W.fnOf x qual (wk st) (yc st) (zb st) .none kV doc pm an qZ ct) ⟨us,[]⟩=pure (ps.zip us)):wz K fd ps []:=by
 obtain ⟨oc,od,kV,doc,pm,an,qZ,ct,osl,rfl,lk,hcd⟩:=F.ex
 exact .all (h kV doc pm an qZ ct)
theorem Lo {x qual:Str} {st:Stmt} {f:Addr} {oc:Value} {od an:Option Addr} {osl:Array (Option Value)} {kV doc pm qZ ct:Value} (l:K.lookup f=some ⟨oc,od,.func (W.fnOf x qual (wk st) (yc st) (zb st) .none kV doc pm an qZ ct),osl⟩)
  (c:W.codeIn K qZ qual=true) (k:W.keepIn K (.ref f)=true):Fun K x qual st f (W.fnOf x qual (wk st) (yc st) (zb st) .none kV doc pm an qZ ct):=⟨⟨oc,od,kV,doc,pm,an,qZ,ct,osl,rfl,l,c⟩,k⟩
end
theorem iteF {A B:Prop} (h:B):if false=true then A else B:=by
 rw [if_neg Bool.false_ne_true]
 exact h
theorem iteT {A B:Prop} (h:A):if true=true then A else B:=by
 rw [if_pos rfl]
 exact h
noncomputable def Same (H H':Hp):Prop:=∀ b o,H b=some o->H' b=some o
theorem Same.refl (H:Hp):Same H H:=fun _ _ h=>h
theorem Same.trans {H H1 H2:Hp} (a:Same H H1) (b:Same H1 H2):Same H H2:=fun c o h=>b c o (a c o h)
theorem Same.free {H H':Hp} (e:Same H H') {l:Addr} (h:H' l=Option.none):H l=Option.none:=by
 cases q:H l with
 | none=>rfl
 | some o =>
  rw [e l o q] at h
  cases h
end L2
namespace L3
open PySem PySem.Spec L2
open PyProof.Rows hiding St
theorem P5 {α β:Type} {f:α->β->Sem (ForInStep β)} (R:List α->β->Prop) (h:∀ x l c,R (x :: l) c->∃ c',f x c=pure (.yield c') /\ R l c') :
  ∀ (l:List α) (c:β),R l c->∃ c',forIn l c f=pure c' /\ R [] c'
 | [],c,r=>⟨c,rfl,r⟩
 | x :: l,c,r=>by
  obtain ⟨c1,e,r1⟩:=h x l c r
  obtain ⟨c2,e2,r2⟩:=P5 R h l c1 r1
  exact ⟨c2,by rw [List.forIn_cons,e,pure_bind]; exact e2,r2⟩
theorem Vk {env:Env} {x:Str} {c:Addr} (h:env.cells.lookup x=some c):cellOf env x=pure c:=by
 unfold cellOf
 rw [h]
theorem fi {scope:Scope} {env:Env} (h:∀ y ∈ scope.names,y.2=.free->∃ c,env.cells.lookup y.1=some c) :
  ∃ cl,closureFor scope env=pure cl /\ (∀ x c,cl.lookup x=some c->env.cells.lookup x=some c) /\ ∀ y ∈ scope.names,y.2=.free->∃ c,cl.lookup y.1=some c:=by
 let f:Str × NameKind->List (Str × Addr)->Sem (ForInStep (List (Str × Addr))):=fun x r=>match x with
  | (name,kind)=>if (kind == .free)=true then (do let a <- cellOf env name; pure (.yield ((name,a) :: r))) else pure (.yield r)
 have q:=P5 (f:=f) (fun rem cs=>(∀ x c,cs.lookup x=some c->env.cells.lookup x=some c) /\ (∀ y ∈ scope.names,y.2=.free->(∃ c,cs.lookup y.1=some c) \/ y ∈ rem) /\ ∀ y ∈ rem,y ∈ scope.names) ?_ scope.names []
  ⟨fun x c e=>(by cases e),fun y hy _=>.inr hy,fun _ hy=>hy⟩
 ·obtain ⟨cl,e,p1,p2,_⟩:=q
  refine ⟨cl,?_,p1,fun y hy hf=>(p2 y hy hf).elim (fun z=>z) fun z=>(by cases z)⟩
  have e1:closureFor scope env=(forIn scope.names [] f >>= fun r=>pure r):=rfl
  rw [e1,e,pure_bind]
 ·rintro ⟨n,k⟩ l cs ⟨p1,p2,p3⟩
  have hm:=p3 _ (List.mem_cons_self ..)
  by_cases hk:k=.free
  ·subst hk
   obtain ⟨c,hc⟩:=h _ hm rfl
   refine ⟨(n,c) :: cs,?_,fun x c' e=>?_,fun y hy hf=>?_,fun y hy=>p3 y (List.mem_cons_of_mem _ hy)⟩
   ·show (if ((NameKind.free == NameKind.free)=true) then _ else _)=_
    rw [if_pos (by decide),Vk hc,pure_bind]
   ·rw [List.lookup_cons] at e
    cases hx:x == n with
    | true =>
     rw [hx] at e
     have ex:x=n:=eq_of_beq hx
     subst ex
     cases e
     exact hc
    | false =>
     rw [hx] at e
     exact p1 x c' e
   ·rcases p2 y hy hf with ⟨c',e⟩ | z
    ·refine .inl ?_
     rw [List.lookup_cons]
     cases hx:y.1 == n with
     | true=>exact ⟨c,rfl⟩
     | false=>exact ⟨c',e⟩
    ·rcases List.mem_cons.mp z with rfl | z
     ·exact .inl ⟨c,by rw [List.lookup_cons]; simp⟩
     ·exact .inr z
  ·refine ⟨cs,?_,p1,fun y hy hf=>?_,fun y hy=>p3 y (List.mem_cons_of_mem _ hy)⟩
   ·show (if ((k == NameKind.free)=true) then _ else _)=_
    rw [if_neg (by simpa using hk)]
   ·rcases p2 y hy hf with z | z
    ·exact .inl z
    ·rcases List.mem_cons.mp z with rfl | z
     ·exact absurd hf hk
     ·exact .inr z
theorem wv {env:Env}:∀ {names:List (Str × NameKind)} {x:Str},names.lookup x=some .free ->
  (names.map fun (n,k)=>if (k == NameKind.free && env.scope.kind == .function && env.kindOf n == some .cell) then (n,NameKind.cell) else (n,k)).lookup x=some .cell \/
  (names.map fun (n,k)=>if (k == NameKind.free && env.scope.kind == .function && env.kindOf n == some .cell) then (n,NameKind.cell) else (n,k)).lookup x=some .free
 | [],_,h=>by cases h
 | (n,k) :: r,x,h=>by
  have ih:=@wv env r x
  rw [List.map_cons]
  cases hx:x == n with
  | true =>
   rw [List.lookup_cons,hx] at h
   cases h
   by_cases hc:(NameKind.free == NameKind.free && env.scope.kind == .function && env.kindOf n == some .cell)=true
   ·refine .inl ?_
    show List.lookup x ((if (NameKind.free == NameKind.free && env.scope.kind == .function && env.kindOf n == some .cell)=true then (n,NameKind.cell) else (n,NameKind.free)) :: _)=_
    rw [if_pos hc,List.lookup_cons,hx]
   ·refine .inr ?_
    show List.lookup x ((if (NameKind.free == NameKind.free && env.scope.kind == .function && env.kindOf n == some .cell)=true then (n,NameKind.cell) else (n,NameKind.free)) :: _)=_
    rw [if_neg hc,List.lookup_cons,hx]
  | false =>
   rw [List.lookup_cons,hx] at h
   have e:∀ (b:Bool) (l:List (Str × NameKind)),List.lookup x ((if b=true then (n,NameKind.cell) else (n,k)) :: l)=l.lookup x:=fun b l=>by
    cases b with
    | true=>rw [if_pos rfl,List.lookup_cons,hx]
    | false=>rw [if_neg Bool.false_ne_true,List.lookup_cons,hx]
   rcases ih h with q | q
   ·exact .inl ((e _ _).trans q)
   ·exact .inr ((e _ _).trans q)
theorem rf {scope:Scope} {env:Env} (hnc:∀ y ∈ scope.names,y.2 ≠ .cell) {x:Str} {k:NameKind} (h:(relabel scope env).names.lookup x=some k) (hk:k=.cell \/ k=.free) :
  ∃ y ∈ scope.names,y.1=x /\ y.2=.free:=by
 have hm:=PySem.mem_of_lookup h
 obtain ⟨⟨n,k0⟩,hy,e⟩:=List.mem_map.mp hm
 refine ⟨(n,k0),hy,?_⟩
 have e':(if (k0 == NameKind.free && env.scope.kind == .function && env.kindOf n == some .cell)=true then (n,NameKind.cell) else (n,k0))=(x,k):=e
 by_cases hc:(k0 == NameKind.free && env.scope.kind == .function && env.kindOf n == some .cell)=true
 ·rw [if_pos hc] at e'
  cases e'
  refine ⟨rfl,?_⟩
  rw [Bool.and_eq_true,Bool.and_eq_true] at hc
  exact eq_of_beq hc.1.1
 ·rw [if_neg hc] at e'
  cases e'
  rcases hk with rfl | rfl
  ·exact absurd rfl (hnc _ hy)
  ·exact ⟨rfl,rfl⟩
noncomputable abbrev yq (X:Cx) (N':List Str) (scope:Scope) (cl:List (Str × Addr)) (C:Addr) (fp:List Addr) (s₀:Shared) (H₀:Hp):Cx :=
 { X with N:=N',s₀:=s₀,H₀:=H₀,env:=compEnvC scope cl C X.env,outer:=X.stack,ex:=fp,fn:=fun _=>false,pn:=[],xe:=fun _ _=>False }
structure y9 (psc scope:Scope) (T F:List Str):Prop where
 kind:scope.kind=.function
 nocell:∀ y ∈ scope.names,y.2 ≠ .cell
 loc:∀ y ∈ scope.names,y.2=.local->scope.names.lookup y.1=some .local
 fr:∀ y ∈ scope.names,y.2=.free->psc.names.lookup y.1=some .cell \/ psc.names.lookup y.1=some .free
 nd:(T ++ F).Nodup
 ffree:∀ x ∈ F,scope.names.lookup x=some .free
section
variable {X:Cx} {pn:List (Addr × Obj)} {σ:St} {H H':Hp} {s s':Shared} {scope:Scope} {T F:List Str} {cl:List (Str × Addr)} {C:Addr} {fp:List Addr} {js:List Nat}
theorem jf (I:Inv X pn σ H s) (S:y9 X.env.scope scope T F):∀ y ∈ scope.names,y.2=.free->∃ c,X.env.cells.lookup y.1=some c:=fun y hy hf=>I.ok.has y.1 (S.fr y hy hf)
theorem Jk (I:Inv X pn σ H s) (S:y9 X.env.scope scope T F) (p1:∀ x c,cl.lookup x=some c->X.env.cells.lookup x=some c)
  (p2:∀ y ∈ scope.names,y.2=.free->∃ c,cl.lookup y.1=some c) (hC:s.heap.objs.size <= C) (hf:∀ b ∈ fp,FpOk X pn H b) (hfl:∀ b ∈ fp,b < s.heap.objs.size) :
  (yq X (T ++ F) scope cl C fp s H).Ok where
 mod:=I.ok.mod
 kind:=S.kind
 glob:=I.ok.glob
 blt:=I.ok.blt
 above:=hC
 inj:=fun x y c hx hy=>I.ok.inj x y c (p1 x c hx) (p1 y c hy)
 has:=fun x hx=>by
  have q:∃ y ∈ scope.names,y.1=x /\ y.2=.free:=by
   rcases hx with hx | hx
   ·exact rf (env:=X.env) S.nocell (show (relabel scope X.env).names.lookup x=some .cell from hx) (.inl rfl)
   ·exact rf (env:=X.env) S.nocell (show (relabel scope X.env).names.lookup x=some .free from hx) (.inr rfl)
  obtain ⟨y,hy,rfl,hf⟩:=q
  exact p2 y hy hf
 cab:=fun x c h=>by cases h
 hd:=I.ok.hd
 frames:=I.ok.frames
 stk:=.inl rfl
 exf:=fun b hb=>⟨Nat.ne_of_lt (Nat.lt_of_lt_of_le (hfl b hb) hC),fun x c e=>(hf b hb).2.2.2.2.1 x c (p1 x c e)⟩
 bs:=I.bs
 bsz:=Nat.le_trans I.ok.bsz I.sz
 noex:=fun b o e hb=>by
  rcases (hf b hb).2.2.2.1 with z | z
  ·exact I.ok.noex b o e z
  ·exact absurd (Nat.lt_of_lt_of_le (Heap.lt_size (I.ok.bs b o e).1) z) (Nat.lt_irrefl _)
 exfs:=fun b hb z=>by
  rcases List.mem_cons.mp (I.stkSub b z) with q | q
  ·exact (hf b hb).2.1 q
  ·exact (hf b hb).2.2.1 q
 funs:=I.stack
 frf:=I.stkFree
noncomputable def st0 (T:List Str) (js:List Nat) (σ:St):St:=List.replicate T.length none ++ js.map fun j=>(σ[j]?).join
theorem sf {α β:Type} {R:α->β->Prop}:∀ {l:List α} {r:List β} {i:Nat} {b:β},Paired R l r->r[i]?=some b->∃ a,l[i]?=some a /\ R a b
 | _,_,_,_,.nil,e=>by simp at e
 | _,_,0,_,.cons h _,e=>by simp at e; subst e; exact ⟨_,rfl,h⟩
 | _,_,i + 1,b,.cons _ t,e=>by
  obtain ⟨a,q1,q2⟩:=sf (i:=i) (b:=b) t (by simpa using e)
  exact ⟨a,by simpa using q1,q2⟩
theorem Nu {h₁:Heap} {m:Str->Option Value} {t':Nat} (I:Inv X pn σ H s) (S:y9 X.env.scope scope T F) (p1:∀ x c,cl.lookup x=some c->X.env.cells.lookup x=some c)
  (p2:∀ y ∈ scope.names,y.2=.free->∃ c,cl.lookup y.1=some c) (hjs:Paired (fun x j=>X.N[j]?=some x) F js) (hC:s.heap.objs.size <= C) (hf:∀ b ∈ fp,FpOk X pn H b) (hfl:∀ b ∈ fp,b < s.heap.objs.size)
  (hn:h₁.Ns C m) (hk:∀ b o,s.heap.get? b=some o->h₁.get? b=some o):Inv (yq X (T ++ F) scope cl C fp s H) [] (st0 T js σ) H { s with heap:=h₁,toks:=t' }:=by
 refine ⟨Jk I S p1 p2 hC hf hfl,rfl,I.bare,Un.kept hk,⟨m,hn,fun i x v h1 h2 h3=>?_⟩,fun x c e=>?_,I.hok.fresh hC,fun x c e=>I.freeC x c (p1 x c e),fun p hp=>(by cases hp),I.hok.kept hk,?_⟩
 ·have hi:T.length <= i:=by
   rcases Nat.lt_or_ge i T.length with z | z
   ·exfalso
    unfold st0 at h2
    rw [List.getElem?_append_left (by simpa using z),List.getElem?_replicate] at h2
    split at h2 <;> cases h2
   ·exact z
  unfold st0 at h2
  rw [List.getElem?_append_right (by simpa using hi),List.getElem?_map,List.length_replicate] at h2
  cases ej:js[i - T.length]? with
  | none=>rw [ej] at h2; cases h2
  | some j =>
   rw [ej] at h2
   have hσ:(σ[j]?).join=some v:=Option.some.inj h2
   obtain ⟨x',hx',hX⟩:=sf hjs ej
   have h1':(T ++ F)[i]?=some x:=h1
   rw [List.getElem?_append_right hi,hx'] at h1'
   cases h1'
   have hσ':σ[j]?=some (some v):=by
    cases e:σ[j]? with
    | none=>rw [e] at hσ; cases hσ
    | some o=>rw [e] at hσ; cases hσ; rfl
   have hxF:x ∈ F:=List.mem_of_getElem? hx'
   have hfree:=S.ffree x hxF
   have hpsc:=S.fr _ (PySem.mem_of_lookup hfree) rfl
   obtain ⟨m0,_,look⟩:=I.loc
   obtain ⟨u,ru,lk⟩:=look j x v hX hσ' (.inr hpsc)
   refine ⟨u,ru,?_⟩
   rcases lk with ⟨k,_⟩ | ⟨_,c,hc,hcell⟩
   ·exfalso
    have k':X.env.scope.names.lookup x=some .local:=k
    rcases hpsc with z | z
    ·rw [k'] at z; cases z
    ·rw [k'] at z; cases z
   ·obtain ⟨c',hc'⟩:=p2 _ (PySem.mem_of_lookup hfree) rfl
    have e2:=p1 x c' hc'
    rw [hc] at e2
    cases e2
    refine .inr ⟨?_,c,hc',hcell.keeps hk⟩
    exact wv (env:=X.env) hfree
 ·obtain ⟨v,q⟩:=I.cell x c (p1 x c e)
  exact ⟨v,q.keeps hk⟩
 ·show (st0 T js σ).length=(T ++ F).length
  unfold st0
  rw [zLa,zLa,List.length_replicate,zLm,(Paired.length hjs)]
theorem Nv {N':List Str} {σ':St} (I:Inv X pn σ H s) (J:Inv (yq X N' scope cl C fp s H) [] σ' H' s') (hf:∀ b ∈ fp,FpOk X pn H b):Inv X pn σ H' s' :=
 I.call' (ch:=fp) (show s'.os=s.os from J.os) J.base J.hok J.bare fun b hb=>⟨(hf b hb).2.2.2.1,(hf b hb).2.1,(hf b hb).2.2.2.2.1,(hf b hb).2.2.2.2.2⟩
end
section
variable {prog:Program} {w:World} {A:Around} {R:Result->Shared->Prop} {s:Shared}
theorem Ss {elt target iter:Expr} {ifs:List Expr} {scope:Scope} {pos:Pos} {it acc:Value} {env:Env} (I:Nat->Shared->Prop)
  (turn:∀ n s,I n s->wpAny (model prog w) A (pyNext it) (fun r s₁=>match r with
   | none=>R (.ok .next) s₁
   | some v=>wpAny (model prog w) A (letOwnedTupleGo target it v) (fun _ s₂=>wpAny (model prog w) A (assign target env v) (fun _ s₃ =>
     wpAny (model prog w) A (forIn ifs true fun c r=>if r=true then do let ok <- isTrue c env (eval c env); pure (ForInStep.yield ok) else pure (ForInStep.yield r)) (fun ok s₄ =>
      if ok=true then wpAny (model prog w) A (eval elt env) (fun x s₅=>wpAny (model prog w) A (call (.builtin "list.append") [acc,x]) (fun _ s₆=>∃ m,m < n /\ I m s₆) (fun _ _=>False) s₅) (fun _ _=>False) s₄
      else ∃ m,m < n /\ I m s₄) (fun _ _=>False) s₃) (fun _ _=>False) s₂) (fun _ _=>False) s₁) (fun _ _=>False) s)
  (n:Nat) (h:I n s):codeAny (model prog w) A (.compLoop (.ListComp elt [⟨target,iter,ifs,0⟩] scope pos) 0 it acc env) R s:=by
 refine codeAny_loop rfl I (fun n s hI=>?_) n h
 show wpAny _ A ((compTurn (.ListComp elt [⟨target,iter,ifs,0⟩] scope pos) 0 it acc env).onRaise (fun x=>do noteFrame x env; theTreesLotGoes x)) _ _ s
 refine wpAny_noted (wpAny_noRaise ?_)
 rw [compTurn_list]
 refine wpAny_bind (wpAny_standAt (wpAny_bind (thn (turn n s hI) fun r s₁ h₁=>?_)))
 cases r with
 | none=>exact wpAny_pure h₁
 | some v =>
  refine wpAny_bind (thn h₁ fun _ s₂ h₂=>wpAny_bind (thn h₂ fun _ s₃ h₃=>wpAny_bind (thn h₃ fun ok s₄ h₄=>?_)))
  cases ok with
  | false=>exact wpAny_pure ⟨rfl,h₄⟩
  | true=>exact wpAny_bind (wpAny_bind (thn h₄ fun x s₅ h₅=>wpAny_bind (thn h₅ fun _ s₆ h₆=>wpAny_pure (wpAny_pure ⟨rfl,h₆⟩))))
end
noncomputable def PIf (X:Cx) (ifs:List Expr) (t:TT):Prop :=
 ∀ (pn:List (Addr × Obj)) (s:Shared) (σ:St) (H:Hp) (Q:Bool->Hp->Prop),Inv X pn σ H s->t σ H Q ->
  wpAny (model X.prog X.w) X.A (forIn ifs true fun c r=>if r=true then do let ok <- isTrue c X.env (eval c X.env); pure (ForInStep.yield ok) else pure (ForInStep.yield r)) (TP X pn σ Q) X.xe s
noncomputable def tYes:TT:=fun _ H Q=>Q true H
theorem J8 {X:Cx}:PIf X [] tYes:=fun _ _ _ H _ I h=>wpAny_tests_nil ⟨H,I,h⟩
noncomputable def xp (n:Nat) (σ σ':St):Prop:=σ'.length=σ.length /\ ∀ i,n <= i->σ'[i]?=σ[i]?
theorem xp.refl (n:Nat) (σ:St):xp n σ σ:=⟨rfl,fun _ _=>rfl⟩
theorem xp.trans {n:Nat} {a b c:St} (x:xp n a b) (y:xp n b c):xp n a c:=⟨y.1.trans x.1,fun i h=>(y.2 i h).trans (x.2 i h)⟩
theorem xp.set {n i:Nat} {σ:St} {v:V} (h:i < n):xp n σ (σ.set i (some v)):=⟨by simp,fun j hj=>by rw [List.getElem?_set_ne (by omega)]⟩
noncomputable def bz (n:Nat) (g:TG):Prop:=∀ v σ H Q,g v σ H Q->g v σ H fun σ' H'=>Q σ' H' /\ xp n σ σ'
noncomputable def T3 (n:Nat) (g:TGs):Prop:=∀ vs σ H Q,g vs σ H Q->g vs σ H fun σ' H'=>Q σ' H' /\ xp n σ σ'
theorem w6 {n i:Nat} (h:i < n):bz n (ug i):=fun v σ H Q q=>⟨q,xp.set h⟩
theorem P2 {n:Nat}:T3 n gNil:=fun vs σ H Q q=>⟨q.1,q.2,xp.refl n σ⟩
theorem sn {n:Nat} {t:TG} {u:TGs} (mono:∀ v σ H Q Q',(∀ σ' H',Q σ' H'->Q' σ' H')->t v σ H Q->t v σ H Q') (monos:∀ v σ H Q Q',(∀ σ' H',Q σ' H'->Q' σ' H')->u v σ H Q->u v σ H Q') (h1:bz n t) (h2:T3 n u):T3 n (qg t u):=fun vs σ H Q q=>by
 obtain ⟨v,r,e,q⟩:=q
 refine ⟨v,r,e,mono _ _ _ _ _ (fun σ' H' z=>?_) (h1 v σ H _ q)⟩
 exact monos _ _ _ _ _ (fun σ2 H2 y=>⟨y.1,z.2.trans y.2⟩) (h2 r σ' H' Q z.1)
theorem P1 {K:W.Frag} {n k:Nat} {t:TGs} (h:T3 n t):bz n (gTup K k t):=fun v σ H Q q=>by
 obtain ⟨a,xs,e,hq,hl,q⟩:=q
 exact ⟨a,xs,e,hq,hl,h xs σ H Q q⟩
theorem vt {i:Nat}:∀ v σ H (Q Q':St->Hp->Prop),(∀ σ' H',Q σ' H'->Q' σ' H')->ug i v σ H Q->ug i v σ H Q':=fun _ _ _ _ _ f q=>f _ _ q
theorem gz:∀ v σ H (Q Q':St->Hp->Prop),(∀ σ' H',Q σ' H'->Q' σ' H')->gNil v σ H Q->gNil v σ H Q':=fun _ _ _ _ _ f q=>⟨q.1,f _ _ q.2⟩
theorem V8 {t:TG} {u:TGs} (mono:∀ v σ H Q Q',(∀ σ' H',Q σ' H'->Q' σ' H')->t v σ H Q->t v σ H Q') (monos:∀ v σ H Q Q',(∀ σ' H',Q σ' H'->Q' σ' H')->u v σ H Q->u v σ H Q') :
  ∀ v σ H (Q Q':St->Hp->Prop),(∀ σ' H',Q σ' H'->Q' σ' H')->qg t u v σ H Q->qg t u v σ H Q':=fun vs σ H Q Q' f q=>by
 obtain ⟨v,r,e,q⟩:=q
 exact ⟨v,r,e,mono _ _ _ _ _ (fun σ' H' z=>monos _ _ _ _ _ f z) q⟩
noncomputable def Gh (J:It) (g:TG) (tc:TT) (te:TE) (σ0:St) (D:Addr) (Z:Hp->Prop) (H:Hp):Prop :=
 ∃ W:Nat->Nat->List V->Hp->Prop,(∃ m,W 0 m [] H) /\ ∀ i m ys H,W i m ys H->H D=some (.lst ys) /\ ((J.stop i H /\ Z H) \/ (J.go i H /\ ∃ N:List V->Hp->Prop,(∀ zs H',N zs H'->∃ m',m' < m /\ W (i + 1) m' zs H') /\ ∀ x H',J.yld i H x H' ->
  g x σ0 H' fun σ2 H2=>tc σ2 H2 fun b H3=>if b=true then te σ2 H3 fun y H4=>H4 D=some (.lst ys) /\ ys.length < sizeLine /\ N (ys ++ [y]) (upd H4 D (.lst (ys ++ [y]))) else N ys H3))
noncomputable def Of (wi:TI) (T:List Str) (js:List Nat) (g:TG) (tc:TT) (te:TE):TE:=fun σ H Q=>wi σ H fun J H1=>∀ D,H1 D=none->Gh J g tc te (st0 T js σ) D (Q (.ref D)) (upd H1 D (.lst []))
section
variable {X:Cx} {pn:List (Addr × Obj)} {σ:St} {H2:Hp} {s2:Shared} {scope:Scope} {T F:List Str} {cl:List (Str × Addr)} {fp:List Addr} {js:List Nat} {tg iter elt:Expr} {ifs:List Expr} {pos:Pos}
 {g:TG} {tc:TT} {te:TE} {J:It} {it:Addr} {tn:Nat->Heap->Prop} {E:Value->Shared->Prop} {RR:Value->Addr->Result->Shared->Prop}
theorem fh (hc:X.calm=true) (S:y9 X.env.scope scope T F) (hjs:Paired (fun x j=>X.N[j]?=some x) F js)
  (hg:∀ cl C fp s H,PG (yq X (T ++ F) scope cl C fp s H) tg g) (hk:bz T.length g)
  (ht:∀ cl C fp s H,PIf (yq X (T ++ F) scope cl C fp s H) ifs tc) (he:∀ cl C fp s H,PE (yq X (T ++ F) scope cl C fp s H) elt te)
  (p1:∀ x c,cl.lookup x=some c->X.env.cells.lookup x=some c) (p2:∀ y ∈ scope.names,y.2=.free->∃ c,cl.lookup y.1=some c)
  (I2:Inv X pn σ H2 s2) (Tn:Turn X.prog X.w X.K tg J fp it tn) (st2:tn 0 s2.heap) (f2:∀ b ∈ fp,FpOk X pn H2 b) (Z:Addr->Hp->Prop)
  (loop:∀ D,H2 D=none->Gh J g tc te (st0 T js σ) D (Z D) (upd H2 D (.lst [])))
  (hRR:∀ D C H' s' m',s'.heap.Ns C m'->FpOk X pn H' C->Inv X pn σ H' s'->Z D H'->RR (.ref D) C (.ok .next) s') :
  wpAny (model X.prog X.w) X.A (newList []) (fun acc s₃=>wpAny (model X.prog X.w) X.A (newFunctionEnv scope X.env.globals cl [] X.env.qual none .none (some X.env)) (fun cenv s₄ =>
   codeAny (model X.prog X.w) X.A (.compStart (.ListComp elt [⟨tg,iter,ifs,0⟩] scope pos) 0 (.ref it) acc { cenv with scope:=relabel scope X.env }) (RR acc cenv.locals) s₄) E s₃) E s2:=by
 refine wpAny_newObj_type (wpAny_newFunctionEnv S.nocell (by intro y hy; cases hy) (fun h₁ hns hsb=>?_) S.kind)
 dsimp only at hns hsb ⊢
 have I3:Inv X pn σ (upd H2 s2.heap.objs.size (.lst [])) { s2 with heap:=s2.heap.push { cls:=.type "list", data:=.seq ([]:List Value).toArray } }:=I2.lnew (its:=[]) (t':=s2.toks) .nil (Nat.zero_le _)
 have hobj:∀ b ∈ fp,b < s2.heap.objs.size:=fun b hb=>by
  obtain ⟨o,e,_⟩:=Tn.obj _ _ st2 b hb
  exact Heap.lt_size e
 have f3:∀ b ∈ fp,FpOk X pn (upd H2 s2.heap.objs.size (.lst [])) b:=fun b hb=>⟨by rw [y0 (Nat.ne_of_lt (hobj b hb))]; exact (f2 b hb).1,(f2 b hb).2⟩
 obtain ⟨W,⟨m0,w0⟩,turn⟩:=loop s2.heap.objs.size I2.fresh
 generalize hs3:({ s2 with heap:=s2.heap.push { cls:=.type "list", data:=.seq ([]:List Value).toArray } }:Shared)=s3 at I3
 have e3:s2.heap.push { cls:=.type "list", dict:=none,data:=.seq ([]:List Value).toArray }=s3.heap:=by rw [<- hs3]
 rw [e3] at hns hsb ⊢
 have sz3:s3.heap.objs.size=s2.heap.objs.size + 1:=by rw [<- e3,Heap.size_push]
 have hold:∀ b o,s3.heap.get? b=some o->h₁.get? b=some o:=fun b o e=>hsb.extBut b o (Nat.ne_of_lt (Heap.lt_size e)) (Heap.get?_push_of_some _ e)
 have hobj3:∀ b ∈ fp,b < s3.heap.objs.size:=fun b hb=>by rw [sz3]; exact Nat.lt_succ_of_lt (hobj b hb)
 have J0:Inv (yq X (T ++ F) scope cl s3.heap.objs.size fp s3 (upd H2 s2.heap.objs.size (.lst []))) [] (st0 T js σ) (upd H2 s2.heap.objs.size (.lst [])) { s3 with heap:=h₁,toks:=s2.toks + ([]:List (Str × Value)).length } :=
  Nu I3 S p1 p2 hjs (Nat.le_refl _) f3 hobj3 hns hold
 have stL:tn 0 h₁:=Tn.keep _ _ _ st2 fun b _ o e=>hold b o (by rw [<- e3]; exact Heap.get?_push_of_some _ e)
 have es:({ s2 with heap:=h₁,toks:=s2.toks + ([]:List (Str × Value)).length }:Shared)={ s3 with heap:=h₁,toks:=s2.toks + ([]:List (Str × Value)).length }:=by rw [<- hs3]
 have main:codeAny (model X.prog X.w) X.A (.compLoop (.ListComp elt [⟨tg,iter,ifs,0⟩] scope pos) 0 (.ref it) (.ref s2.heap.objs.size) (compEnvC scope cl s3.heap.objs.size X.env)) (RR (.ref s2.heap.objs.size) s3.heap.objs.size)
   { s3 with heap:=h₁,toks:=s2.toks + ([]:List (Str × Value)).length }:=by
  have stat:∀ {H':Hp},(∀ b ∈ fp,H' b=none)->∀ b ∈ fp,FpOk (yq X (T ++ F) scope cl s3.heap.objs.size fp s3 (upd H2 s2.heap.objs.size (.lst []))) [] H' b:=fun hn b hb =>
   ⟨hn b hb,Nat.ne_of_lt (hobj3 b hb),J0.ok.exfs b hb,.inl hb,(J0.ok.exf b hb).2,fun p hp=>(by cases hp)⟩
  refine Ss (fun n s'=>∃ i ys H',Inv (yq X (T ++ F) scope cl s3.heap.objs.size fp s3 (upd H2 s2.heap.objs.size (.lst []))) [] (st0 T js σ) H' s' /\ tn i s'.heap /\ (∀ b ∈ fp,H' b=none) /\ W i n ys H') ?_ m0
   ⟨0,[],_,J0,stL,fun b hb=>(f3 b hb).1,w0⟩
  rintro n s4 ⟨i,ys,H4,I4,st4,fr4,w4⟩
  obtain ⟨hD,alt⟩:=turn i n ys H4 w4
  rcases alt with ⟨stop,z⟩ | ⟨go,N,hN,step⟩
  ·refine thn (Tn.done (yq X (T ++ F) scope cl s3.heap.objs.size fp s3 (upd H2 s2.heap.objs.size (.lst []))) rfl rfl rfl hc i [] s4 _ H4 (fun _ _=>False) I4 (stat fr4) st4 stop) fun r s5 ⟨hr,I5⟩=>?_
   subst hr
   obtain ⟨m5,n5,_⟩:=I5.loc
   have fC:FpOk X pn H4 s3.heap.objs.size:=I2.fpOk (by rw [sz3]; exact Nat.le_succ _) I5.free
   exact hRR _ _ H4 s5 m5 n5 fC ((Nv I3 I5 f3)) z
  ·refine thn (Tn.item (yq X (T ++ F) scope cl s3.heap.objs.size fp s3 (upd H2 s2.heap.objs.size (.lst []))) rfl rfl rfl hc i [] s4 _ H4 (fun _ _=>False) I4 (stat fr4) st4 go) fun r s5 ⟨u,hr,h5⟩=>?_
   subst hr
   refine thn h5 fun _ s6 ⟨x,H6,I6,r6,y6,st6,fr6⟩=>?_
   have I6':=I6.pinned (stat fr6) (Tn.obj _ _ st6)
   refine thn (hg _ _ _ _ _ _ s6 _ H6 x u _ I6' r6 (hk x _ H6 _ (step x H6 y6))) fun _ s7 ⟨σ7,H7,I7,q7,kp⟩=>?_
   refine thn (ht _ _ _ _ _ _ s7 σ7 H7 _ I7 q7) fun ok s8 ⟨H8,I8,q8⟩=>?_
   have again:∀ {s9:Shared} {H9:Hp},Inv (yq X (T ++ F) scope cl s3.heap.objs.size fp s3 (upd H2 s2.heap.objs.size (.lst []))) ([] ++ Zf fp s6.heap) σ7 H9 s9->∀ {zs:List V},(∃ m',m' < n /\ W (i + 1) m' zs H9) ->
     ∃ m,m < n /\ ∃ i ys H',Inv (yq X (T ++ F) scope cl s3.heap.objs.size fp s3 (upd H2 s2.heap.objs.size (.lst []))) [] (st0 T js σ) H' s9 /\ tn i s9.heap /\ (∀ b ∈ fp,H' b=none) /\ W i m ys H':=fun {s9 H9} I9 {zs} q9=>by
    obtain ⟨m',hm,w9⟩:=q9
    have I9':=I9.unpinned
    refine ⟨m',hm,i + 1,zs,H9,I9'.weak kp.1.symm (fun a v ea=>?_),Tn.keep _ _ _ st6 fun b hb o e=>(I9.pin (b,o) (List.mem_append_right _ (List.mem_append_right _ (ue hb e)))).1,fun b hb=>?_,w9⟩
    ·have ha:T.length <= a:=by
      rcases Nat.lt_or_ge a T.length with z | z
      ·exfalso
       unfold st0 at ea
       rw [List.getElem?_append_left (by simpa using z),List.getElem?_replicate] at ea
       split at ea <;> cases ea
      ·exact z
     rw [kp.2 a ha]
     exact ea
    ·obtain ⟨o,e,d⟩:=Tn.obj _ _ st6 b hb
     exact (I9.pin (b,o) (List.mem_append_right _ (List.mem_append_right _ (ue hb e)))).2.1
   cases ok with
   | false =>
    rw [if_neg Bool.false_ne_true] at q8 ⊢
    exact again I8 (hN _ _ q8)
   | true =>
    rw [if_pos rfl] at q8 ⊢
    refine thn (he _ _ _ _ _ _ s8 σ7 H8 _ I8 q8) fun y s9 ⟨v9,H9,I9,r9,hD9,hl9,q9⟩=>?_
    refine thn (u3 _ s9 σ7 H9 (.ref s2.heap.objs.size) [v9] (.ref s2.heap.objs.size) [y] (fun _ H10=>H10=upd H9 s2.heap.objs.size (.lst (ys ++ [v9]))) I9 rfl (.cons r9 .nil) ⟨_,_,_,rfl,rfl,hD9,hl9,rfl⟩) fun _ s10 ⟨_,H10,I10,_,e10⟩=>?_
    subst e10
    exact again I10 (hN _ _ q9)
 show codeAny _ _ _ _ ({ s2 with heap:=h₁,toks:=s2.toks + ([]:List (Str × Value)).length }:Shared)
 rw [es]
 exact codeAny_compStart_list main (Tn.self _ 0 _ _ _ stL main)
theorem Qb {wi:TI} (hc:X.calm=true) (hi:PI X tg iter wi) (S:y9 X.env.scope scope T F) (hjs:Paired (fun x j=>X.N[j]?=some x) F js)
  (hg:∀ cl C fp s H,PG (yq X (T ++ F) scope cl C fp s H) tg g) (hk:bz T.length g)
  (ht:∀ cl C fp s H,PIf (yq X (T ++ F) scope cl C fp s H) ifs tc) (he:∀ cl C fp s H,PE (yq X (T ++ F) scope cl C fp s H) elt te)
  (hs:∀ x,foldedSetIterable iter X.env x=pure x:=by intro _; rfl):PE X (.ListComp elt [⟨tg,iter,ifs,0⟩] scope pos) (Of wi T js g tc te):=by
 intro pn s σ H Q I h
 obtain ⟨cl,hcl,p1,p2⟩:=fi (jf I S)
 rw [eval_ListComp]
 refine wpAny_comprehension_free (use:=none) rfl hs hcl S.kind S.loc (thn (hi pn s σ H _ I h) fun v s1 h1=>thn h1 fun itv s2 h2=>?_)
 obtain ⟨it,fp,tn,J,H2,e,I2,Tn,st2,f2,loop⟩:=h2
 subst e
 refine fh (RR:=fun acc C=>compPost (model X.prog X.w) X.A X.xe none (EP X pn σ Q) acc C) hc S hjs hg hk ht he p1 p2 I2 Tn st2 f2 (fun D H'=>Q (.ref D) H') loop ?_
 intro D C H' s' m' hn fC I' z
 obtain ⟨f0,f1,f2,f3,f4,f5⟩:=fC
 exact ⟨m',hn,fun h' sb=>⟨.ref D,H',I'.turned (t':=s'.toks) (fun b o hb e=>(sb.2 b hb).trans e) f0 f1 f3 f4 f5,rfl,z⟩⟩
theorem Td {wi:TI} {i:Nat} {y:Str} {py spos:Pos} (hc:X.calm=true) (hN:X.N.Nodup) (hy:X.N[i]?=some y) (hl:X.env.scope.names.lookup y=some .local \/ X.env.scope.names.lookup y=some .cell) (hi:PI X tg iter wi) (S:y9 X.env.scope scope T F) (hjs:Paired (fun x j=>X.N[j]?=some x) F js)
  (hg:∀ cl C fp s H,PG (yq X (T ++ F) scope cl C fp s H) tg g) (hk:bz T.length g)
  (ht:∀ cl C fp s H,PIf (yq X (T ++ F) scope cl C fp s H) ifs tc) (he:∀ cl C fp s H,PE (yq X (T ++ F) scope cl C fp s H) elt te)
  (hsw:swapsWith (.ListComp elt [⟨tg,iter,ifs,0⟩] scope pos) (some (.Name y py)) spos.line X.env=pure true:=by rfl)
  (hs:∀ x,foldedSetIterable iter X.env x=pure x:=by intro _; rfl) (hfn:X.fn y=true \/ X.env.scope.names.lookup y=some .local:=by first | exact .inl rfl | exact .inr rfl | assumption) :
  PS X (.Assign [.Name y py] (.ListComp elt [⟨tg,iter,ifs,0⟩] scope pos) spos) (fun D σ H=>Of wi T js g tc te σ H fun v H1=>D.nx (σ.set i (some v)) H1):=by
 intro pn s σ H D I h
 obtain ⟨cl,hcl,p1,p2⟩:=fi (jf I S)
 rw [exec_Assign_Name_used _ _ _ _ hsw]
 refine wpAny_bind (wpAny_standAt (wpAny_bind ?_))
 show wpAny _ X.A (do let _ <- comprehension (.ListComp elt [⟨tg,iter,ifs,0⟩] scope pos) scope X.env _ (newList []) false (eval iter X.env) (some (assign (.Name y py) X.env))) _ _ s
 refine wpAny_bind (thn (wpAny_comprehension_free (use:=some (assign (.Name y py) X.env)) (Q:=fun _ s'=>SP X pn D .next s') rfl hs hcl S.kind S.loc (thn (hi pn s σ H _ I h) fun v s1 h1=>thn h1 fun itv s2 h2=>?_)) fun _ s' hq=>wpAny_pure (wpAny_pure hq))
 obtain ⟨it,fp,tn,J,H2,e,I2,Tn,st2,f2,loop⟩:=h2
 subst e
 refine fh (RR:=fun acc C=>compPost (model X.prog X.w) X.A X.xe (some (assign (.Name y py) X.env)) (fun _ s'=>SP X pn D .next s') acc C) hc S hjs hg hk ht he p1 p2 I2 Tn st2 f2 (fun D0 H'=>D.nx (σ.set i (some (.ref D0))) H') loop ?_
 intro D0 C H' s' m' hn fC I' z
 obtain ⟨f0,f1,f2,f3,f4,f5⟩:=fC
 show wpAny _ X.A (assign (.Name y py) X.env (.ref D0)) _ _ s'
 refine wpAny_assign_Name (Z5 (v:=.ref D0) I' hN hy hl rfl (fun s'' I'' ch=>?_) hfn)
 obtain ⟨a,sb,ha⟩:=ch
 have hCa:C ≠ a:=by
  rcases ha with rfl | ha
  ·exact f1
  ·exact fun z=>f4 y a ha z.symm
 exact ⟨m',hn.sameBut sb hCa,fun h' sb'=>⟨_,H',I''.turned (t':=s''.toks) (fun b o hb e=>(sb'.2 b hb).trans e) f0 f1 f3 f4 f5,z⟩⟩
end
noncomputable def Itv (n:Nat) (val:Nat->V->Prop):It:=⟨fun i _=>i < n,fun i H x H'=>H'=H /\ val i x,fun i _=>i=n⟩
noncomputable def Hy (x:Str) (i:Nat) (v:V):Prop:=∃ c,x.cps[i]?=some c /\ v=.str ⟨#[c]⟩
theorem O8 {P:Program} {w:World} {K:W.Frag} {tg:Expr} {it:Addr} {x:Str} {t:Tok} {T:String}
  (W:∀ A:Around,A.handled=none->Walks P w A it [it] [it] x.cps.size (SignAt x) (fun i h=>h.IsStrIter it T x t i))
  (hs:∀ (A:Around) (i:Nat) (s:Shared) (Q:Value->Shared->Prop) (E:Value->Shared->Prop),s.heap.IsStrIter it T x t i->Q (.ref it) s->wpAny (model P w) A (pyIter (.ref it)) Q E s)
  (hT:["enumerate", "zip", "dict_itemiterator", "dict_reverseitemiterator", "odict_iterator", "itertools.zip_longest", "itertools.pairwise"].contains T=false) :
  Turn P w K tg (Itv x.cps.size (Hy x)) [it] it (fun i h=>h.IsStrIter it T x t i) where
 mem:=by simp
 obj:=fun i h st b hb=>by
  have e:b=it:=by simpa using hb
  subst e
  obtain ⟨o,e,c,d⟩:=st
  exact ⟨o,e,fun v z=>by rw [d] at z; cases z⟩
 keep:=fun i h h' st k=>let ⟨o,e,r⟩:=st; ⟨o,k it (by simp) o e,r⟩
 item:=by
  intro X hP hw hK hc i pn s σ H E I hf st hg
  subst hP hw hK
  obtain ⟨f0,f1,f2,f3,f4,f5⟩:=hf it (by simp)
  refine (W X.A (I.ok.hd hc)).item i s _ _ hg st fun v h' tk hv st' kk=>?_
  obtain ⟨c,u,hx,rfl⟩:=hv
  have I1:Inv X pn σ H { s with heap:=h',toks:=tk }:=I.turned (fun b o hb e=>kk b o (by simpa using hb) e) f0 f1 f3 f4 f5
  obtain ⟨o,e,c',d⟩:=id st'
  exact ⟨_,rfl,Qz (s:={ s with heap:=h',toks:=tk }) e c' d hT ⟨.str ⟨#[c]⟩,H,I1,⟨u,rfl⟩,⟨rfl,c,hx,rfl⟩,st',fun b hb=>(hf b hb).1⟩⟩
 done:=by
  intro X hP hw hK hc i pn s σ H E I hf st hg
  subst hP hw hK
  obtain ⟨f0,f1,f2,f3,f4,f5⟩:=hf it (by simp)
  have e:i=x.cps.size:=hg
  subst e
  exact (W X.A (I.ok.hd hc)).done s _ _ st fun h' tk kk=>⟨rfl,I.turned (fun b o hb e=>kk b o (by simpa using hb) e) f0 f1 f3 f4 f5⟩
 self:=fun A i s Q E st h=>hs A i s Q E st h
noncomputable def T9:V->Option Bool
 | .bl b=>some b
 | .int i=>some (i != 0)
 | .non=>some false
 | _=>none
noncomputable def X9 (ys:List V) (d:Bool) (i:Nat):Bool:=((ys[i]?).bind T9).getD d
theorem X6 (ys:List V) (h:∀ y ∈ ys,(T9 y).isSome=true):(List.range ys.length).all (X9 ys true)=ys.all fun y=>T9 y == some true:=by
 rw [Bool.eq_iff_iff,List.all_eq_true,List.all_eq_true]
 constructor
 ·intro q y hy
  obtain ⟨i,hi,e⟩:=List.getElem_of_mem hy
  have z:=q i (List.mem_range.mpr hi)
  unfold X9 at z
  rw [List.getElem?_eq_getElem hi,Option.bind_some,e] at z
  obtain ⟨b,hb⟩:=Option.isSome_iff_exists.mp (h y hy)
  rw [hb] at z ⊢
  simpa using z
 ·intro q i hi
  have hi':=List.mem_range.mp hi
  have z:=q _ (List.getElem_mem hi')
  unfold X9
  rw [List.getElem?_eq_getElem hi',Option.bind_some,eq_of_beq z]
  rfl
theorem Vq {P:Program} {w:World} {A:Around} {ys:List V} {its:List Value} (d:Bool) (r:Vals ys its) (h:∀ y ∈ ys,(T9 y).isSome=true):TruthOf P w A (fun i v=>its.toArray[i]?=some v) (X9 ys d):=by
 intro i v s Q E hP hQ
 obtain ⟨y,hy,ry⟩:=sf r (show its[i]?=some v by simpa using hP)
 unfold X9 at hQ
 rw [hy,Option.bind_some] at hQ
 have hs:=h y (List.mem_of_getElem? hy)
 cases y with
 | bl b=>cases ry; exact wpAny_truthy_bool hQ
 | int k=>obtain ⟨t,rfl⟩:=ry; exact PySem.P.truthy_int hQ
 | non=>cases ry; exact truthy_none hQ
 | _=>cases hs
section
variable {X:Cx}
theorem Y4 {s:Shared} {h':Heap} {o:Obj} (hk:∀ b x,b ∉ [s.heap.objs.size]->(s.heap.push o).get? b=some x->h'.get? b=some x):∀ b x,s.heap.get? b=some x->h'.get? b=some x :=
 fun b x e=>hk b x (by simpa using Nat.ne_of_lt (Heap.lt_size e)) (Heap.get?_push_of_some _ e)
noncomputable def rAll (K:W.Frag) (f:List V->Bool):List V->Hp->VK->Prop:=fun xs H Q=>∃ p ys,xs=[.ref p] /\ (SqL K H p ys \/ SqT K H p ys) /\ (∀ y ∈ ys,(T9 y).isSome=true) /\ Q (.bl (f ys)) H
theorem X0 (hc:X.calm=true):uv X (.builtin "all") (rAll X.K fun ys=>ys.all fun y=>T9 y == some true):=by
 intro pn s σ H xs us Q I r h
 obtain ⟨p,ys,rfl,hq,ht,q⟩:=h
 obtain ⟨u,rfl,rx⟩:=Z1 r
 cases rx
 rcases hq with hq | hq
 ·obtain ⟨its,rv,pl,hz⟩:=I.list hq
  have hlt:p < s.heap.objs.size:=by obtain ⟨_,e,_⟩:=pl.isList; exact Heap.lt_size e
  refine call_all_walk (wpAny_pyIter_list pl.isList ⟨s.heap.objs.size,[s.heap.objs.size,p],[s.heap.objs.size],its.toArray.size,_,_,X9 ys true,rfl,Walks.list (A:=X.A.in1) (I.ok.hd hc) _ p (Nat.ne_of_lt hlt) its.toArray,
   ⟨⟨_,Heap.get?_push_size _ rfl,rfl,rfl⟩,pl.isList.push _⟩,Vq true rv ht,fun h' tk hk=>?_⟩)
  rw [List.size_toArray,<- rv.length,X6 ys ht]
  exact ⟨.bl _,H,I.kept (Y4 hk),rfl,q⟩
 ·obtain ⟨its,rv,pl,hz⟩:=I.tuple hq
  have hlt:p < s.heap.objs.size:=by obtain ⟨_,e,_⟩:=pl; exact Heap.lt_size e
  have pl':s.heap.IsTuple p its.toArray:=pl
  refine call_all_walk (wpAny_pyIter_tuple pl' ⟨s.heap.objs.size,[s.heap.objs.size,p],[s.heap.objs.size],its.toArray.size,_,_,X9 ys true,rfl,Walks.tuple (A:=X.A.in1) (I.ok.hd hc) _ p (Nat.ne_of_lt hlt) its.toArray,
   ⟨⟨_,Heap.get?_push_size _ rfl,rfl,rfl⟩,pl'.at fun o e=>Heap.get?_push_of_some _ e⟩,Vq true rv ht,fun h' tk hk=>?_⟩)
  rw [List.size_toArray,<- rv.length,X6 ys ht]
  exact ⟨.bl _,H,I.kept (Y4 hk),rfl,q⟩
end
end L3
local macro_rules | `(tactic| walk_at "o")=>`(tactic| first | exact Or.inl rfl | exact Or.inr rfl)
namespace DL
open PySem PySem.Spec L2 L3
open PyProof.Rows hiding St
inductive Cst where
 | int (i:Int) | str (x:Str) | tup (cs:List Cst)
mutual
noncomputable def CRep (K:W.Frag):Cst->V->Prop
 | .int i,v=>v=.int i
 | .str x,v=>v=.str x
 | .tup cs,v=>∃ (a:Addr) (o:Obj) (its:Array Value) (n:Nat) (xs:List V),v=.ref a /\ K.lookup a=some o /\ o.cls=.type "tuple" /\ o.data=.seq its n /\ its.size <= sizeLine /\ Vals xs its.toList /\ Dq K cs xs
noncomputable def Dq (K:W.Frag):List Cst->List V->Prop
 | [],xs=>xs=[]
 | c :: cs,xs=>∃ v r,xs=v :: r /\ CRep K c v /\ Dq K cs r
end
inductive D where
 | non | bl (b:Bool) | int (i:Int) | str (x:Str) | ty (n:String)
 | tup (ds:List D) | lst (ds:List D) | dk (ks:List Key) (ds:List D) | dt (ks:List (List Key)) (ds:List D)
  | scr (ns:List Int)
  | exc (C:Addr)
  | fd (m:Int)
  | dz (rs:List (List Int × Int))
 | cn (c:Cst)
  | ob (C:Addr) (ns:List Str) (ds:List D)
noncomputable def Scr (K:W.Frag) (H:Hp) (a:Addr) (ns:List Int):Prop :=
 (∃ o,H a=some (.frz o (.lst (ns.map V.int)))) \/
  ∃ (o:Obj) (its:Array Value) (n:Nat),K.lookup a=some o /\ o.cls=.type "list" /\ o.dict=none /\ o.data=.seq its n /\ its.size <= sizeLine /\ Vals (ns.map V.int) its.toList
theorem Scr.seq {K:W.Frag} {H:Hp} {a:Addr} {ns:List Int} (h:Scr K H a ns):SqL K H a (ns.map V.int):=by
 rcases h with ⟨o,h⟩ | h
 ·exact .inl (.inr ⟨o,h⟩)
 ·exact .inr h
noncomputable def dzV (rs:List (List Int × Int)):List (List Key × V):=rs.map fun p=>(p.1.map Sum.inl,V.int p.2)
noncomputable def Dz (H:Hp) (a:Addr) (rs:List (List Int × Int)):Prop:=(∃ o,H a=some (.frz o (.dT (dzV rs)))) /\ (rs.map Prod.fst).Nodup
noncomputable def SqR (K:W.Frag) (H:Hp) (a:Addr) (xs:List V):Prop:=SqT K H a xs /\ H a=some (.tup xs)
noncomputable def ExcO (a C:Addr):HO:=.ext fun h=>∃ o,h.get? a=some o /\ o.cls=.ref C /\ W.notCls o=true
noncomputable def Dp (a:Addr) (m:Int):HO:=.ext fun h=>∃ (its:Array Value) (n:Nat),h.get? a=some { cls:=.type "list", dict:=none,data:=.seq its n,slots:=#[] } /\ its.size <= 1000 /\ (m <= 0->1 <= its.size) /\ ∀ v ∈ its,∃ (i:Int) (t:Tok),v=.int i t /\ (0 < m->0 <= i /\ i < m)
mutual
noncomputable def Rep (K:W.Frag) (H:Hp) (O:List Addr):D->V->Prop
 | .non,v=>v=.non
 | .bl b,v=>v=.bl b
 | .int i,v=>v=.int i
 | .str x,v=>v=.str x
 | .ty n,v=>v=.ty n
 | .cn c,v=>CRep K c v
 | .tup ds,v=>∃ a xs,v=.ref a /\ SqR K H a xs /\ Reps K H O ds xs
 | .lst ds,v=>∃ a xs,v=.ref a /\ H a=some (.lst xs) /\ a ∉ O /\ Reps K H O ds xs
 | .scr ns,v=>∃ a,v=.ref a /\ Scr K H a ns
 | .dz rs,v=>∃ a,v=.ref a /\ Dz H a rs
 | .exc C,v=>∃ a,v=.ref a /\ H a=some (ExcO a C) /\ a ∉ O
 | .fd m,v=>∃ a,v=.ref a /\ H a=some (Dp a m) /\ a ∉ O
 | .dk ks ds,v=>∃ a xs,v=.ref a /\ H a=some (.dK (ks.zip xs)) /\ a ∉ O /\ ks.length=ds.length /\ ks.Nodup /\ Reps K H O ds xs
 | .dt ks ds,v=>∃ a xs,v=.ref a /\ H a=some (.dT (ks.zip xs)) /\ a ∉ O /\ ks.length=ds.length /\ ks.Nodup /\ Reps K H O ds xs
 | .ob C ns ds,v=>∃ a dx xs,v=.ref a /\ H a=some (.ins C dx (ns.zip xs)) /\ a ∉ O /\ ns.length=ds.length /\ ns.Nodup /\ Reps K H O ds xs
noncomputable def Reps (K:W.Frag) (H:Hp) (O:List Addr):List D->List V->Prop
 | [],xs=>xs=[]
 | d :: ds,xs=>∃ v r,xs=v :: r /\ Rep K H O d v /\ Reps K H O ds r
end
structure Grow (O O':List Addr) (H H':Hp):Prop where
 keep:∀ b u,H b=some u->b ∉ O->H' b=some u /\ b ∉ O'
 tups:∀ b xs,H b=some (.tup xs)->H' b=some (.tup xs)
 frzs:∀ b o u,H b=some (.frz o u)->H' b=some (.frz o u)
theorem Grow.same {O:List Addr} {H H':Hp} (s:Same H H'):Grow O O H H':=⟨fun b u h n=>⟨s b u h,n⟩,fun b xs h=>s b _ h,fun b o u h=>s b _ h⟩
theorem Grow.refl {O:List Addr} {H:Hp}:Grow O O H H:=Grow.same (Same.refl H)
theorem Grow.trans {O O' O'':List Addr} {H H' H'':Hp} (a:Grow O O' H H') (b:Grow O' O'' H' H''):Grow O O'' H H'' :=
 ⟨fun c u h n=>let ⟨h',n'⟩:=a.keep c u h n; b.keep c u h' n',fun c xs h=>b.tups c xs (a.tups c xs h),fun c o u h=>b.frzs c o u (a.frzs c o u h)⟩
theorem d9 {K:W.Frag} {O O':List Addr} {H H':Hp} {a:Addr} {xs:List V} (g:Grow O O' H H') (h:SqT K H a xs):SqT K H' a xs:=by
 rcases h with (h | ⟨o,h⟩) | h
 ·exact .inl (.inl (g.tups _ _ h))
 ·exact .inl (.inr ⟨o,g.frzs _ _ _ h⟩)
 ·exact .inr h
theorem Vw {K:W.Frag} {O O':List Addr} {H H':Hp} {a:Addr} {xs:List V} (g:Grow O O' H H') (h:SqR K H a xs):SqR K H' a xs:=⟨d9 g h.1,g.tups _ _ h.2⟩
theorem qj {K:W.Frag} {O O':List Addr} {H H':Hp} {a:Addr} {ns:List Int} (g:Grow O O' H H') (h:Scr K H a ns):Scr K H' a ns:=by
 rcases h with ⟨o,h⟩ | h
 ·exact .inl ⟨o,g.frzs _ _ _ h⟩
 ·exact .inr h
theorem Pm {O O':List Addr} {H H':Hp} {a:Addr} {rs:List (List Int × Int)} (g:Grow O O' H H') (h:Dz H a rs):Dz H' a rs:=⟨let ⟨o,q⟩:=h.1; ⟨o,g.frzs _ _ _ q⟩,h.2⟩
mutual
theorem Rep.grow {K:W.Frag} {O O':List Addr} {H H':Hp} (g:Grow O O' H H'):∀ (d:D) (v:V),Rep K H O d v->Rep K H' O' d v
 | .non,_,h=>h
 | .bl _,_,h=>h
 | .int _,_,h=>h
 | .str _,_,h=>h
 | .ty _,_,h=>h
 | .cn _,_,h=>h
 | .tup ds,v,h=>by
  obtain ⟨a,xs,e,q,r⟩:=h
  exact ⟨a,xs,e,Vw g q,Reps.grow g ds xs r⟩
 | .lst ds,v,h=>by
  obtain ⟨a,xs,e,q,n,r⟩:=h
  exact ⟨a,xs,e,(g.keep _ _ q n).1,(g.keep _ _ q n).2,Reps.grow g ds xs r⟩
 | .scr ns,v,h=>by
  obtain ⟨a,e,q⟩:=h
  exact ⟨a,e,qj g q⟩
 | .dz rs,v,h=>by
  obtain ⟨a,e,q⟩:=h
  exact ⟨a,e,Pm g q⟩
 | .exc C,v,h=>by
  obtain ⟨a,e,q,n⟩:=h
  exact ⟨a,e,(g.keep _ _ q n).1,(g.keep _ _ q n).2⟩
 | .fd m,v,h=>by
  obtain ⟨a,e,q,n⟩:=h
  exact ⟨a,e,(g.keep _ _ q n).1,(g.keep _ _ q n).2⟩
 | .dk ks ds,v,h=>by
  obtain ⟨a,xs,e,q,n,l,nd,r⟩:=h
  exact ⟨a,xs,e,(g.keep _ _ q n).1,(g.keep _ _ q n).2,l,nd,Reps.grow g ds xs r⟩
 | .dt ks ds,v,h=>by
  obtain ⟨a,xs,e,q,n,l,nd,r⟩:=h
  exact ⟨a,xs,e,(g.keep _ _ q n).1,(g.keep _ _ q n).2,l,nd,Reps.grow g ds xs r⟩
 | .ob C ns ds,v,h=>by
  obtain ⟨a,dx,xs,e,q,n,l,nd,r⟩:=h
  exact ⟨a,dx,xs,e,(g.keep _ _ q n).1,(g.keep _ _ q n).2,l,nd,Reps.grow g ds xs r⟩
theorem Reps.grow {K:W.Frag} {O O':List Addr} {H H':Hp} (g:Grow O O' H H'):∀ (ds:List D) (xs:List V),Reps K H O ds xs->Reps K H' O' ds xs
 | [],_,h=>h
 | d :: ds,xs,h=>by
  obtain ⟨v,r,e,q,t⟩:=h
  exact ⟨v,r,e,Rep.grow g d v q,Reps.grow g ds r t⟩
end
mutual
theorem Rep.sub {K:W.Frag} {O O':List Addr} {H:Hp} (g:∀ a ∈ O',a ∈ O):∀ (d:D) (v:V),Rep K H O d v->Rep K H O' d v
 | .non,_,h=>h
 | .bl _,_,h=>h
 | .int _,_,h=>h
 | .str _,_,h=>h
 | .ty _,_,h=>h
 | .cn _,_,h=>h
 | .tup ds,v,h=>by
  obtain ⟨a,xs,e,q,r⟩:=h
  exact ⟨a,xs,e,q,Reps.sub g ds xs r⟩
 | .lst ds,v,h=>by
  obtain ⟨a,xs,e,q,n,r⟩:=h
  exact ⟨a,xs,e,q,fun z=>n (g a z),Reps.sub g ds xs r⟩
 | .scr _,_,h=>h
 | .dz _,_,h=>h
 | .exc _,_,h=>by
  obtain ⟨a,e,q,n⟩:=h
  exact ⟨a,e,q,fun z=>n (g a z)⟩
 | .fd _,_,h=>by
  obtain ⟨a,e,q,n⟩:=h
  exact ⟨a,e,q,fun z=>n (g a z)⟩
 | .dk ks ds,v,h=>by
  obtain ⟨a,xs,e,q,n,l,nd,r⟩:=h
  exact ⟨a,xs,e,q,fun z=>n (g a z),l,nd,Reps.sub g ds xs r⟩
 | .dt ks ds,v,h=>by
  obtain ⟨a,xs,e,q,n,l,nd,r⟩:=h
  exact ⟨a,xs,e,q,fun z=>n (g a z),l,nd,Reps.sub g ds xs r⟩
 | .ob C ns ds,v,h=>by
  obtain ⟨a,dx,xs,e,q,n,l,nd,r⟩:=h
  exact ⟨a,dx,xs,e,q,fun z=>n (g a z),l,nd,Reps.sub g ds xs r⟩
theorem Reps.sub {K:W.Frag} {O O':List Addr} {H:Hp} (g:∀ a ∈ O',a ∈ O):∀ (ds:List D) (xs:List V),Reps K H O ds xs->Reps K H O' ds xs
 | [],_,h=>h
 | d :: ds,xs,h=>by
  obtain ⟨v,r,e,q,t⟩:=h
  exact ⟨v,r,e,Rep.sub g d v q,Reps.sub g ds r t⟩
end
mutual
noncomputable def zh:D->Prop
 | .tup ds=>zu ds
 | .lst _=>False
 | .dk _ _=>False
 | .dt _ _=>False
 | .ob _ _ _=>False
 | .scr _=>True
 | .dz _=>True
 | .exc _=>False
 | .fd _=>False
 | .non=>True
 | .bl _=>True
 | .int _=>True
 | .str _=>True
 | .ty _=>True
 | .cn _=>True
noncomputable def zu:List D->Prop
 | []=>True
 | d :: ds=>zh d /\ zu ds
end
theorem yw:∀ {ds:List D},zu ds ↔ ∀ d ∈ ds,zh d
 | []=>by simp [zu]
 | d :: ds=>by
  rw [zu,yw]
  simp
mutual
theorem Rep.pure {K:W.Frag} {O O':List Addr} {H:Hp}:∀ (d:D) (v:V),zh d->Rep K H O d v->Rep K H O' d v
 | .non,_,_,h=>h
 | .bl _,_,_,h=>h
 | .int _,_,_,h=>h
 | .str _,_,_,h=>h
 | .ty _,_,_,h=>h
 | .cn _,_,_,h=>h
 | .tup ds,v,p,h=>by
  obtain ⟨a,xs,e,q,r⟩:=h
  exact ⟨a,xs,e,q,Reps.pure ds xs p r⟩
 | .scr _,_,_,h=>h
 | .dz _,_,_,h=>h
 | .exc _,_,p,_=>p.elim
 | .fd _,_,p,_=>p.elim
 | .lst ds,v,p,h=>p.elim
 | .dk ks ds,v,p,h=>p.elim
 | .dt ks ds,v,p,h=>p.elim
 | .ob C ns ds,v,p,h=>p.elim
theorem Reps.pure {K:W.Frag} {O O':List Addr} {H:Hp}:∀ (ds:List D) (xs:List V),zu ds->Reps K H O ds xs->Reps K H O' ds xs
 | [],_,_,h=>h
 | d :: ds,xs,p,h=>by
  obtain ⟨v,r,e,q,t⟩:=h
  exact ⟨v,r,e,Rep.pure d v p.1 q,Reps.pure ds r p.2 t⟩
end
mutual
noncomputable def RepN (K:W.Frag) (H:Hp) (P:Addr->Prop):D->V->Prop
 | .non,v=>v=.non
 | .bl b,v=>v=.bl b
 | .int i,v=>v=.int i
 | .str x,v=>v=.str x
 | .ty n,v=>v=.ty n
 | .cn c,v=>CRep K c v
 | .tup ds,v=>∃ a xs,v=.ref a /\ SqR K H a xs /\ x9 K H P ds xs
 | .lst ds,v=>∃ a xs,v=.ref a /\ H a=some (.lst xs) /\ P a /\ x9 K H P ds xs
 | .scr ns,v=>∃ a,v=.ref a /\ Scr K H a ns
 | .dz rs,v=>∃ a,v=.ref a /\ Dz H a rs
 | .exc C,v=>∃ a,v=.ref a /\ H a=some (ExcO a C) /\ P a
 | .fd m,v=>∃ a,v=.ref a /\ H a=some (Dp a m) /\ P a
 | .dk ks ds,v=>∃ a xs,v=.ref a /\ H a=some (.dK (ks.zip xs)) /\ P a /\ ks.length=ds.length /\ ks.Nodup /\ x9 K H P ds xs
 | .dt ks ds,v=>∃ a xs,v=.ref a /\ H a=some (.dT (ks.zip xs)) /\ P a /\ ks.length=ds.length /\ ks.Nodup /\ x9 K H P ds xs
 | .ob C ns ds,v=>∃ a dx xs,v=.ref a /\ H a=some (.ins C dx (ns.zip xs)) /\ P a /\ ns.length=ds.length /\ ns.Nodup /\ x9 K H P ds xs
noncomputable def x9 (K:W.Frag) (H:Hp) (P:Addr->Prop):List D->List V->Prop
 | [],xs=>xs=[]
 | d :: ds,xs=>∃ v r,xs=v :: r /\ RepN K H P d v /\ x9 K H P ds r
end
mutual
theorem RepN.to {K:W.Frag} {P P':Addr->Prop} {H H':Hp} (s:Same H H') (g:∀ a,P a->P' a):∀ (d:D) (v:V),RepN K H P d v->RepN K H' P' d v
 | .non,_,h=>h
 | .bl _,_,h=>h
 | .int _,_,h=>h
 | .str _,_,h=>h
 | .ty _,_,h=>h
 | .cn _,_,h=>h
 | .tup ds,v,h=>by
  obtain ⟨a,xs,e,q,r⟩:=h
  exact ⟨a,xs,e,Vw (Grow.same (O:=[]) s) q,x9.to s g ds xs r⟩
 | .lst ds,v,h=>by
  obtain ⟨a,xs,e,q,n,r⟩:=h
  exact ⟨a,xs,e,s _ _ q,g a n,x9.to s g ds xs r⟩
 | .scr ns,v,h=>by
  obtain ⟨a,e,q⟩:=h
  exact ⟨a,e,qj (Grow.same (O:=[]) s) q⟩
 | .dz rs,v,h=>by
  obtain ⟨a,e,q⟩:=h
  exact ⟨a,e,Pm (Grow.same (O:=[]) s) q⟩
 | .exc C,v,h=>by
  obtain ⟨a,e,q,n⟩:=h
  exact ⟨a,e,s _ _ q,g a n⟩
 | .fd m,v,h=>by
  obtain ⟨a,e,q,n⟩:=h
  exact ⟨a,e,s _ _ q,g a n⟩
 | .dk ks ds,v,h=>by
  obtain ⟨a,xs,e,q,n,l,nd,r⟩:=h
  exact ⟨a,xs,e,s _ _ q,g a n,l,nd,x9.to s g ds xs r⟩
 | .dt ks ds,v,h=>by
  obtain ⟨a,xs,e,q,n,l,nd,r⟩:=h
  exact ⟨a,xs,e,s _ _ q,g a n,l,nd,x9.to s g ds xs r⟩
 | .ob C ns ds,v,h=>by
  obtain ⟨a,dx,xs,e,q,n,l,nd,r⟩:=h
  exact ⟨a,dx,xs,e,s _ _ q,g a n,l,nd,x9.to s g ds xs r⟩
theorem x9.to {K:W.Frag} {P P':Addr->Prop} {H H':Hp} (s:Same H H') (g:∀ a,P a->P' a):∀ (ds:List D) (xs:List V),x9 K H P ds xs->x9 K H' P' ds xs
 | [],_,h=>h
 | d :: ds,xs,h=>by
  obtain ⟨v,r,e,q,t⟩:=h
  exact ⟨v,r,e,RepN.to s g d v q,x9.to s g ds r t⟩
end
mutual
theorem RepN.rep {K:W.Frag} {P:Addr->Prop} {H:Hp} {O:List Addr} (g:∀ a,P a->a ∉ O):∀ (d:D) (v:V),RepN K H P d v->Rep K H O d v
 | .non,_,h=>h
 | .bl _,_,h=>h
 | .int _,_,h=>h
 | .str _,_,h=>h
 | .ty _,_,h=>h
 | .cn _,_,h=>h
 | .tup ds,v,h=>by
  obtain ⟨a,xs,e,q,r⟩:=h
  exact ⟨a,xs,e,q,x9.reps g ds xs r⟩
 | .lst ds,v,h=>by
  obtain ⟨a,xs,e,q,n,r⟩:=h
  exact ⟨a,xs,e,q,g a n,x9.reps g ds xs r⟩
 | .scr _,_,h=>h
 | .dz _,_,h=>h
 | .exc C,v,h=>by
  obtain ⟨a,e,q,n⟩:=h
  exact ⟨a,e,q,g a n⟩
 | .fd m,v,h=>by
  obtain ⟨a,e,q,n⟩:=h
  exact ⟨a,e,q,g a n⟩
 | .dk ks ds,v,h=>by
  obtain ⟨a,xs,e,q,n,l,nd,r⟩:=h
  exact ⟨a,xs,e,q,g a n,l,nd,x9.reps g ds xs r⟩
 | .dt ks ds,v,h=>by
  obtain ⟨a,xs,e,q,n,l,nd,r⟩:=h
  exact ⟨a,xs,e,q,g a n,l,nd,x9.reps g ds xs r⟩
 | .ob C ns ds,v,h=>by
  obtain ⟨a,dx,xs,e,q,n,l,nd,r⟩:=h
  exact ⟨a,dx,xs,e,q,g a n,l,nd,x9.reps g ds xs r⟩
theorem x9.reps {K:W.Frag} {P:Addr->Prop} {H:Hp} {O:List Addr} (g:∀ a,P a->a ∉ O):∀ (ds:List D) (xs:List V),x9 K H P ds xs->Reps K H O ds xs
 | [],_,h=>h
 | d :: ds,xs,h=>by
  obtain ⟨v,r,e,q,t⟩:=h
  exact ⟨v,r,e,RepN.rep g d v q,x9.reps g ds r t⟩
end
mutual
theorem Rep.toN {K:W.Frag} {P:Addr->Prop} {O:List Addr} {H:Hp}:∀ (d:D) (v:V),zh d->Rep K H O d v->RepN K H P d v
 | .non,_,_,h=>h
 | .bl _,_,_,h=>h
 | .int _,_,_,h=>h
 | .str _,_,_,h=>h
 | .ty _,_,_,h=>h
 | .cn _,_,_,h=>h
 | .tup ds,v,p,h=>by
  obtain ⟨a,xs,e,q,r⟩:=h
  exact ⟨a,xs,e,q,Reps.toN ds xs p r⟩
 | .scr _,_,_,h=>h
 | .dz _,_,_,h=>h
 | .exc _,_,p,_=>p.elim
 | .fd _,_,p,_=>p.elim
 | .lst ds,v,p,h=>p.elim
 | .dk ks ds,v,p,h=>p.elim
 | .dt ks ds,v,p,h=>p.elim
 | .ob C ns ds,v,p,h=>p.elim
theorem Reps.toN {K:W.Frag} {P:Addr->Prop} {O:List Addr} {H:Hp}:∀ (ds:List D) (xs:List V),zu ds->Reps K H O ds xs->x9 K H P ds xs
 | [],_,_,h=>h
 | d :: ds,xs,p,h=>by
  obtain ⟨v,r,e,q,t⟩:=h
  exact ⟨v,r,e,Rep.toN d v p.1 q,Reps.toN ds r p.2 t⟩
end
theorem x9.append {K:W.Frag} {P:Addr->Prop} {H:Hp}:∀ {ds es:List D} {xs ys:List V},x9 K H P ds xs->x9 K H P es ys->x9 K H P (ds ++ es) (xs ++ ys)
 | [],es,xs,ys,h,h'=>by cases h; exact h'
 | d :: ds,es,xs,ys,h,h'=>by
  obtain ⟨v,r,rfl,q,t⟩:=h
  exact ⟨v,r ++ ys,rfl,q,x9.append t h'⟩
theorem x9.length {K:W.Frag} {P:Addr->Prop} {H:Hp} {ds:List D} {xs:List V} (h:x9 K H P ds xs):xs.length=ds.length:=by
 induction ds generalizing xs with
 | nil=>cases (show xs=[] from h); rfl
 | cons d ds ih =>
  obtain ⟨v,r,rfl,_,t⟩:=h
  simp [ih t]
section
variable {K:W.Frag} {H:Hp} {O:List Addr}
theorem Reps.length:∀ {ds:List D} {xs:List V},Reps K H O ds xs->xs.length=ds.length
 | [],_,h=>by cases h; rfl
 | d :: ds,xs,h=>by
  obtain ⟨v,r,e,_,t⟩:=h
  subst e
  simp [Reps.length t]
theorem Reps.get:∀ {ds:List D} {xs:List V} {i:Nat} {d:D},Reps K H O ds xs->ds[i]?=some d->∃ v,xs[i]?=some v /\ Rep K H O d v
 | [],_,_,_,_,e=>by simp at e
 | d :: ds,xs,0,d',h,e=>by
  obtain ⟨v,r,rfl,q,_⟩:=h
  simp at e
  subst e
  exact ⟨v,rfl,q⟩
 | d :: ds,xs,i + 1,d',h,e=>by
  obtain ⟨v,r,rfl,_,t⟩:=h
  obtain ⟨v',e',q'⟩:=Reps.get (i:=i) t (by simpa using e)
  exact ⟨v',by simpa using e',q'⟩
theorem Reps.append:∀ {ds es:List D} {xs ys:List V},Reps K H O ds xs->Reps K H O es ys->Reps K H O (ds ++ es) (xs ++ ys)
 | [],es,xs,ys,h,h'=>by cases h; exact h'
 | d :: ds,es,xs,ys,h,h'=>by
  obtain ⟨v,r,rfl,q,t⟩:=h
  exact ⟨v,r ++ ys,rfl,q,Reps.append t h'⟩
theorem Reps.one {d:D} {v:V} (h:Rep K H O d v):Reps K H O [d] [v]:=⟨v,[],rfl,h,rfl⟩
theorem Reps.take:∀ {ds:List D} {xs:List V} (n:Nat),Reps K H O ds xs->Reps K H O (ds.take n) (xs.take n)
 | _,_,0,_=>rfl
 | [],_,n + 1,h=>by cases h; rfl
 | d :: ds,xs,n + 1,h=>by
  obtain ⟨v,r,rfl,q,t⟩:=h
  exact ⟨v,r.take n,rfl,q,Reps.take n t⟩
theorem Reps.drop:∀ {ds:List D} {xs:List V} (n:Nat),Reps K H O ds xs->Reps K H O (ds.drop n) (xs.drop n)
 | _,_,0,h=>h
 | [],_,n + 1,h=>by cases h; rfl
 | d :: ds,xs,n + 1,h=>by
  obtain ⟨v,r,rfl,q,t⟩:=h
  exact Reps.drop n t
theorem Reps.set:∀ {ds:List D} {xs:List V} (n:Nat) {d:D} {v:V},Rep K H O d v->Reps K H O ds xs->Reps K H O (ds.set n d) (xs.set n v)
 | [],_,_,_,_,_,h=>by cases h; rfl
 | d :: ds,xs,0,d',v',q',h=>by
  obtain ⟨v,r,rfl,q,t⟩:=h
  exact ⟨v',r,rfl,q',t⟩
 | d :: ds,xs,n + 1,d',v',q',h=>by
  obtain ⟨v,r,rfl,q,t⟩:=h
  exact ⟨v,r.set n v',rfl,q,Reps.set n q' t⟩
theorem Reps.ints:∀ (ns:List Int),Reps K H O (ns.map D.int) (ns.map V.int)
 | []=>rfl
 | n :: ns=>⟨_,_,rfl,rfl,Reps.ints ns⟩
theorem Reps.dropLast {ds:List D} {xs:List V} (h:Reps K H O ds xs):Reps K H O ds.dropLast xs.dropLast:=by
 rw [List.dropLast_eq_take,List.dropLast_eq_take,h.length]
 exact h.take _
theorem Reps.rep {ds:List D} {xs:List V} (h:Reps K H O ds xs):∀ k:Nat,Reps K H O (List.replicate k ds).flatten (List.replicate k xs).flatten
 | 0=>rfl
 | k + 1=>by
  rw [List.replicate_succ,List.replicate_succ,List.flatten_cons,List.flatten_cons]
  exact h.append (Reps.rep h k)
end
noncomputable def View (K:W.Frag) (H:Hp) (O:List Addr) (d:D) (v:V):Prop:=match d with
 | .lst ds=>∃ a xs,v=.ref a /\ H a=some (.lst xs) /\ Reps K H O ds xs
 | .dk ks ds=>∃ a xs,v=.ref a /\ H a=some (.dK (ks.zip xs)) /\ ks.length=ds.length /\ ks.Nodup /\ Reps K H O ds xs
 | .dt ks ds=>∃ a xs,v=.ref a /\ H a=some (.dT (ks.zip xs)) /\ ks.length=ds.length /\ ks.Nodup /\ Reps K H O ds xs
 | d=>Rep K H O d v
noncomputable def Con (K:W.Frag) (H:Hp) (O:List Addr) (d:D) (a:Addr):Prop:=match d with
 | .lst ds=>∃ xs,H a=some (.lst xs) /\ Reps K H O ds xs
 | .dk ks ds=>∃ xs,H a=some (.dK (ks.zip xs)) /\ ks.length=ds.length /\ ks.Nodup /\ Reps K H O ds xs
 | .dt ks ds=>∃ xs,H a=some (.dT (ks.zip xs)) /\ ks.length=ds.length /\ ks.Nodup /\ Reps K H O ds xs
 | _=>False
theorem Rep.view {K:W.Frag} {H:Hp} {O:List Addr} {d:D} {v:V} (h:Rep K H O d v):View K H O d v:=by
 cases d with
 | lst ds=>obtain ⟨a,xs,e,q,_,r⟩:=h; exact ⟨a,xs,e,q,r⟩
 | dk ks ds=>obtain ⟨a,xs,e,q,_,r⟩:=h; exact ⟨a,xs,e,q,r⟩
 | dt ks ds=>obtain ⟨a,xs,e,q,_,r⟩:=h; exact ⟨a,xs,e,q,r⟩
 | _=>exact h
theorem Con.view {K:W.Frag} {H:Hp} {O:List Addr} {d:D} {a:Addr} (h:Con K H O d a):View K H O d (.ref a):=by
 cases d with
 | lst ds=>obtain ⟨xs,q,r⟩:=h; exact ⟨a,xs,rfl,q,r⟩
 | dk ks ds=>obtain ⟨xs,q,r⟩:=h; exact ⟨a,xs,rfl,q,r⟩
 | dt ks ds=>obtain ⟨xs,q,r⟩:=h; exact ⟨a,xs,rfl,q,r⟩
 | _=>exact h.elim
theorem Con.rep {K:W.Frag} {H:Hp} {O:List Addr} {d:D} {a:Addr} (h:Con K H O d a) (n:a ∉ O):Rep K H O d (.ref a):=by
 cases d with
 | lst ds=>obtain ⟨xs,q,r⟩:=h; exact ⟨a,xs,rfl,q,n,r⟩
 | dk ks ds=>obtain ⟨xs,q,r⟩:=h; exact ⟨a,xs,rfl,q,n,r⟩
 | dt ks ds=>obtain ⟨xs,q,r⟩:=h; exact ⟨a,xs,rfl,q,n,r⟩
 | _=>exact h.elim
theorem Con.same {K:W.Frag} {H H':Hp} {O:List Addr} {d:D} {a:Addr} (h:Con K H O d a) (s:Same H H'):Con K H' O d a:=by
 cases d with
 | lst ds=>obtain ⟨xs,q,r⟩:=h; exact ⟨xs,s _ _ q,Reps.grow (Grow.same s) _ _ r⟩
 | dk ks ds=>obtain ⟨xs,q,l,n,r⟩:=h; exact ⟨xs,s _ _ q,l,n,Reps.grow (Grow.same s) _ _ r⟩
 | dt ks ds=>obtain ⟨xs,q,l,n,r⟩:=h; exact ⟨xs,s _ _ q,l,n,Reps.grow (Grow.same s) _ _ r⟩
 | _=>exact h.elim
theorem Con.sub {K:W.Frag} {H:Hp} {O O':List Addr} {d:D} {a:Addr} (h:Con K H O d a) (g:∀ a ∈ O',a ∈ O):Con K H O' d a:=by
 cases d with
 | lst ds=>obtain ⟨xs,q,r⟩:=h; exact ⟨xs,q,Reps.sub g _ _ r⟩
 | dk ks ds=>obtain ⟨xs,q,l,n,r⟩:=h; exact ⟨xs,q,l,n,Reps.sub g _ _ r⟩
 | dt ks ds=>obtain ⟨xs,q,l,n,r⟩:=h; exact ⟨xs,q,l,n,Reps.sub g _ _ r⟩
 | _=>exact h.elim
theorem View.sub {K:W.Frag} {H:Hp} {O O':List Addr} {d:D} {v:V} (h:View K H O d v) (g:∀ a ∈ O',a ∈ O):View K H O' d v:=by
 cases d with
 | lst ds=>obtain ⟨a,xs,e,q,r⟩:=h; exact ⟨a,xs,e,q,Reps.sub g _ _ r⟩
 | dk ks ds=>obtain ⟨a,xs,e,q,l,n,r⟩:=h; exact ⟨a,xs,e,q,l,n,Reps.sub g _ _ r⟩
 | dt ks ds=>obtain ⟨a,xs,e,q,l,n,r⟩:=h; exact ⟨a,xs,e,q,l,n,Reps.sub g _ _ r⟩
 | _=>exact Rep.sub g _ _ h
theorem View.rep0 {K:W.Frag} {H:Hp} {O:List Addr} {d:D} {v:V} (h:View K H O d v):Rep K H [] d v:=by
 have h:=h.sub (O':=[]) (fun _ z=>nomatch z)
 cases d with
 | lst ds=>obtain ⟨a,xs,e,q,r⟩:=h; exact ⟨a,xs,e,q,by simp,r⟩
 | dk ks ds=>obtain ⟨a,xs,e,q,l,n,r⟩:=h; exact ⟨a,xs,e,q,by simp,l,n,r⟩
 | dt ks ds=>obtain ⟨a,xs,e,q,l,n,r⟩:=h; exact ⟨a,xs,e,q,by simp,l,n,r⟩
 | _=>exact h
inductive Kd where | val | own | fre | new
 deriving DecidableEq
structure EV where
 k:Kd
 d:D
noncomputable abbrev DE:=List (Option EV)
noncomputable abbrev dv (d:D):EV:=⟨.val,d⟩
noncomputable abbrev df (d:D):EV:=⟨.fre,d⟩
noncomputable abbrev dO (d:D):EV:=⟨.own,d⟩
noncomputable def RV (K:W.Frag) (H0 H:Hp) (O:List Addr) (r:EV) (v:V):Prop:=match r.k with
 | .val=>Rep K H O r.d v
 | .own=>∃ a,v=.ref a /\ a ∈ O /\ Con K H O r.d a
 | .fre=>∃ a,v=.ref a /\ H0 a=none /\ a ∉ O /\ Con K H (a :: O) r.d a
 | .new=>RepN K H (fun a=>a ∉ O /\ H0 a=none) r.d v
section
variable {K:W.Frag} {H0 H1 H H':Hp} {O:List Addr} {r:EV} {v:V}
theorem RV.val {d:D} (h:Rep K H O d v):RV K H0 H O (dv d) v:=h
theorem RV.same (h:RV K H0 H O r v) (s:Same H H'):RV K H0 H' O r v:=by
 obtain ⟨k,d⟩:=r
 cases k with
 | val=>exact Rep.grow (Grow.same s) _ _ h
 | own=>obtain ⟨a,e,m,c⟩:=h; exact ⟨a,e,m,c.same s⟩
 | fre=>obtain ⟨a,e,m,n,c⟩:=h; exact ⟨a,e,m,n,c.same s⟩
 | new=>exact RepN.to s (fun _ z=>z) _ _ h
theorem RV.start (h:RV K H0 H O r v) (s:Same H1 H0):RV K H1 H O r v:=by
 obtain ⟨k,d⟩:=r
 cases k with
 | val=>exact h
 | own=>exact h
 | fre=>obtain ⟨a,e,m,n,c⟩:=h; exact ⟨a,e,s.free m,n,c⟩
 | new=>exact RepN.to (Same.refl H) (fun a z=>⟨z.1,s.free z.2⟩) _ _ h
theorem RV.view (h:RV K H0 H O r v):View K H O r.d v:=by
 obtain ⟨k,d⟩:=r
 cases k with
 | val=>exact Rep.view h
 | own=>obtain ⟨a,e,m,c⟩:=h; subst e; exact c.view
 | fre=>obtain ⟨a,e,m,n,c⟩:=h; subst e; exact (c.sub fun b hb=>List.mem_cons_of_mem _ hb).view
 | new=>exact (RepN.rep (fun a z=>z.1) _ _ h).view
theorem RV.solid (h:RV K H0 H O r v) (hk:r.k ≠ .own):Rep K H O r.d v:=by
 obtain ⟨k,d⟩:=r
 cases k with
 | val=>exact h
 | own=>exact absurd rfl hk
 | fre=>obtain ⟨a,e,m,n,c⟩:=h; subst e; exact (c.sub fun b hb=>List.mem_cons_of_mem _ hb).rep n
 | new=>exact RepN.rep (fun a z=>z.1) _ _ h
end
structure REnv (K:W.Frag) (H₀ H:Hp) (σ:St) (ρ:DE) (o:List (Nat × Addr)):Prop where
 same:Same H₀ H
 fresh:∀ p ∈ o,H₀ p.2=none
 trk:∀ p ∈ o,∃ u,H p.2=some u
 mtb:∀ p ∈ o,(∀ xs,H p.2 ≠ some (.tup xs)) /\ ∀ ob u,H p.2 ≠ some (.frz ob u)
 nda:(o.map Prod.snd).Nodup
 slots:∀ i r,ρ[i]?=some (some r)->∃ v,σ[i]?=some (some v) /\ ((r.k=.val /\ Rep K H (o.map Prod.snd) r.d v) \/ (r.k=.own /\ ∃ a,v=.ref a /\ (i,a) ∈ o /\ Con K H (o.map Prod.snd) r.d a))
 len:σ.length=ρ.length
section
variable {K:W.Frag} {H₀ H H':Hp} {σ:St} {ρ:DE} {o:List (Nat × Addr)}
theorem REnv.to (R:REnv K H₀ H σ ρ o) (s:Same H H'):REnv K H₀ H' σ ρ o where
 same:=R.same.trans s
 fresh:=R.fresh
 trk:=fun p hp=>let ⟨u,e⟩:=R.trk p hp; ⟨u,s _ _ e⟩
 mtb:=fun p hp=>by
  obtain ⟨u,e⟩:=R.trk p hp
  obtain ⟨m1,m2⟩:=R.mtb p hp
  refine ⟨fun xs z=>?_,fun ob w z=>?_⟩
  ·rw [s _ _ e] at z; rw [<- e] at z; exact m1 xs z
  ·rw [s _ _ e] at z; rw [<- e] at z; exact m2 ob w z
 nda:=R.nda
 slots:=fun i r e=>by
  obtain ⟨v,ev,h⟩:=R.slots i r e
  refine ⟨v,ev,?_⟩
  rcases h with ⟨k,h⟩ | ⟨k,a,e1,m,c⟩
  ·exact .inl ⟨k,Rep.grow (Grow.same s) _ _ h⟩
  ·exact .inr ⟨k,a,e1,m,c.same s⟩
 len:=R.len
theorem REnv.ofree (R:REnv K H₀ H σ ρ o) {a:Addr} (h:H a=none):a ∉ o.map Prod.snd:=fun z=>by
 obtain ⟨p,hp,e⟩:=List.mem_map.mp z
 obtain ⟨u,q⟩:=R.trk p hp
 rw [e,h] at q
 cases q
end
noncomputable abbrev TD:=DE->(EV->Prop)->Prop
noncomputable abbrev TDb:=DE->(Bool->Prop)->Prop
noncomputable abbrev TDs:=DE->(List EV->Prop)->Prop
structure DZ where
 nx:DE->Prop
 rt:EV->Prop
 bk:DE->Prop:=fun _=>False
 ct:DE->Prop:=fun _=>False
noncomputable abbrev TDS:=DE->DZ->Prop
noncomputable def RVs (K:W.Frag) (H0 H:Hp) (O:List Addr):List EV->List V->Prop
 | [],vs=>vs=[]
 | r :: rs,vs=>∃ v ws,vs=v :: ws /\ RV K H0 H O r v /\ RVs K H0 H O rs ws
theorem RVs.start {K:W.Frag} {H0 H1 H:Hp} {O:List Addr} (s:Same H1 H0):∀ {rs:List EV} {vs:List V},RVs K H0 H O rs vs->RVs K H1 H O rs vs
 | [],_,h=>h
 | r :: rs,vs,h=>by
  obtain ⟨v,ws,e,q,t⟩:=h
  exact ⟨v,ws,e,q.start s,t.start s⟩
theorem RVs.reps {K:W.Frag} {H0 H:Hp} {O:List Addr}:∀ {rs:List EV} {vs:List V},RVs K H0 H O rs vs->(∀ r ∈ rs,r.k ≠ .own)->Reps K H O (rs.map EV.d) vs
 | [],_,h,_=>h
 | r :: rs,vs,h,n=>by
  obtain ⟨v,ws,e,q,t⟩:=h
  exact ⟨v,ws,e,q.solid (n r (List.mem_cons_self ..)),t.reps fun r' h'=>n r' (List.mem_cons_of_mem _ h')⟩
theorem RVs.reps0 {K:W.Frag} {H0 H:Hp} {O:List Addr}:∀ {rs:List EV} {vs:List V},RVs K H0 H O rs vs->Reps K H [] (rs.map EV.d) vs
 | [],_,h=>h
 | r :: rs,vs,h=>by
  obtain ⟨v,ws,e,q,t⟩:=h
  exact ⟨v,ws,e,q.view.rep0,t.reps0⟩
noncomputable def si (K:W.Frag) (H₀:Hp) (t:TD):TE:=fun σ H Q=>∃ ρ o,REnv K H₀ H σ ρ o /\ ∃ φ,t ρ φ /\ ∀ v r H',Same H H'->RV K H H' (o.map Prod.snd) r v->φ r->Q v H'
noncomputable def Zm (K:W.Frag) (H₀:Hp) (t:TDb):TT:=fun σ H Q=>∃ ρ o,REnv K H₀ H σ ρ o /\ ∃ φ,t ρ φ /\ ∀ b H',Same H H'->φ b->Q b H'
noncomputable def Js (K:W.Frag) (H₀:Hp) (t:TDs):TA:=fun σ H Q=>∃ ρ o,REnv K H₀ H σ ρ o /\ ∃ φ,t ρ φ /\ ∀ vs rs H',Same H H'->RVs K H H' (o.map Prod.snd) rs vs->φ rs->Q vs H'
noncomputable def Ni (K:W.Frag) (H₀:Hp) (t:TDS):TS:=fun D σ H=>∃ ρ o,REnv K H₀ H σ ρ o /\ ∃ Z,t ρ Z /\
 (∀ ρ' σ' H' o',Grow (o.map Prod.snd) (o'.map Prod.snd) H H'->REnv K H₀ H' σ' ρ' o'->Z.nx ρ'->D.nx σ' H') /\
 (∀ ρ' σ' H' o',Grow (o.map Prod.snd) (o'.map Prod.snd) H H'->REnv K H₀ H' σ' ρ' o'->Z.bk ρ'->D.bk σ' H') /\
 (∀ ρ' σ' H' o',Grow (o.map Prod.snd) (o'.map Prod.snd) H H'->REnv K H₀ H' σ' ρ' o'->Z.ct ρ'->D.ct σ' H') /\
 (∀ v r H',Same H₀ H'->RV K H₀ H' [] r v->Z.rt r->D.rt v H')
noncomputable def ED (G:Hp->Prop) (X:Cx) (e:Expr) (t:TD):Prop:=∀ H₀:{H:Hp // G H},PE X e (si X.K H₀.1 t)
noncomputable def ET (G:Hp->Prop) (X:Cx) (e:Expr) (t:TDb):Prop:=∀ H₀:{H:Hp // G H},PT X e (Zm X.K H₀.1 t)
noncomputable def EW (G:Hp->Prop) (X:Cx) (e:Expr) (t:TDb):Prop:=∀ H₀:{H:Hp // G H},PW X e (Zm X.K H₀.1 t)
noncomputable def EA (G:Hp->Prop) (X:Cx) (es:List Expr) (t:TDs):Prop:=∀ H₀:{H:Hp // G H},PA X es (Js X.K H₀.1 t)
noncomputable def SD (G:Hp->Prop) (X:Cx) (st:Stmt) (t:TDS):Prop:=∀ H₀:{H:Hp // G H},PS X st (Ni X.K H₀.1 t)
noncomputable def SDs (G:Hp->Prop) (X:Cx) (st:List Stmt) (t:TDS):Prop:=∀ H₀:{H:Hp // G H},PSs X st (Ni X.K H₀.1 t)
theorem impE {X:Cx} {e:Expr} {t t':TE} (h:PE X e t) (i:∀ σ H Q,t' σ H Q->t σ H Q):PE X e t':=fun pn s σ H Q I q=>h pn s σ H Q I (i σ H Q q)
theorem impT {X:Cx} {e:Expr} {t t':TT} (h:PT X e t) (i:∀ σ H Q,t' σ H Q->t σ H Q):PT X e t':=fun pn s σ H Q I q=>h pn s σ H Q I (i σ H Q q)
theorem impW {X:Cx} {e:Expr} {t t':TT} (h:PW X e t) (i:∀ σ H Q,t' σ H Q->t σ H Q):PW X e t':=fun wh pn s σ H Q I q=>h wh pn s σ H Q I (i σ H Q q)
theorem impA {X:Cx} {es:List Expr} {t t':TA} (h:PA X es t) (i:∀ σ H Q,t' σ H Q->t σ H Q):PA X es t':=fun pos pn s σ H Q I q=>h pos pn s σ H Q I (i σ H Q q)
theorem impS {X:Cx} {st:Stmt} {t t':TS} (h:PS X st t) (i:∀ D σ H,t' D σ H->t D σ H):PS X st t':=fun pn s σ H D I q=>h pn s σ H D I (i D σ H q)
theorem Yj {X:Cx} {st:List Stmt} {t t':TS} (h:PSs X st t) (i:∀ D σ H,t' D σ H->t D σ H):PSs X st t':=fun pn s σ H D I q=>h pn s σ H D I (i D σ H q)
end DL
namespace DL
open PySem PySem.Spec L2 L3
open PyProof.Rows hiding St
variable {Γ:Hp->Prop}
noncomputable def slot:DE->Nat->Option EV
 | [],_=>none
 | x :: _,0=>x
 | _ :: r,i + 1=>slot r i
theorem yn:∀ {ρ:DE} {i:Nat} {r:EV},slot ρ i=some r->ρ[i]?=some (some r)
 | [],_,_,h=>by cases h
 | x :: _,0,_,h=>by cases h; rfl
 | _ :: l,i + 1,r,h=>by rw [List.getElem?_cons_succ]; exact yn (ρ:=l) h
noncomputable def Sr (i:Nat):TD:=fun ρ φ=>match slot ρ i with
 | some r=>φ r
 | none=>False
noncomputable def dC (d:D):TD:=fun _ φ=>φ (dv d)
section
variable {X:Cx} {a b c e:Expr} {ta tb tc te:TD} {pos:Pos}
theorem z0 (i:Nat) {x:Str} (hN:X.N[i]?=some x:=by rfl) (hv:Vis X.env.scope x:=by first | exact Or.inl rfl | exact Or.inr (Or.inl rfl) | exact Or.inr (Or.inr rfl)) (hd:(x == ("__debug__" : Str))=false:=by decide)
  (hcd:(x == ("__classdict__" : Str))=false:=by decide):ED Γ X (.Name x pos) (Sr i):=fun H₀=>impE (wt hN hv hd hcd) fun σ H Q h=>by
 obtain ⟨ρ,o,R,φ,hφ,k⟩:=h
 cases e:slot ρ i with
 | none =>
  simp only [Sr,e] at hφ
 | some r =>
  simp only [Sr,e] at hφ
  obtain ⟨v,ev,h⟩:=R.slots i r (yn e)
  refine ⟨v,ev,k v r H (Same.refl H) ?_ hφ⟩
  obtain ⟨kd,d⟩:=r
  rcases h with ⟨rfl,h⟩ | ⟨rfl,a,e1,m,c⟩
  ·exact h
  ·exact ⟨a,e1,List.mem_map.mpr ⟨_,m,rfl⟩,c⟩
theorem ed_c {x:Expr} {v:V} {d:D} (h:PE X x (tC v)) (hr:∀ H O,Rep X.K H O d v):ED Γ X x (dC d):=fun H₀=>impE h fun σ H Q h=>by
 obtain ⟨ρ,o,R,φ,hφ,k⟩:=h
 exact k v (dv d) H (Same.refl H) (hr H _) hφ
theorem za {i:Int} {j pos}:ED Γ X (.Constant (.int i) j pos) (dC (.int i)):=ed_c E2 fun _ _=>rfl
theorem wy {b:Bool} {j pos}:ED Γ X (.Constant (.bool b) j pos) (dC (.bl b)):=ed_c E3 fun _ _=>rfl
theorem yy {j pos}:ED Γ X (.Constant .none j pos) (dC .non):=ed_c Fy fun _ _=>rfl
theorem zk {x:Str} {j pos}:ED Γ X (.Constant (.str x) j pos) (dC (.str x)):=ed_c Fu fun _ _=>rfl
structure GC (K:W.Frag) (mg:Str->Option Value) (x:Str) (d:D):Prop where
 ex:∃ u v,mg x=some u /\ RelV v u /\ ∀ H O,Rep K H O d v
theorem Pj {x:Str} {d:D} (G:GC X.K X.mg x d) (hg:Gl X x:=by rfl) (hd:(x == ("__debug__" : Str))=false:=by decide):ED Γ X (.Name x pos) (dC d):=by
 obtain ⟨u,v,hm,r,h⟩:=G.ex
 exact ed_c (Jc hg hm r hd) h
theorem su {x:Str} {n:String} (hm:X.mg x=none) (hv:bootBuiltins x=some (.type n)) (hg:Gl X x:=by rfl) (hn:x ≠ "__name__":=by decide) (hd:(x == ("__debug__" : Str))=false:=by decide):ED Γ X (.Name x pos) (dC (.ty n)) :=
 ed_c (Jf hg hm hv (v:=.ty n) rfl hn hd) fun _ _=>rfl
noncomputable def qi (K:W.Frag) (rr:R2) (s:D->D->(EV->Prop)->Prop):Prop :=
 ∀ (H:Hp) (O:List Addr) (x y:D) (vx vy:V) (φ:EV->Prop) (Q:VK),(∀ a,H a=none->a ∉ O)->View K H O x vx->View K H O y vy->s x y φ ->
  (∀ v r H',Same H H'->RV K H H' O r v->φ r->Q v H')->rr vx vy H Q
noncomputable def d2 (s:D->D->(EV->Prop)->Prop) (ta tb:TD):TD:=fun ρ φ=>ta ρ fun x=>tb ρ fun y=>s x.d y.d φ
theorem Nj {rr:R2} {s:D->D->(EV->Prop)->Prop} {H₀:Hp} (hl:qi X.K rr s):∀ σ H Q,si X.K H₀ (d2 s ta tb) σ H Q->tOp rr (si X.K H₀ ta) (si X.K H₀ tb) σ H Q:=fun σ H Q h=>by
 obtain ⟨ρ,o,R,φ,hφ,k⟩:=h
 refine ⟨ρ,o,R,_,hφ,fun v1 r1 H1 s1 rv1 h1=>⟨ρ,o,R.to s1,_,h1,fun v2 r2 H2 s2 rv2 h2=>?_⟩⟩
 exact hl H2 _ r1.d r2.d v1 v2 φ Q (fun a e=>R.ofree ((s1.trans s2).free e)) (rv1.same s2).view rv2.view h2 fun v r H' s3 rv h=>k v r H' (s1.trans (s2.trans s3)) (rv.start (s1.trans s2)) h
theorem fg {op:Operator} {rr:R2} {s:D->D->(EV->Prop)->Prop} (ho:OpR X (binaryOp op) rr) (hl:qi X.K rr s) (ha:ED Γ X a ta) (hb:ED Γ X b tb):ED Γ X (.BinOp a op b pos) (d2 s ta tb):=fun H₀ =>
 impE (Fv ho (ha H₀) (hb H₀)) (Nj hl)
theorem Di {op:CmpOp} {rr:R2} {s:D->D->(EV->Prop)->Prop} (ho:OpR X (compareOp op) rr) (hl:qi X.K rr s) (ha:ED Γ X a ta) (hb:ED Γ X b tb) (hm:behindInMarks op b=false):ED Γ X (.Compare a [op] [b] pos) (d2 s ta tb):=fun H₀ =>
 impE (Je ho (ha H₀) (hb H₀) hm) (Nj hl)
theorem Ji:OpR X (binaryOp .Mult) (rI IntMulOk fun i j=>.int (i * j)):=opI fun _ _ _ _ _ _ _ hc q=>PyProof.Rows.mul_int q hc
noncomputable def FdOk (i j:Int):Prop:=j ≠ 0 /\ j.natAbs.log2 < 9000
theorem N6:OpR X (binaryOp .FloorDiv) (rI FdOk fun i j=>.int (i.fdiv j)):=opI fun _ _ _ _ _ _ _ hc q=>floordiv_int hc.1 q (.inl (PyProof.noPylong_of_log2 hc.2))
noncomputable def sI (C:Int->Int->Prop) (g:Int->Int->D):D->D->(EV->Prop)->Prop:=fun x y φ=>match x,y with
 | .int i,.int j=>C i j /\ φ (dv (g i j))
 | _,_=>False
theorem Qm {K:W.Frag} {C:Int->Int->Prop} {g:Int->Int->D} {gv:Int->Int->V} (hg:∀ i j H O,Rep K H O (g i j) (gv i j)):qi K (rI C gv) (sI C g):=by
 intro H O x y vx vy φ Q ho hx hy h k
 unfold sI at h
 split at h
 ·exact ⟨_,_,hx,hy,h.1,k _ _ H (Same.refl H) (by exact hg _ _ H O) h.2⟩
 ·exact h.elim
noncomputable def sI0 (g:Int->Int->D):D->D->(EV->Prop)->Prop:=fun x y φ=>match x,y with
 | .int i,.int j=>φ (dv (g i j))
 | _,_=>False
theorem dw {K:W.Frag} {g:Int->Int->D} {gv:Int->Int->V} (hg:∀ i j H O,Rep K H O (g i j) (gv i j)):qi K (rI0 gv) (sI0 g):=by
 intro H O x y vx vy φ Q ho hx hy h k
 unfold sI0 at h
 split at h
 ·exact ⟨_,_,hx,hy,k _ _ H (Same.refl H) (by exact hg _ _ H O) h⟩
 ·exact h.elim
noncomputable abbrev sSub:=sI0 fun i j=>.int (i - j)
noncomputable abbrev sFd:=sI FdOk fun i j=>.int (i.fdiv j)
noncomputable abbrev sMod:=sI (fun _ j=>j ≠ 0) fun i j=>.int (i.fmod j)
noncomputable abbrev sPow:=sI CPow fun i j=>.int (i ^ j.toNat)
noncomputable abbrev sLt:=sI0 fun i j=>.bl (decide (i < j))
noncomputable abbrev sGt:=sI0 fun i j=>.bl (decide (j < i))
noncomputable abbrev sGe:=sI0 fun i j=>.bl (decide (j <= i))
theorem Pf (ha:ED Γ X a ta) (hb:ED Γ X b tb):ED Γ X (.BinOp a .Sub b pos) (d2 sSub ta tb):=fg E5 (dw fun _ _ _ _=>rfl) ha hb
theorem Pk (ha:ED Γ X a ta) (hb:ED Γ X b tb):ED Γ X (.BinOp a .FloorDiv b pos) (d2 sFd ta tb):=fg N6 (Qm fun _ _ _ _=>rfl) ha hb
theorem vj (ha:ED Γ X a ta) (hb:ED Γ X b tb):ED Γ X (.BinOp a .Mod b pos) (d2 sMod ta tb):=fg Jj (Qm fun _ _ _ _=>rfl) ha hb
theorem Pg (ha:ED Γ X a ta) (hb:ED Γ X b tb):ED Γ X (.BinOp a .Pow b pos) (d2 sPow ta tb):=fg E7 (Qm fun _ _ _ _=>rfl) ha hb
noncomputable def sAdd:D->D->(EV->Prop)->Prop:=fun x y φ=>match x,y with
 | .int i,.int j=>φ (dv (.int (i + j)))
 | .str p,.str q=>p.length + q.length <= sizeLine /\ φ (dv (.str (p ++ q)))
 | .lst p,.lst q=>p.length + q.length <= sizeLine /\ φ (df (.lst (p ++ q)))
 | .tup p,.tup q=>p ≠ [] /\ q ≠ [] /\ p.length + q.length <= sizeLine /\ φ (dv (.tup (p ++ q)))
 | _,_=>False
theorem zw {H:Hp} {p:Addr} (h:H p=none) (o:HO):Same H (upd H p o):=fun b u q=>by rw [y0 (zm q h)]; exact q
theorem Ov {K:W.Frag} {H:Hp} {O:List Addr} {p:Addr} {o:HO} {ds:List D} {xs:List V} (hp:H p=none) (r:Reps K H O ds xs):Reps K (upd H p o) O ds xs:=Reps.grow (Grow.same (zw hp o)) _ _ r
theorem cz {H:Hp} {O:List Addr} {p:Addr} {o:HO} (hp:H p=none):Grow O (p :: O) H (upd H p o) :=
 ⟨fun b u h n=>⟨zw hp o b u h,fun z=>(List.mem_cons.mp z).elim (fun e=>zm h hp e) n⟩,fun b xs h=>zw hp o b _ h,fun b ob u h=>zw hp o b _ h⟩
theorem qw {K:W.Frag} {H:Hp} {O:List Addr} {p:Addr} {ds:List D} {xs:List V} (ho:∀ a,H a=none->a ∉ O) (hp:H p=none) (r:Reps K H O ds xs):RV K H (upd H p (.lst xs)) O (df (.lst ds)) (.ref p) :=
 ⟨p,rfl,hp,ho p hp,xs,zi,Reps.grow (cz hp) _ _ r⟩
theorem U3 {K:W.Frag} {H:Hp} {O:List Addr} {p:Addr} {ds:List D} {xs:List V} (hp:H p=none) (r:Reps K H O ds xs):RV K H (upd H p (.tup xs)) O (dv (.tup ds)) (.ref p) :=
 ⟨p,xs,rfl,⟨SqT.of zi,zi⟩,Ov hp r⟩
theorem Nh:qi X.K (fun x y H Q=>rI0 (fun i j=>.int (i + j)) x y H Q \/ (∃ i j,x=.str i /\ y=.str j /\ i.length + j.length <= sizeLine /\ Q (.str (i ++ j)) H) \/ rCat x y H Q \/ F0 X.K x y H Q) sAdd:=by
 intro H O x y vx vy φ Q ho hx hy h k
 unfold sAdd at h
 split at h
 ·exact .inl ⟨_,_,hx,hy,k _ _ H (Same.refl H) (by exact rfl) h⟩
 ·exact .inr (.inl ⟨_,_,hx,hy,h.1,k _ _ H (Same.refl H) (by exact rfl) h.2⟩)
 ·obtain ⟨a1,xs,rfl,q1,r1⟩:=hx
  obtain ⟨a2,ys,rfl,q2,r2⟩:=hy
  refine .inr (.inr (.inl ⟨a1,a2,xs,ys,rfl,rfl,q1,q2,by rw [r1.length,r2.length]; exact h.1,fun p hp=>?_⟩))
  exact k _ _ _ (zw hp _) (qw ho hp (r1.append r2)) h.2
 ·obtain ⟨n1,n2,hz,hp⟩:=h
  obtain ⟨a1,xs,rfl,q1,r1⟩:=hx
  obtain ⟨a2,ys,rfl,q2,r2⟩:=hy
  refine .inr (.inr (.inr ⟨a1,a2,xs,ys,rfl,rfl,q1.1,q2.1,?_,by rw [r1.length,r2.length]; exact hz,fun z=>?_,fun _ p hpn=>?_⟩))
  ·intro z
   have e:=r1.length
   rw [z] at e
   exact n1 (List.eq_nil_of_length_eq_zero e.symm)
  ·exfalso
   have e:=r2.length
   rw [z] at e
   exact n2 (List.eq_nil_of_length_eq_zero e.symm)
  ·exact k _ _ _ (zw hpn _) (U3 hpn (r1.append r2)) hp
 ·exact h.elim
theorem vk (ha:ED Γ X a ta) (hb:ED Γ X b tb):ED Γ X (.BinOp a .Add b pos) (d2 sAdd ta tb):=fg (Eb.or (Tg.or (Ea.or Qf))) Nh ha hb
noncomputable def sMul:D->D->(EV->Prop)->Prop:=fun x y φ=>match x,y with
 | .int i,.int j=>IntMulOk i j /\ φ (dv (.int (i * j)))
 | .lst p,.int k=>-(2 ^ 63) <= k /\ k < 2 ^ 63 /\ p.length * k.toNat <= sizeLine /\ φ (df (.lst (List.replicate k.toNat p).flatten))
 | _,_=>False
end
mutual
noncomputable def eqD:D->D->Bool
 | .non,.non=>true
 | .bl a,.bl b=>a == b
 | .bl a,.int b=>(if a then 1 else 0) == b
 | .int a,.bl b=>a == (if b then 1 else 0)
 | .int a,.int b=>a == b
 | .str a,.str b=>a == b
 | .tup a,.tup b=>eqDs a b
 | .lst a,.lst b=>eqDs a b
 | _,_=>false
noncomputable def eqDs:List D->List D->Bool
 | [],[]=>true
 | a :: as,b :: bs=>eqD a b && eqDs as bs
 | _,_=>false
end
noncomputable def okD:Nat->D->Prop
 | 0,d=>match d with
  | .non=>True
  | .bl _=>True
  | .int _=>True
  | .str _=>True
  | _=>False
 | n + 1,d=>match d with
  | .non=>True
  | .bl _=>True
  | .int _=>True
  | .str _=>True
  | .tup ds=>∀ x ∈ ds,okD n x
  | .lst ds=>∀ x ∈ ds,okD n x
  | _=>False
theorem t9:∀ {ds es:List D},eqDs ds es=true ↔ ds.length=es.length /\ ∀ (j:Nat) (x y:D),ds[j]?=some x->es[j]?=some y->eqD x y=true
 | [],[]=>by simp [eqDs]
 | [],y :: es=>by simp [eqDs]
 | x :: ds,[]=>by simp [eqDs]
 | x :: ds,y :: es=>by
  rw [eqDs,Bool.and_eq_true,t9]
  constructor
  ·rintro ⟨h,hl,q⟩
   refine ⟨by simp [hl],fun j a b ha hb=>?_⟩
   cases j with
   | zero=>simp at ha hb; subst ha hb; exact h
   | succ j=>exact q j a b (by simpa using ha) (by simpa using hb)
  ·rintro ⟨hl,q⟩
   exact ⟨q 0 x y rfl rfl,by simpa using hl,fun j a b ha hb=>q (j + 1) a b (by simpa using ha) (by simpa using hb)⟩
theorem sr (ds es:List D):eqDs ds es=((List.range (min ds.length es.length)).all (fun j=>eqD (ds.getD j .non) (es.getD j .non)) && ds.length == es.length):=by
 rw [Bool.eq_iff_iff,t9,Bool.and_eq_true,List.all_eq_true]
 constructor
 ·rintro ⟨hl,q⟩
  refine ⟨fun j hj=>?_,by simp [hl]⟩
  have hj':=List.mem_range.mp hj
  have h1:j < ds.length:=by omega
  have h2:j < es.length:=by omega
  have e1:ds[j]?=some ds[j]:=by simp [h1]
  have e2:es[j]?=some es[j]:=by simp [h2]
  have:=q j _ _ e1 e2
  simpa [List.getD,e1,e2] using this
 ·rintro ⟨q,hl⟩
  have hl':ds.length=es.length:=by simpa using hl
  refine ⟨hl',fun j x y hx hy=>?_⟩
  have h1:=(List.getElem?_eq_some_iff.mp hx).1
  have:=q j (List.mem_range.mpr (by omega))
  simpa [List.getD,hx,hy] using this
theorem qo:∀ (n:Nat) (d:D),okD n d->eqD d d=true:=by
 intro n
 induction n with
 | zero=>intro d h; cases d <;> first | exact h.elim | simp [eqD]
 | succ n ih =>
  intro d h
  cases d with
  | tup ds =>
   show eqDs ds ds=true
   refine t9.mpr ⟨rfl,fun j x y hx hy=>?_⟩
   rw [hx] at hy
   cases hy
   exact ih x (h x (List.mem_of_getElem? hx))
  | lst ds =>
   show eqDs ds ds=true
   refine t9.mpr ⟨rfl,fun j x y hx hy=>?_⟩
   rw [hx] at hy
   cases hy
   exact ih x (h x (List.mem_of_getElem? hx))
  | dk _ _=>exact h.elim
  | dt _ _=>exact h.elim
  | ty _=>exact h.elim
  | cn _=>exact h.elim
  | scr _=>exact h.elim
  | dz _=>exact h.elim
  | exc _=>exact h.elim
  | fd _=>exact h.elim
  | ob _ _ _=>exact h.elim
  | _=>simp [eqD]
section
variable {X:Cx} {pn:List (Addr × Obj)} {σ:St} {H:Hp} {s:Shared}
theorem Rep.inj (I:Inv X pn σ H s):∀ (n:Nat) (d e:D) (v:V),okD n d->okD n e->Rep X.K H [] d v->Rep X.K H [] e v->d=e:=by
 intro n
 induction n with
 | zero =>
  intro d e v hd he h1 h2
  cases d <;> first | exact hd.elim | (cases e <;> first | exact he.elim | (have z:=(show v=_ from h1).symm.trans (show v=_ from h2); first | rfl | (injection z with z; rw [z]) | cases z))
 | succ n ih =>
  have lists:∀ (ds es:List D) (xs:List V),(∀ x ∈ ds,okD n x)->(∀ x ∈ es,okD n x)->Reps X.K H [] ds xs->Reps X.K H [] es xs->ds=es:=by
   intro ds
   induction ds with
   | nil =>
    intro es xs _ _ r1 r2
    have:=r1.length
    have h2:=r2.length
    rw [this] at h2
    exact (List.eq_nil_of_length_eq_zero h2.symm).symm
   | cons d ds ih2 =>
    intro es xs h1 h2 r1 r2
    obtain ⟨v,r,rfl,q,t⟩:=r1
    cases es with
    | nil=>cases r2
    | cons e es =>
     obtain ⟨v',r',e1,q',t'⟩:=r2
     cases e1
     rw [ih d e v (h1 d (List.mem_cons_self ..)) (h2 e (List.mem_cons_self ..)) q q',ih2 es r (fun x hx=>h1 x (List.mem_cons_of_mem _ hx)) (fun x hx=>h2 x (List.mem_cons_of_mem _ hx)) t t']
  intro d e v hd he h1 h2
  have noTL:∀ (a:Addr) (xs ys:List V),SqT X.K H a xs->H a=some (.lst ys)->False:=fun a xs ys q1 q2=>by
   obtain ⟨its,_,p1,_⟩:=I.tuple q1
   obtain ⟨its2,_,p2,_⟩:=I.list (SqL.of q2)
   exact SeqAt.ne_of_list_tuple p2.isList (show s.heap.IsTuple a its.toArray from p1) rfl
  cases d with
  | tup ds =>
   obtain ⟨a,xs,rfl,q1,r1⟩:=h1
   cases e with
   | tup es =>
    obtain ⟨a',ys,e1,q2,r2⟩:=h2
    cases e1
    have:=I.tuple_inj q1.1 q2.1
    subst this
    rw [lists ds es xs hd he r1 r2]
   | lst es =>
    obtain ⟨a',ys,e1,q2,_,r2⟩:=h2
    cases e1
    exact (noTL _ _ _ q1.1 q2).elim
   | dk _ _=>exact he.elim
   | dt _ _=>exact he.elim
   | scr _=>exact he.elim
   | dz _=>exact he.elim
   | exc _=>exact he.elim
   | fd _=>exact he.elim
   | ob _ _ _=>exact he.elim
   | ty _=>exact he.elim
   | cn _=>exact he.elim
   | _=>cases (show V.ref a=_ from h2)
  | lst ds =>
   obtain ⟨a,xs,rfl,q1,_,r1⟩:=h1
   cases e with
   | tup es =>
    obtain ⟨a',ys,e1,q2,r2⟩:=h2
    cases e1
    exact (noTL _ _ _ q2.1 q1).elim
   | lst es =>
    obtain ⟨a',ys,e1,q2,_,r2⟩:=h2
    cases e1
    have:=I.list_inj (SqL.of q1) (SqL.of q2)
    subst this
    rw [lists ds es xs hd he r1 r2]
   | dk _ _=>exact he.elim
   | dt _ _=>exact he.elim
   | scr _=>exact he.elim
   | dz _=>exact he.elim
   | exc _=>exact he.elim
   | fd _=>exact he.elim
   | ob _ _ _=>exact he.elim
   | ty _=>exact he.elim
   | cn _=>exact he.elim
   | _=>cases (show V.ref a=_ from h2)
  | dk _ _=>exact hd.elim
  | dt _ _=>exact hd.elim
  | scr _=>exact hd.elim
  | dz _=>exact hd.elim
  | exc _=>exact hd.elim
  | fd _=>exact hd.elim
  | ob _ _ _=>exact hd.elim
  | ty _=>exact hd.elim
  | cn _=>exact hd.elim
  | non =>
   cases e with
   | tup es=>obtain ⟨a',ys,e1,_⟩:=h2; cases (show v=_ from h1); cases e1
   | lst es=>obtain ⟨a',ys,e1,_⟩:=h2; cases (show v=_ from h1); cases e1
   | dk _ _=>exact he.elim
   | dt _ _=>exact he.elim
   | scr _=>exact he.elim
   | dz _=>exact he.elim
   | exc _=>exact he.elim
   | fd _=>exact he.elim
   | ob _ _ _=>exact he.elim
   | ty _=>exact he.elim
   | cn _=>exact he.elim
   | non=>rfl
   | _=>cases (show v=_ from h1); cases (show V.non=_ from h2)
  | bl b =>
   cases e with
   | tup es=>obtain ⟨a',ys,e1,_⟩:=h2; cases (show v=_ from h1); cases e1
   | lst es=>obtain ⟨a',ys,e1,_⟩:=h2; cases (show v=_ from h1); cases e1
   | dk _ _=>exact he.elim
   | dt _ _=>exact he.elim
   | scr _=>exact he.elim
   | dz _=>exact he.elim
   | exc _=>exact he.elim
   | fd _=>exact he.elim
   | ob _ _ _=>exact he.elim
   | ty _=>exact he.elim
   | cn _=>exact he.elim
   | _=>cases (show v=_ from h1); cases (show V.bl b=_ from h2) <;> rfl
  | int b =>
   cases e with
   | tup es=>obtain ⟨a',ys,e1,_⟩:=h2; cases (show v=_ from h1); cases e1
   | lst es=>obtain ⟨a',ys,e1,_⟩:=h2; cases (show v=_ from h1); cases e1
   | dk _ _=>exact he.elim
   | dt _ _=>exact he.elim
   | scr _=>exact he.elim
   | dz _=>exact he.elim
   | exc _=>exact he.elim
   | fd _=>exact he.elim
   | ob _ _ _=>exact he.elim
   | ty _=>exact he.elim
   | cn _=>exact he.elim
   | _=>cases (show v=_ from h1); cases (show V.int b=_ from h2) <;> rfl
  | str b =>
   cases e with
   | tup es=>obtain ⟨a',ys,e1,_⟩:=h2; cases (show v=_ from h1); cases e1
   | lst es=>obtain ⟨a',ys,e1,_⟩:=h2; cases (show v=_ from h1); cases e1
   | dk _ _=>exact he.elim
   | dt _ _=>exact he.elim
   | scr _=>exact he.elim
   | dz _=>exact he.elim
   | exc _=>exact he.elim
   | fd _=>exact he.elim
   | ob _ _ _=>exact he.elim
   | ty _=>exact he.elim
   | cn _=>exact he.elim
   | _=>cases (show v=_ from h1); cases (show V.str b=_ from h2) <;> rfl
inductive Sh (K:W.Frag) (H:Hp) (s:Shared):D->Value->Prop where
 | non:Sh K H s .non .none
 | bl (b:Bool):Sh K H s (.bl b) (.bool b)
 | int (i:Int) (t:Tok):Sh K H s (.int i) (.int i t)
 | str (x:Str) (t:Tok):Sh K H s (.str x) (.str x t)
 | tup {a:Addr} {ds:List D} {xs:List V} {its:List Value} (p:s.heap.IsTuple a its.toArray) (r:Vals xs its) (q:Reps K H [] ds xs):Sh K H s (.tup ds) (.ref a)
 | lst {a:Addr} {ds:List D} {xs:List V} {its:List Value} (p:s.heap.IsList a its.toArray) (r:Vals xs its) (q:Reps K H [] ds xs):Sh K H s (.lst ds) (.ref a)
theorem qb (I:Inv X pn σ H s) {n:Nat} {d:D} {x:V} {u:Value} (hd:okD n d) (h:Rep X.K H [] d x) (r:RelV x u):Sh X.K H s d u:=by
 cases d with
 | non=>cases (show x=_ from h); cases r; exact .non
 | bl b=>cases (show x=_ from h); cases r; exact .bl b
 | int b=>cases (show x=_ from h); obtain ⟨t,rfl⟩:=r; exact .int b t
 | str b=>cases (show x=_ from h); obtain ⟨t,rfl⟩:=r; exact .str b t
 | ty _=>cases n <;> exact hd.elim
 | cn _=>cases n <;> exact hd.elim
 | dk _ _=>cases n <;> exact hd.elim
 | dt _ _=>cases n <;> exact hd.elim
 | scr _=>cases n <;> exact hd.elim
 | dz _=>cases n <;> exact hd.elim
 | exc _=>cases n <;> exact hd.elim
 | fd _=>cases n <;> exact hd.elim
 | ob _ _ _=>cases n <;> exact hd.elim
 | tup ds =>
  obtain ⟨a,xs,rfl,q,t⟩:=h
  cases r
  obtain ⟨its,rv,p,_⟩:=I.tuple q.1
  exact .tup (show s.heap.IsTuple a its.toArray from p) rv t
 | lst ds =>
  obtain ⟨a,xs,rfl,q,_,t⟩:=h
  cases r
  obtain ⟨its,rv,p,_⟩:=I.list (SqL.of q)
  exact .lst p.isList rv t
theorem Pd (I:Inv X pn σ H s):∀ (n:Nat) (d e:D) (x y:V) (u v:Value) (A:Around),okD n d->okD n e->Rep X.K H [] d x->Rep X.K H [] e y->RelV x u->RelV y v->A.units + n < cLine ->
  SeqAt.RcAt A s u v (eqD d e) /\ SeqAt.RcNeAt A s u v (!eqD d e) /\ SeqAt.EqAt A s u v (eqD d e):=by
 intro n
 induction n with
 | zero =>
  intro d e x y u v A hd he h1 h2 r1 r2 hu
  have hu':A.units < cLine:=by omega
  cases qb I hd h1 r1 with
  | tup=>exact hd.elim
  | lst=>exact hd.elim
  | non =>
   cases qb I he h2 r2 with
   | non=>exact ⟨SeqAt.RcAt.none_none,SeqAt.RcNeAt.none_none,SeqAt.EqAt.same _⟩
   | bl b=>exact ⟨SeqAt.RcAt.none_bool b,SeqAt.RcNeAt.none_bool b,SeqAt.EqAt.none_bool b⟩
   | int i t=>exact ⟨SeqAt.RcAt.none_int i t,SeqAt.RcNeAt.none_int i t,SeqAt.EqAt.none_int i t⟩
   | str i t=>exact ⟨SeqAt.RcAt.none_str i t,SeqAt.RcNeAt.none_str i t,SeqAt.EqAt.none_str i t⟩
   | tup=>exact he.elim
   | lst=>exact he.elim
  | bl a =>
   cases qb I he h2 r2 with
   | non=>exact ⟨SeqAt.RcAt.bool_none a,SeqAt.RcNeAt.bool_none a,SeqAt.EqAt.bool_none a⟩
   | bl b=>exact ⟨SeqAt.RcAt.bool_bool a b,SeqAt.RcNeAt.bool_bool a b,SeqAt.EqAt.bool_bool a b⟩
   | int i t=>exact ⟨SeqAt.RcAt.bool_int a i t,SeqAt.RcNeAt.bool_int a i t,SeqAt.EqAt.bool_int a i t⟩
   | str i t=>exact ⟨SeqAt.RcAt.bool_str a i t,SeqAt.RcNeAt.bool_str a i t,SeqAt.EqAt.bool_str a i t⟩
   | tup=>exact he.elim
   | lst=>exact he.elim
  | int a t =>
   cases qb I he h2 r2 with
   | non=>exact ⟨SeqAt.RcAt.int_none a t,SeqAt.RcNeAt.int_none a t,SeqAt.EqAt.int_none a t⟩
   | bl b=>exact ⟨SeqAt.RcAt.int_bool a t b,SeqAt.RcNeAt.int_bool a t b,SeqAt.EqAt.int_bool a t b⟩
   | int i t'=>exact ⟨SeqAt.RcAt.int_int a t i t',SeqAt.RcNeAt.int_int a t i t',SeqAt.EqAt.int_int a t i t'⟩
   | str i t'=>exact ⟨SeqAt.RcAt.int_str a t i t',SeqAt.RcNeAt.int_str a t i t',SeqAt.EqAt.int_str a t i t'⟩
   | tup=>exact he.elim
   | lst=>exact he.elim
  | str a t =>
   cases qb I he h2 r2 with
   | non=>exact ⟨SeqAt.RcAt.str_none a t,SeqAt.RcNeAt.str_none a t,SeqAt.EqAt.str_none a t⟩
   | bl b=>exact ⟨SeqAt.RcAt.str_bool a t b,SeqAt.RcNeAt.str_bool a t b,SeqAt.EqAt.str_bool a t b⟩
   | int i t'=>exact ⟨SeqAt.RcAt.str_int a t i t',SeqAt.RcNeAt.str_int a t i t',SeqAt.EqAt.str_int a t i t'⟩
   | str i t'=>exact ⟨SeqAt.RcAt.str_str a t i t',SeqAt.RcNeAt.str_str a t i t',SeqAt.EqAt.str_str a t i t'⟩
   | tup=>exact he.elim
   | lst=>exact he.elim
 | succ n ih =>
  intro d e x y u v A hd he h1 h2 r1 r2 hu
  have hu':A.units < cLine:=by omega
  have hin:A.in1.units + n < cLine:=by
   have:A.in1.units=A.units + 1:=rfl
   omega
  have refs:∀ {l b:Addr} {k:Bool},u=.ref l->v=.ref b->k=eqD d e->SeqAt.RcAt A s (.ref l) (.ref b) k->SeqAt.EqAt A s (.ref l) (.ref b) k:=fun {l b k} e1 e2 ek h=>by
   by_cases hlb:l=b
   ·subst hlb
    have hv:x=y:=by
     have z1:x=.ref l:=by
      cases x <;> subst e1 <;> first | (have:=(show Value.ref l=Value.ref _ from r1); cases this; rfl) | (obtain ⟨t,z⟩:=r1; cases z) | cases r1
     have z2:y=.ref l:=by
      cases y <;> subst e2 <;> first | (have:=(show Value.ref l=Value.ref _ from r2); cases this; rfl) | (obtain ⟨t,z⟩:=r2; cases z) | cases r2
     rw [z1,z2]
    subst hv
    have hde:=Rep.inj I (n + 1) d e x hd he h1 h2
    subst hde
    rw [ek,qo (n + 1) d hd]
    exact SeqAt.EqAt.same _
   ·exact SeqAt.EqAt.of_refs hlb h
  have items:∀ {ds es:List D} {xs ys:List V} {its its2:List Value},(∀ z ∈ ds,okD n z)->(∀ z ∈ es,okD n z)->Reps X.K H [] ds xs->Reps X.K H [] es ys->Vals xs its->Vals ys its2 ->
    ∀ j (h1:j < its.toArray.size) (h2:j < its2.toArray.size),SeqAt.EqAt A.in1 s its.toArray[j] its2.toArray[j] (eqD (ds.getD j .non) (es.getD j .non)):=fun {ds es xs ys its its2} o1 o2 q1 q2 w1 w2 j h1 h2=>by
   have l1:=w1.length
   have l2:=w2.length
   have k1:=q1.length
   have k2:=q2.length
   have g1:j < ds.length:=by simp at h1; omega
   have g2:j < es.length:=by simp at h2; omega
   have e1:ds[j]?=some ds[j]:=by simp [g1]
   have e2:es[j]?=some es[j]:=by simp [g2]
   obtain ⟨x',ex,rx⟩:=q1.get e1
   obtain ⟨y',ey,ry⟩:=q2.get e2
   obtain ⟨u',eu,ru⟩:=w1.get ex
   obtain ⟨v',ev,rv⟩:=w2.get ey
   have f1:its.toArray[j]=u':=by
    have:=(List.getElem?_eq_some_iff.mp eu).2
    simpa using this
   have f2:its2.toArray[j]=v':=by
    have:=(List.getElem?_eq_some_iff.mp ev).2
    simpa using this
   rw [f1,f2,show ds.getD j .non=ds[j] by simp [List.getD,e1],show es.getD j .non=es[j] by simp [List.getD,e2]]
   exact (ih ds[j] es[j] x' y' u' v' A.in1 (o1 _ (List.getElem_mem g1)) (o2 _ (List.getElem_mem g2)) rx ry ru rv hin).2.2
  cases qb I hd h1 r1 with
  | non =>
   cases qb I he h2 r2 with
   | non=>exact ⟨SeqAt.RcAt.none_none,SeqAt.RcNeAt.none_none,SeqAt.EqAt.same _⟩
   | bl b=>exact ⟨SeqAt.RcAt.none_bool b,SeqAt.RcNeAt.none_bool b,SeqAt.EqAt.none_bool b⟩
   | int i t=>exact ⟨SeqAt.RcAt.none_int i t,SeqAt.RcNeAt.none_int i t,SeqAt.EqAt.none_int i t⟩
   | str i t=>exact ⟨SeqAt.RcAt.none_str i t,SeqAt.RcNeAt.none_str i t,SeqAt.EqAt.none_str i t⟩
   | tup p _ _=>exact ⟨SeqAt.RcAt.none_tuple p hu',SeqAt.RcNeAt.none_tuple p hu',SeqAt.EqAt.none_tuple p hu'⟩
   | lst p _ _=>exact ⟨SeqAt.RcAt.none_list p hu',SeqAt.RcNeAt.none_list p hu',SeqAt.EqAt.none_list p hu'⟩
  | bl a =>
   cases qb I he h2 r2 with
   | non=>exact ⟨SeqAt.RcAt.bool_none a,SeqAt.RcNeAt.bool_none a,SeqAt.EqAt.bool_none a⟩
   | bl b=>exact ⟨SeqAt.RcAt.bool_bool a b,SeqAt.RcNeAt.bool_bool a b,SeqAt.EqAt.bool_bool a b⟩
   | int i t=>exact ⟨SeqAt.RcAt.bool_int a i t,SeqAt.RcNeAt.bool_int a i t,SeqAt.EqAt.bool_int a i t⟩
   | str i t=>exact ⟨SeqAt.RcAt.bool_str a i t,SeqAt.RcNeAt.bool_str a i t,SeqAt.EqAt.bool_str a i t⟩
   | tup p _ _=>exact ⟨SeqAt.RcAt.bool_tuple a p hu',SeqAt.RcNeAt.bool_tuple a p hu',SeqAt.EqAt.bool_tuple a p hu'⟩
   | lst p _ _=>exact ⟨SeqAt.RcAt.bool_list a p hu',SeqAt.RcNeAt.bool_list a p hu',SeqAt.EqAt.bool_list a p hu'⟩
  | int a t =>
   cases qb I he h2 r2 with
   | non=>exact ⟨SeqAt.RcAt.int_none a t,SeqAt.RcNeAt.int_none a t,SeqAt.EqAt.int_none a t⟩
   | bl b=>exact ⟨SeqAt.RcAt.int_bool a t b,SeqAt.RcNeAt.int_bool a t b,SeqAt.EqAt.int_bool a t b⟩
   | int i t'=>exact ⟨SeqAt.RcAt.int_int a t i t',SeqAt.RcNeAt.int_int a t i t',SeqAt.EqAt.int_int a t i t'⟩
   | str i t'=>exact ⟨SeqAt.RcAt.int_str a t i t',SeqAt.RcNeAt.int_str a t i t',SeqAt.EqAt.int_str a t i t'⟩
   | tup p _ _=>exact ⟨SeqAt.RcAt.int_tuple a t p hu',SeqAt.RcNeAt.int_tuple a t p hu',SeqAt.EqAt.int_tuple a t p hu'⟩
   | lst p _ _=>exact ⟨SeqAt.RcAt.int_list a t p hu',SeqAt.RcNeAt.int_list a t p hu',SeqAt.EqAt.int_list a t p hu'⟩
  | str a t =>
   cases qb I he h2 r2 with
   | non=>exact ⟨SeqAt.RcAt.str_none a t,SeqAt.RcNeAt.str_none a t,SeqAt.EqAt.str_none a t⟩
   | bl b=>exact ⟨SeqAt.RcAt.str_bool a t b,SeqAt.RcNeAt.str_bool a t b,SeqAt.EqAt.str_bool a t b⟩
   | int i t'=>exact ⟨SeqAt.RcAt.str_int a t i t',SeqAt.RcNeAt.str_int a t i t',SeqAt.EqAt.str_int a t i t'⟩
   | str i t'=>exact ⟨SeqAt.RcAt.str_str a t i t',SeqAt.RcNeAt.str_str a t i t',SeqAt.EqAt.str_str a t i t'⟩
   | tup p _ _=>exact ⟨SeqAt.RcAt.str_tuple a t p hu',SeqAt.RcNeAt.str_tuple a t p hu',SeqAt.EqAt.str_tuple a t p hu'⟩
   | lst p _ _=>exact ⟨SeqAt.RcAt.str_list a t p hu',SeqAt.RcNeAt.str_list a t p hu',SeqAt.EqAt.str_list a t p hu'⟩
  | @tup l ds xs its p r q =>
   cases qb I he h2 r2 with
   | non=>exact ⟨SeqAt.RcAt.tuple_none p hu',SeqAt.RcNeAt.tuple_none p hu',SeqAt.EqAt.tuple_none p hu'⟩
   | bl b=>exact ⟨SeqAt.RcAt.tuple_bool b p hu',SeqAt.RcNeAt.tuple_bool b p hu',SeqAt.EqAt.tuple_bool b p hu'⟩
   | int i t=>exact ⟨SeqAt.RcAt.tuple_int i t p hu',SeqAt.RcNeAt.tuple_int i t p hu',SeqAt.EqAt.tuple_int i t p hu'⟩
   | str i t=>exact ⟨SeqAt.RcAt.tuple_str i t p hu',SeqAt.RcNeAt.tuple_str i t p hu',SeqAt.EqAt.tuple_str i t p hu'⟩
   | lst p2 _ _=>exact ⟨SeqAt.RcAt.tuple_list p p2 hu',SeqAt.RcNeAt.tuple_list p p2 hu',SeqAt.EqAt.tuple_list p p2 hu'⟩
   | @tup b es ys its2 p2 r' q' =>
    have e1:its.toArray.size=ds.length:=by rw [List.size_toArray,<- r.length,q.length]
    have e2:its2.toArray.size=es.length:=by rw [List.size_toArray,<- r'.length,q'.length]
    have ek:eqD (.tup ds) (.tup es)=((List.range (min its.toArray.size its2.toArray.size)).all (fun j=>eqD (ds.getD j .non) (es.getD j .non)) && its.toArray.size == its2.toArray.size):=by
     rw [e1,e2]
     exact sr ds es
    rw [ek]
    have hrc:=SeqAt.RcAt.tuples p p2 hu' (items hd he q q' r r')
    exact ⟨hrc,SeqAt.RcNeAt.tuples p p2 hu' (items hd he q q' r r'),refs rfl rfl ek.symm hrc⟩
  | @lst l ds xs its p r q =>
   cases qb I he h2 r2 with
   | non=>exact ⟨SeqAt.RcAt.list_none p hu',SeqAt.RcNeAt.list_none p hu',SeqAt.EqAt.list_none p hu'⟩
   | bl b=>exact ⟨SeqAt.RcAt.list_bool b p hu',SeqAt.RcNeAt.list_bool b p hu',SeqAt.EqAt.list_bool b p hu'⟩
   | int i t=>exact ⟨SeqAt.RcAt.list_int i t p hu',SeqAt.RcNeAt.list_int i t p hu',SeqAt.EqAt.list_int i t p hu'⟩
   | str i t=>exact ⟨SeqAt.RcAt.list_str i t p hu',SeqAt.RcNeAt.list_str i t p hu',SeqAt.EqAt.list_str i t p hu'⟩
   | tup p2 _ _=>exact ⟨SeqAt.RcAt.list_tuple p p2 hu',SeqAt.RcNeAt.list_tuple p p2 hu',SeqAt.EqAt.list_tuple p p2 hu'⟩
   | @lst b es ys its2 p2 r' q' =>
    have e1:its.toArray.size=ds.length:=by rw [List.size_toArray,<- r.length,q.length]
    have e2:its2.toArray.size=es.length:=by rw [List.size_toArray,<- r'.length,q'.length]
    by_cases hsz:its.toArray.size=its2.toArray.size
    ·have ek:eqD (.lst ds) (.lst es)=(List.range its.toArray.size).all (fun j=>eqD (ds.getD j .non) (es.getD j .non)):=by
      show eqDs ds es=_
      rw [sr,<- e1,<- e2,<- hsz]
      simp
     rw [ek]
     have hrc:=SeqAt.RcAt.lists p p2 hsz hu' (items hd he q q' r r')
     exact ⟨hrc,SeqAt.RcNeAt.lists p p2 hsz hu' (items hd he q q' r r'),refs rfl rfl ek.symm hrc⟩
    ·have ek:eqD (.lst ds) (.lst es)=false:=by
      show eqDs ds es=_
      have hb:(its.toArray.size == its2.toArray.size)=false:=beq_eq_false_iff_ne.mpr hsz
      rw [sr,<- e1,<- e2,hb,Bool.and_false]
     rw [ek]
     have hne:(its.toArray.size != its2.toArray.size)=true:=by simpa using hsz
     have hrc:=SeqAt.RcAt.lists_lengths p p2 hne hu'
     exact ⟨hrc,SeqAt.RcNeAt.lists_lengths p p2 hne hu',refs rfl rfl ek.symm hrc⟩
end
section
variable {X:Cx} {a b:Expr} {ta tb:TD} {pos:Pos}
noncomputable def rEqD (K:W.Frag) (neg:Bool):R2:=fun x y H Q=>∃ d e,Rep K H [] d x /\ Rep K H [] e y /\ okD 40 d /\ okD 40 e /\ Q (.bl (if neg then !eqD d e else eqD d e)) H
theorem Lg (hu:X.A.units + 64 < cLine):OpR X (compareOp .Eq) (rEqD X.K false):=by
 intro pn s σ H x y v u Q I rx ry h
 obtain ⟨d,e,h1,h2,o1,o2,q⟩:=h
 exact (Pd I 40 d e x y v u X.A o1 o2 h1 h2 rx ry (by omega)).1 X.prog X.w X.xe _ ⟨.bl _,H,I,rfl,q⟩
theorem E8 (hu:X.A.units + 64 < cLine):OpR X (compareOp .NotEq) (rEqD X.K true):=by
 intro pn s σ H x y v u Q I rx ry h
 obtain ⟨d,e,h1,h2,o1,o2,q⟩:=h
 exact (Pd I 40 d e x y v u X.A o1 o2 h1 h2 rx ry (by omega)).2.1 X.prog X.w X.xe _ ⟨.bl _,H,I,rfl,q⟩
noncomputable def sEq:D->D->(EV->Prop)->Prop:=fun x y φ=>okD 40 x /\ okD 40 y /\ φ (dv (.bl (eqD x y)))
noncomputable def sNe:D->D->(EV->Prop)->Prop:=fun x y φ=>okD 40 x /\ okD 40 y /\ φ (dv (.bl (!eqD x y)))
theorem Cq (hu:X.A.units + 64 < cLine) (ha:ED Γ X a ta) (hb:ED Γ X b tb):ED Γ X (.Compare a [.Eq] [b] pos) (d2 sEq ta tb) :=
 Di (Lg hu) (fun H O x y vx vy φ Q ho hx hy h k=>⟨x,y,hx.rep0,hy.rep0,h.1,h.2.1,k _ _ H (Same.refl H) (by exact rfl) h.2.2⟩) ha hb (rh _)
end
section
variable {X:Cx} {a b c e:Expr} {es:List Expr} {ta tb tc te:TD} {t:TDs} {pos:Pos}
theorem Nc:qi X.K (fun x y H Q=>rI IntMulOk (fun i j=>.int (i * j)) x y H Q \/ rRep x y H Q) sMul:=by
 intro H O x y vx vy φ Q ho hx hy h k
 unfold sMul at h
 split at h
 ·exact .inl ⟨_,_,hx,hy,h.1,k _ _ H (Same.refl H) (by exact rfl) h.2⟩
 ·obtain ⟨h1,h2,h3,h4⟩:=h
  obtain ⟨a1,xs,rfl,q1,r1⟩:=hx
  refine .inr ⟨a1,_,xs,rfl,hy,q1,h1,h2,by rw [r1.length]; exact h3,fun p hp=>?_⟩
  exact k _ _ _ (zw hp _) (qw ho hp (r1.rep _)) h4
 ·exact h.elim
theorem Lv (ha:ED Γ X a ta) (hb:ED Γ X b tb):ED Γ X (.BinOp a .Mult b pos) (d2 sMul ta tb):=fg (Ji.or E6) Nc ha hb
noncomputable def sNeg:D->(EV->Prop)->Prop:=fun x φ=>match x with
 | .int i=>φ (dv (.int (-i)))
 | _=>False
noncomputable def d1 (s:D->(EV->Prop)->Prop) (ta:TD):TD:=fun ρ φ=>ta ρ fun x=>s x.d φ
theorem tm (ha:ED Γ X a ta):ED Γ X (.UnaryOp .USub a pos) (d1 sNeg ta):=fun H₀=>impE (C6 Ga (ha H₀)) fun σ H Q h=>by
 obtain ⟨ρ,o,R,φ,hφ,k⟩:=h
 refine ⟨ρ,o,R,_,hφ,fun v1 r1 H1 s1 rv1 h1=>?_⟩
 obtain ⟨kd,d⟩:=r1
 have hv:=rv1.view
 cases d with
 | int i=>exact ⟨i,hv,k _ _ H1 s1 (by exact rfl) h1⟩
 | _=>exact h1.elim
noncomputable def truD:D->Option Bool
 | .non=>some false
 | .bl b=>some b
 | .int i=>some (i != 0)
 | .str x=>if x.length <= sizeLine then some ((x.length:Int) != 0) else none
 | .lst ds=>some (!ds.isEmpty)
 | .scr ns=>some (!ns.isEmpty)
 | .dz _=>none
 | .tup ds=>some (!ds.isEmpty)
 | .dk _ ds=>some (!ds.isEmpty)
 | .dt _ _=>none
 | .ty _=>none
 | .cn _=>none
 | .exc _=>none
 | .fd _=>none
 | .ob _ _ _=>none
theorem rk {K:W.Frag} {H:Hp} {O:List Addr} {ds:List D} {xs:List V} (r:Reps K H O ds xs):xs.isEmpty=ds.isEmpty:=by
 have:=r.length
 cases xs <;> cases ds <;> simp_all
theorem O9 {K:W.Frag} {H:Hp} {O:List Addr} {d:D} {v:V} {b:Bool} (h:View K H O d v) (e:truD d=some b):TruV K v H b:=by
 cases d with
 | non=>cases (show v=_ from h); cases e; rfl
 | bl i=>cases (show v=_ from h); cases e; rfl
 | int i=>cases (show v=_ from h); cases e; rfl
 | str x =>
  cases (show v=_ from h)
  have e':(if x.length <= sizeLine then some ((x.length:Int) != 0) else none)=some b:=e
  split at e'
  ·rename_i hz
   cases e'
   exact ⟨hz,rfl⟩
  ·cases e'
 | ty _=>cases e
 | cn _=>cases e
 | exc _=>cases e
 | fd _=>cases e
 | ob _ _ _=>cases e
 | lst ds =>
  obtain ⟨a,xs,rfl,q,r⟩:=h
  cases e
  exact .inl ⟨xs,SqL.of q,by rw [rk r]⟩
 | scr ns =>
  obtain ⟨a,rfl,q⟩:=h
  cases e
  exact .inl ⟨_,q.seq,by cases ns <;> rfl⟩
 | dz _=>cases e
 | tup ds =>
  obtain ⟨a,xs,rfl,q,r⟩:=h
  cases e
  exact .inr (.inl ⟨xs,q.1,by rw [rk r]⟩)
 | dk ks ds =>
  obtain ⟨a,xs,rfl,q,l,_,r⟩:=h
  cases e
  refine .inr (.inr ⟨_,q,?_⟩)
  have:=r.length
  cases ks <;> cases ds <;> cases xs <;> simp_all
 | dt ks ds=>cases e
noncomputable def tTru (t:TD):TDb:=fun ρ φ=>t ρ fun r=>match truD r.d with
 | some b=>φ b
 | none=>False
theorem yx (h:ED Γ X a ta) (he:∀ whole,isTrue a X.env whole=(do let v <- whole; standAt a.pos; holding [v] (truthy v)):=by intro _; rfl):ET Γ X a (tTru ta):=fun H₀=>impT (N0 (h H₀) he) fun σ H Q q=>by
 obtain ⟨ρ,o,R,φ,hφ,k⟩:=q
 refine ⟨ρ,o,R,_,hφ,fun v1 r1 H1 s1 rv1 h1=>?_⟩
 cases e:truD r1.d with
 | none=>simp only [e] at h1
 | some b =>
  simp only [e] at h1
  exact ⟨b,O9 rv1.view e,k b H1 s1 h1⟩
noncomputable def tBo (t:TD):TDb:=fun ρ φ=>t ρ fun r=>match r.d with
 | .bl b=>φ b
 | _=>False
theorem j9 {op:CmpOp} {rr:R2} {s:D->D->(EV->Prop)->Prop} (ho:OpR X (compareOp op) rr) (hl:qi X.K rr s) (ha:ED Γ X a ta) (hb:ED Γ X b tb) (hm:behindInMarks op b=false):ET Γ X (.Compare a [op] [b] pos) (tBo (d2 s ta tb)):=fun H₀ =>
 impT (J2 ho (ha H₀) (hb H₀) hm) fun σ H Q h=>by
  obtain ⟨ρ,o,R,φ,hφ,k⟩:=h
  refine Nj (ta:=ta) (tb:=tb) (H₀:=H₀.1) hl σ H _ ⟨ρ,o,R,_,hφ,fun v r H' s1 rv h1=>?_⟩
  obtain ⟨kd,d⟩:=r
  cases d with
  | bl b=>exact ⟨b,rv.view,k b H' s1 h1⟩
  | _=>exact h1.elim
theorem Hl (ha:ED Γ X a ta) (hb:ED Γ X b tb):ET Γ X (.Compare a [.Lt] [b] pos) (tBo (d2 sLt ta tb)):=j9 C9 (dw fun _ _ _ _=>rfl) ha hb (rh _)
theorem Hm (ha:ED Γ X a ta) (hb:ED Γ X b tb):ET Γ X (.Compare a [.Gt] [b] pos) (tBo (d2 sGt ta tb)):=j9 Ca (dw fun _ _ _ _=>rfl) ha hb (rh _)
theorem Df (ha:ED Γ X a ta) (hb:ED Γ X b tb):ET Γ X (.Compare a [.GtE] [b] pos) (tBo (d2 sGe ta tb)):=j9 Cb (dw fun _ _ _ _=>rfl) ha hb (rh _)
theorem xu (hu:X.A.units + 64 < cLine) (ha:ED Γ X a ta) (hb:ED Γ X b tb):ET Γ X (.Compare a [.Eq] [b] pos) (tBo (d2 sEq ta tb)) :=
 j9 (Lg hu) (fun H O x y vx vy φ Q ho hx hy h k=>⟨x,y,hx.rep0,hy.rep0,h.1,h.2.1,k _ _ H (Same.refl H) (by exact rfl) h.2.2⟩) ha hb (rh _)
theorem Vh (hu:X.A.units + 64 < cLine) (ha:ED Γ X a ta) (hb:ED Γ X b tb):ET Γ X (.Compare a [.NotEq] [b] pos) (tBo (d2 sNe ta tb)) :=
 j9 (E8 hu) (fun H O x y vx vy φ Q ho hx hy h k=>⟨x,y,hx.rep0,hy.rep0,h.1,h.2.1,k _ _ H (Same.refl H) (by exact rfl) h.2.2⟩) ha hb (rh _)
noncomputable def Nt:D->Bool
 | .non=>true
 | _=>false
noncomputable def sIs:D->D->(EV->Prop)->Prop:=fun x y φ=>match y with
 | .non=>φ (dv (.bl (Nt x)))
 | _=>False
noncomputable def U2:D->D->(EV->Prop)->Prop:=fun x y φ=>match y with
 | .non=>φ (dv (.bl (!Nt x)))
 | _=>False
theorem Vo {K:W.Frag} {H:Hp} {O:List Addr} {d:D} {v:V} (h:View K H O d v):decide (v=.non)=Nt d:=by
 cases d with
 | tup ds=>obtain ⟨a,xs,rfl,_⟩:=h; rfl
 | lst ds=>obtain ⟨a,xs,rfl,_⟩:=h; rfl
 | scr ns=>obtain ⟨a,rfl,_⟩:=h; rfl
 | dz _=>obtain ⟨a,rfl,_⟩:=h; rfl
 | exc _=>obtain ⟨a,rfl,_⟩:=h; rfl
 | fd _=>obtain ⟨a,rfl,_⟩:=h; rfl
 | ob _ _ _=>obtain ⟨a,dx,xs,rfl,_⟩:=h; rfl
 | dk ks ds=>obtain ⟨a,xs,rfl,_⟩:=h; rfl
 | dt ks ds=>obtain ⟨a,xs,rfl,_⟩:=h; rfl
 | cn c =>
  cases c with
  | int i=>cases (show v=_ from h); rfl
  | str x=>cases (show v=_ from h); rfl
  | tup cs=>obtain ⟨a,o,its,n,xs,rfl,_⟩:=(show CRep K (.tup cs) v from h); rfl
 | _=>cases (show v=_ from h); rfl
theorem Jo {K:W.Frag}:qi K (fun x y H Q=>y=.non /\ Q (.bl (decide (x=.non))) H) sIs:=by
 intro H O x y vx vy φ Q ho hx hy h k
 unfold sIs at h
 split at h
 ·refine ⟨hy,?_⟩
  rw [Vo hx]
  exact k _ _ H (Same.refl H) (by exact rfl) h
 ·exact h.elim
theorem Tq {K:W.Frag}:qi K (fun x y H Q=>y=.non /\ Q (.bl (!decide (x=.non))) H) U2:=by
 intro H O x y vx vy φ Q ho hx hy h k
 unfold U2 at h
 split at h
 ·refine ⟨hy,?_⟩
  rw [Vo hx]
  exact k _ _ H (Same.refl H) (by exact rfl) h
 ·exact h.elim
theorem Vi (ha:ED Γ X a ta) (hb:ED Γ X b tb):ET Γ X (.Compare a [.Is] [b] pos) (tBo (d2 sIs ta tb)):=j9 E9 Jo ha hb (rh _)
theorem Us (ha:ED Γ X a ta) (hb:ED Γ X b tb):ET Γ X (.Compare a [.IsNot] [b] pos) (tBo (d2 U2 ta tb)):=j9 Jh Tq ha hb (rh _)
variable {tA tB':TDb} {rest:List Expr}
noncomputable def bAnd (t u:TDb):TDb:=fun ρ φ=>t ρ fun c=>(c=true->u ρ φ) /\ (c=false->φ false)
noncomputable def bOr (t u:TDb):TDb:=fun ρ φ=>t ρ fun c=>(c=true->φ true) /\ (c=false->u ρ φ)
noncomputable def bNot (t:TDb):TDb:=fun ρ φ=>t ρ fun c=>φ (!c)
theorem Vg (ha:ET Γ X a tA):EW Γ X (.BoolOp .And [a] pos) tA:=fun H₀=>Kz (ha H₀)
theorem t7 (ha:ET Γ X a tA):EW Γ X (.BoolOp .Or [a] pos) tA:=fun H₀=>Fh (ha H₀)
theorem Pb (ha:ET Γ X a tA) (hb:EW Γ X (.BoolOp .And (b :: rest) pos) tB'):EW Γ X (.BoolOp .And (a :: b :: rest) pos) (bAnd tA tB'):=fun H₀=>impW (Fi (ha H₀) (hb H₀)) fun σ H Q h=>by
 obtain ⟨ρ,o,R,φ,hφ,k⟩:=h
 refine ⟨ρ,o,R,_,hφ,fun c H1 s1 h1=>?_⟩
 cases c with
 | true=>exact iteT ⟨ρ,o,R.to s1,φ,h1.1 rfl,fun b H2 s2 q=>k b H2 (s1.trans s2) q⟩
 | false=>exact iteF (k false H1 s1 (h1.2 rfl))
theorem uu (ha:ET Γ X a tA) (hb:EW Γ X (.BoolOp .Or (b :: rest) pos) tB'):EW Γ X (.BoolOp .Or (a :: b :: rest) pos) (bOr tA tB'):=fun H₀=>impW (C4 (ha H₀) (hb H₀)) fun σ H Q h=>by
 obtain ⟨ρ,o,R,φ,hφ,k⟩:=h
 refine ⟨ρ,o,R,_,hφ,fun c H1 s1 h1=>?_⟩
 cases c with
 | true=>exact iteT (k true H1 s1 (h1.1 rfl))
 | false=>exact iteF ⟨ρ,o,R.to s1,φ,h1.2 rfl,fun b H2 s2 q=>k b H2 (s1.trans s2) q⟩
theorem EW.et (h:EW Γ X a tA):ET Γ X a tA:=fun H₀=>PW.pt (h H₀)
theorem wx (ha:ET Γ X a tA):ET Γ X (.UnaryOp .Not a pos) (bNot tA):=fun H₀=>impT (Fm (ha H₀)) fun σ H Q h=>by
 obtain ⟨ρ,o,R,φ,hφ,k⟩:=h
 exact ⟨ρ,o,R,_,hφ,fun c H1 s1 h1=>k _ H1 s1 h1⟩
noncomputable def vAnd (ta tb:TD):TD:=fun ρ φ=>ta ρ fun x=>match x.d with
 | .bl c=>(c=true->tb ρ φ) /\ (c=false->φ (dv (.bl false)))
 | _=>False
noncomputable def vOr (ta tb:TD):TD:=fun ρ φ=>ta ρ fun x=>match x.d with
 | .bl c=>(c=true->φ (dv (.bl true))) /\ (c=false->tb ρ φ)
 | _=>False
noncomputable def vNot (ta:TD):TD:=fun ρ φ=>ta ρ fun x=>match x.d with
 | .bl c=>φ (dv (.bl (!c)))
 | _=>False
theorem Ph {op} (h:ED Γ X a ta):ED Γ X (.BoolOp op [a] pos) ta:=fun H₀=>Fw (h H₀)
theorem Lw (ha:ED Γ X a ta) (hb:ED Γ X (.BoolOp .And (b :: rest) pos) tb):ED Γ X (.BoolOp .And (a :: b :: rest) pos) (vAnd ta tb):=fun H₀=>impE (E4 (ha H₀) (hb H₀)) fun σ H Q h=>by
 obtain ⟨ρ,o,R,φ,hφ,k⟩:=h
 refine ⟨ρ,o,R,_,hφ,fun v r H1 s1 rv h1=>?_⟩
 obtain ⟨kd,d⟩:=r
 cases d with
 | bl c =>
  refine ⟨c,rv.view,?_⟩
  cases c with
  | true=>exact iteT ⟨ρ,o,R.to s1,φ,h1.1 rfl,fun v2 r2 H2 s2 rv2 q=>k v2 r2 H2 (s1.trans s2) (rv2.start s1) q⟩
  | false=>exact iteF (k _ _ H1 s1 (by exact rfl) (h1.2 rfl))
 | _=>exact h1.elim
theorem Cp (ha:ED Γ X a ta) (hb:ED Γ X (.BoolOp .Or (b :: rest) pos) tb):ED Γ X (.BoolOp .Or (a :: b :: rest) pos) (vOr ta tb):=fun H₀=>impE (C7 (ha H₀) (hb H₀)) fun σ H Q h=>by
 obtain ⟨ρ,o,R,φ,hφ,k⟩:=h
 refine ⟨ρ,o,R,_,hφ,fun v r H1 s1 rv h1=>?_⟩
 obtain ⟨kd,d⟩:=r
 cases d with
 | bl c =>
  refine ⟨c,rv.view,?_⟩
  cases c with
  | true=>exact iteT (k _ _ H1 s1 (by exact rfl) (h1.1 rfl))
  | false=>exact iteF ⟨ρ,o,R.to s1,φ,h1.2 rfl,fun v2 r2 H2 s2 rv2 q=>k v2 r2 H2 (s1.trans s2) (rv2.start s1) q⟩
 | _=>exact h1.elim
theorem Lu (ha:ED Γ X a ta):ED Γ X (.UnaryOp .Not a pos) (vNot ta):=fun H₀=>impE (Fx (ha H₀)) fun σ H Q h=>by
 obtain ⟨ρ,o,R,φ,hφ,k⟩:=h
 refine ⟨ρ,o,R,_,hφ,fun v r H1 s1 rv h1=>?_⟩
 obtain ⟨kd,d⟩:=r
 cases d with
 | bl c=>exact ⟨c,rv.view,k _ _ H1 s1 (by exact rfl) h1⟩
 | _=>exact h1.elim
noncomputable def vIf (t:TDb) (ta tb:TD):TD:=fun ρ φ=>t ρ fun c=>(c=true->ta ρ φ) /\ (c=false->tb ρ φ)
theorem qp (hc:ET Γ X c tA) (ha:ED Γ X a ta) (hb:ED Γ X b tb):ED Γ X (.IfExp c a b pos) (vIf tA ta tb):=fun H₀=>impE (N4 (hc H₀) (ha H₀) (hb H₀)) fun σ H Q h=>by
 obtain ⟨ρ,o,R,φ,hφ,k⟩:=h
 refine ⟨ρ,o,R,_,hφ,fun c H1 s1 h1=>?_⟩
 cases c with
 | true=>exact iteT ⟨ρ,o,R.to s1,φ,h1.1 rfl,fun v2 r2 H2 s2 rv2 q=>k v2 r2 H2 (s1.trans s2) (rv2.start s1) q⟩
 | false=>exact iteF ⟨ρ,o,R.to s1,φ,h1.2 rfl,fun v2 r2 H2 s2 rv2 q=>k v2 r2 H2 (s1.trans s2) (rv2.start s1) q⟩
noncomputable def aNil:TDs:=fun _ φ=>φ []
noncomputable def Mq (te:TD) (t:TDs):TDs:=fun ρ φ=>te ρ fun r=>t ρ fun rs=>φ (r :: rs)
theorem zc:EA Γ X [] aNil:=fun H₀=>impA wu fun σ H Q h=>by
 obtain ⟨ρ,o,R,φ,hφ,k⟩:=h
 exact k [] [] H (Same.refl H) (by exact rfl) hφ
theorem z9 (ha:ED Γ X e te) (hr:EA Γ X es t) (hs:starEach (e :: es) X.env=(false,eval e X.env) :: starEach es X.env:=by rfl):EA Γ X (e :: es) (Mq te t):=fun H₀=>impA (yo (ha H₀) (hr H₀) hs) fun σ H Q h=>by
 obtain ⟨ρ,o,R,φ,hφ,k⟩:=h
 refine ⟨ρ,o,R,_,hφ,fun v r H1 s1 rv h1=>⟨ρ,o,R.to s1,_,h1,fun vs rs H2 s2 rvs h2=>?_⟩⟩
 exact k (v :: vs) (r :: rs) H2 (s1.trans s2) ⟨v,vs,rfl,rv.same s2,rvs.start s1⟩ h2
noncomputable def sy:List EV->Bool
 | []=>true
 | r :: rs=>(match r.k with | .own=>false | _=>true) && sy rs
theorem vd:∀ {rs:List EV},sy rs=true->∀ r ∈ rs,r.k ≠ .own
 | [],_=>fun r h=>nomatch h
 | ⟨k,d⟩ :: rs,h=>fun r hr=>by
  rw [sy,Bool.and_eq_true] at h
  rcases List.mem_cons.mp hr with rfl | hr
  ·intro z
   have z':k=.own:=z
   subst z'
   exact absurd h.1 (by simp)
  ·exact vd h.2 r hr
noncomputable def dTup (t:TDs):TD:=fun ρ φ=>t ρ fun rs=>sy rs=true /\ Nat.ble rs.length 1000=true /\ φ (dv (.tup (rs.map EV.d)))
noncomputable def dLst (t:TDs):TD:=fun ρ φ=>t ρ fun rs=>sy rs=true /\ Nat.ble rs.length 1000=true /\ φ (df (.lst (rs.map EV.d)))
theorem c7 {n:Nat} (h:Nat.ble n 1000=true):n <= sizeLine:=Nat.le_trans (Nat.le_of_ble_eq_true h) (by decide)
theorem RVs.length {K:W.Frag} {H0 H:Hp} {O:List Addr}:∀ {rs:List EV} {vs:List V},RVs K H0 H O rs vs->vs.length=rs.length
 | [],_,h=>by cases h; rfl
 | r :: rs,vs,h=>by
  obtain ⟨v,ws,rfl,_,t⟩:=h
  simp [RVs.length t]
theorem zp {x1} (h:EA Γ X es t):ED Γ X (.Tuple es x1 pos) (dTup t):=fun H₀=>impE (gw (h H₀)) fun σ H Q q=>by
 obtain ⟨ρ,o,R,φ,hφ,k⟩:=q
 refine ⟨ρ,o,R,_,hφ,fun vs rs H1 s1 rvs h1=>⟨by rw [rvs.length]; exact c7 h1.2.1,fun p hp=>?_⟩⟩
 exact k _ _ _ (s1.trans (zw hp _)) (RV.start (U3 hp (rvs.reps (vd h1.1))) s1) h1.2.2
theorem ua (h:EA Γ X es t):ED Γ X (.List es pos) (dLst t):=fun H₀=>impE (Zg (h H₀)) fun σ H Q q=>by
 obtain ⟨ρ,o,R,φ,hφ,k⟩:=q
 refine ⟨ρ,o,R,_,hφ,fun vs rs H1 s1 rvs h1=>⟨by rw [rvs.length]; exact c7 h1.2.1,fun p hp=>?_⟩⟩
 exact k _ _ _ (s1.trans (zw hp _)) (RV.start (qw (fun a e=>R.ofree (s1.free e)) hp (rvs.reps (vd h1.1))) s1) h1.2.2
noncomputable def sIx:D->D->(EV->Prop)->Prop:=fun x y φ=>match x,y with
 | .lst ds,.int i=>match atI ds i with
  | some d=>φ (dv d)
  | none=>False
 | .tup ds,.int i=>match atI ds i with
  | some d=>φ (dv d)
  | none=>False
 | .scr ns,.int i=>match atI ns i with
  | some n=>φ (dv (.int n))
  | none=>False
 | .str z,.int i=>z.length <= sizeLine /\ match atI z.cps.toList i with
  | some c=>φ (dv (.str ⟨#[c]⟩))
  | none=>False
 | _,_=>False
theorem T1 {K:W.Frag} {H:Hp} {O:List Addr} {ds:List D} {xs:List V} {i:Int} {d:D} (r:Reps K H O ds xs) (h:atI ds i=some d):∃ v,atI xs i=some v /\ Rep K H O d v:=by
 unfold atI at h ⊢
 rw [r.length]
 cases e:ixN ds.length i with
 | none=>rw [e] at h; cases h
 | some j =>
  rw [e] at h
  exact r.get h
theorem Jn:qi X.K (rIx X.K) sIx:=by
 intro H O x y vx vy φ Q ho hx hy h k
 unfold sIx at h
 split at h
 ·obtain ⟨a,xs,rfl,q,r⟩:=hx
  split at h
  ·rename_i d e
   obtain ⟨v,ev,rv⟩:=T1 r e
   exact .inl ⟨a,xs,_,v,rfl,hy,SqL.of q,ev,k _ _ H (Same.refl H) (RV.val rv) h⟩
  ·exact h.elim
 ·obtain ⟨a,xs,rfl,q,r⟩:=hx
  split at h
  ·rename_i d e
   obtain ⟨v,ev,rv⟩:=T1 r e
   exact .inr (.inl ⟨a,xs,_,v,rfl,hy,q.1,ev,k _ _ H (Same.refl H) (RV.val rv) h⟩)
  ·exact h.elim
 ·obtain ⟨a,rfl,q⟩:=hx
  split at h
  ·rename_i n e
   refine .inl ⟨a,_,_,.int n,rfl,hy,q.seq,?_,k _ _ H (Same.refl H) (by exact rfl) h⟩
   unfold atI at e ⊢
   rw [zLm]
   cases e2:ixN _ _ with
   | none=>rw [e2] at e; cases e
   | some j =>
    rw [e2] at e
    exact (List.getElem?_map ..).trans (congrArg (Option.map V.int) e)
  ·exact h.elim
 ·obtain ⟨hz,h⟩:=h
  split at h
  ·rename_i c e
   exact .inr (.inr ⟨_,_,c,hx,hy,hz,e,k _ _ H (Same.refl H) (by exact rfl) h⟩)
  ·exact h.elim
 ·exact h.elim
noncomputable abbrev TDo:=DE->(Option Int->Prop)->Prop
noncomputable def Ce (K:W.Frag) (H₀:Hp) (t:TDo):TO:=fun σ H Q=>∃ ρ o,REnv K H₀ H σ ρ o /\ ∃ φ,t ρ φ /\ ∀ b H',Same H H'->φ b->Q b H'
noncomputable def EO (G:Hp->Prop) (X:Cx) (e:Option Expr) (t:TDo):Prop:=∀ H₀:{H:Hp // G H},PO X e (Ce X.K H₀.1 t)
noncomputable def Ef:TDo:=fun _ φ=>φ none
noncomputable def Ee (t:TD):TDo:=fun ρ φ=>t ρ fun r=>match r.d with
 | .int i=>φ (some i)
 | _=>False
theorem impO {e:Option Expr} {t t':TO} (h:PO X e t) (i:∀ σ H Q,t' σ H Q->t σ H Q):PO X e t':=fun pn s σ H Q I q=>h pn s σ H Q I (i σ H Q q)
theorem ss:EO Γ X none Ef:=fun H₀=>impO J7 fun σ H Q h=>by
 obtain ⟨ρ,o,R,φ,hφ,k⟩:=h
 exact k none H (Same.refl H) hφ
theorem xa (h:ED Γ X e te):EO Γ X (some e) (Ee te):=fun H₀=>impO (J6 (h H₀)) fun σ H Q q=>by
 obtain ⟨ρ,o,R,φ,hφ,k⟩:=q
 refine ⟨ρ,o,R,_,hφ,fun v r H1 s1 rv h1=>?_⟩
 obtain ⟨kd,d⟩:=r
 cases d with
 | int i=>exact ⟨i,rv.view,k _ H1 s1 h1⟩
 | _=>exact h1.elim
noncomputable def cutD (xs:List D) (lo hi:Option Int):List D:=(xs.drop (HT.sIx xs.length 0 lo)).take (HT.sIx xs.length xs.length hi - HT.sIx xs.length 0 lo)
theorem dn {K:W.Frag} {H:Hp} {O:List Addr} {ds:List D} {xs:List V} (r:Reps K H O ds xs) (lo hi:Option Int):Reps K H O (cutD ds lo hi) (cutV xs lo hi):=by
 unfold cutD cutV
 rw [r.length]
 exact (r.drop _).take _
noncomputable def sSl:D->Option Int->Option Int->(EV->Prop)->Prop:=fun x lo hi φ=>match x with
 | .lst ds=>φ (df (.lst (cutD ds lo hi)))
 | .scr ns=>φ (df (.lst (cutD (ns.map D.int) lo hi)))
 | .tup ds=>¬ (HT.sIx ds.length 0 lo=0 /\ HT.sIx ds.length ds.length hi=ds.length) /\ φ (dv (.tup (cutD ds lo hi)))
 | _=>False
noncomputable def dSl (te:TD) (tl th:TDo):TD:=fun ρ φ=>te ρ fun x=>tl ρ fun l=>th ρ fun u=>sSl x.d l u φ
theorem xo {lo hi:Option Expr} {tl th:TDo} {p2:Pos} (he:ED Γ X e te) (hl:EO Γ X lo tl) (hu:EO Γ X hi th):ED Γ X (.Subscript e (.Slice lo hi none p2) pos) (dSl te tl th):=fun H₀ =>
 impE (N3 (Kh.or Gj) (he H₀) (hl H₀) (hu H₀)) fun σ H Q q=>by
  obtain ⟨ρ,o,R,φ,hφ,k⟩:=q
  refine ⟨ρ,o,R,_,hφ,fun v r H1 s1 rv h1=>⟨ρ,o,R.to s1,_,h1,fun l H2 s2 h2=>⟨ρ,o,R.to (s1.trans s2),_,h2,fun u H3 s3 h3=>?_⟩⟩⟩
  have s12:=s1.trans s2
  have s13:=s12.trans s3
  have vw:=(rv.same (s2.trans s3)).view
  obtain ⟨kd,d⟩:=r
  cases d with
  | lst ds =>
   obtain ⟨a,xs,rfl,q,r⟩:=vw
   refine .inl ⟨a,xs,rfl,SqL.of q,fun p hp=>?_⟩
   exact k _ _ _ (s13.trans (zw hp _)) (RV.start (qw (fun a e=>R.ofree (s13.free e)) hp (dn r l u)) s13) h3
  | scr ns =>
   obtain ⟨a,rfl,q⟩:=vw
   refine .inl ⟨a,_,rfl,q.seq,fun p hp=>?_⟩
   exact k _ _ _ (s13.trans (zw hp _)) (RV.start (qw (fun a e=>R.ofree (s13.free e)) hp (dn (Reps.ints ns) l u)) s13) h3
  | tup ds =>
   obtain ⟨a,xs,rfl,q,r⟩:=vw
   refine .inr ⟨a,xs,rfl,q.1,by rw [r.length]; exact h3.1,fun p hp=>?_⟩
   exact k _ _ _ (s13.trans (zw hp _)) (RV.start (U3 hp (dn r l u)) s13) h3.2
  | _=>exact h3.elim
end
noncomputable def ui (r:EV):Prop:=match r.k with
 | .val=>zh r.d
 | .own=>False
 | .fre=>match r.d with
  | .lst ds=>zu ds
  | .dk _ ds=>zu ds
  | .dt _ ds=>zu ds
  | _=>False
 | .new=>True
theorem RV.lift {K:W.Frag} {H0 H:Hp} {O:List Addr} {r:EV} {v:V} (h:RV K H0 H [] r v) (p:ui r) (ho:∀ a,H0 a=none->a ∉ O):RV K H0 H O r v:=by
 obtain ⟨k,d⟩:=r
 cases k with
 | val=>exact Rep.pure _ _ p h
 | own=>exact p.elim
 | fre =>
  obtain ⟨a,e,m,n,c⟩:=h
  refine ⟨a,e,m,ho a m,?_⟩
  cases d with
  | lst ds=>obtain ⟨xs,q,r⟩:=c; exact ⟨xs,q,Reps.pure _ _ p r⟩
  | dk ks ds=>obtain ⟨xs,q,l,nd,r⟩:=c; exact ⟨xs,q,l,nd,Reps.pure _ _ p r⟩
  | dt ks ds=>obtain ⟨xs,q,l,nd,r⟩:=c; exact ⟨xs,q,l,nd,Reps.pure _ _ p r⟩
  | _=>exact c.elim
 | new=>exact RepN.to (Same.refl H) (fun a z=>⟨ho a z.2,z.2⟩) _ _ h
noncomputable abbrev FT:=List D->(EV->Prop)->Prop
noncomputable def spD (K:W.Frag) (n:Nat) (T:FT):Sp:=fun vs H Q _=>∃ ds φ,ds.length=n /\ Reps K H [] ds vs /\ T ds φ /\ ∀ v r H',Same H H'->RV K H H' [] r v->ui r->φ r->Q v H'
structure FD (P:Program) (w:World) (K:W.Frag) (mg:Str->Option Value) (base:Heap) (k:Nat) (x:Str) (ps:List Str) (T:FT):Prop where
 ex:∃ f fd,FnOk P w K mg base CX0 k f fd ps (spD K ps.length T) /\ wz K fd ps [] /\ W.keepIn K (.ref f)=true /\ mg x=some (.ref f)
noncomputable def Ml (n:Nat) (T:FT) (t:TDs):TD:=fun ρ φ=>t ρ fun rs=>Nat.beq rs.length n=true /\ T (rs.map EV.d) φ
section
variable {X:Cx} {x:Str} {ps:List Str} {T:FT} {k:Nat} {e:Expr} {es:List Expr} {t:TDs} {p pos:Pos}
theorem Qo {H₀:Hp}:∀ σ H Q,si X.K H₀ (Ml ps.length T t) σ H Q->Ke (spD X.K ps.length T) [] E0 (Js X.K H₀ t) σ H Q:=fun σ H Q q=>by
 obtain ⟨ρ,o,R,φ,hφ,kk⟩:=q
 refine ⟨ρ,o,R,_,hφ,fun vs rs H1 s1 rvs h1=>?_⟩
 show spD X.K ps.length T (vs ++ []) H1 Q E0
 rw [List.append_nil]
 refine ⟨rs.map EV.d,φ,by rw [zLm]; exact Nat.eq_of_beq_eq_true h1.1,rvs.reps0,h1.2,fun v r H2 s2 rv pr h2=>?_⟩
 exact kk v r H2 (s1.trans s2) (RV.start (rv.lift pr fun a e=>R.ofree (s1.free e)) s1) h2
theorem ya (F:FD X.prog X.w X.K X.mg X.base k x ps T) (hr:Room k X.A) (ha:EA Γ X (e :: es) t) (hg:Gl X x:=by rfl) (hdb:(x == ("__debug__" : Str))=false:=by decide)
  (he:starEach (e :: es) X.env=(false,eval e X.env) :: starEach es X.env:=by rfl) (hpl:(backTo pos (starEach es X.env)).any (·.1)=false:=by rfl):ED Γ X (.Call (.Name x p) (e :: es) [] pos) (Ml ps.length T t):=fun H₀=>by
 obtain ⟨f,fd,ok,b,kp,m⟩:=F.ex
 exact impE (Qd ok hr hg m kp b .nil Xn (ha H₀) hdb he hpl) Qo
noncomputable def Hx (K:W.Frag) (H:Hp) (O:List Addr):List D->List V->Prop
 | [],vs=>vs=[]
 | d :: ds,vs=>∃ v ws,vs=v :: ws /\ View K H O d v /\ Hx K H O ds ws
theorem RVs.views {K:W.Frag} {H0 H:Hp} {O:List Addr}:∀ {rs:List EV} {vs:List V},RVs K H0 H O rs vs->Hx K H O (rs.map EV.d) vs
 | [],_,h=>h
 | r :: rs,vs,h=>by
  obtain ⟨v,ws,e,q,t⟩:=h
  exact ⟨v,ws,e,q.view,t.views⟩
noncomputable def O1 (K:W.Frag) (r:List V->Hp->VK->Prop) (s:FT):Prop :=
 ∀ (H:Hp) (O:List Addr) (ds:List D) (vs:List V) (φ:EV->Prop) (Q:VK),(∀ a,H a=none->a ∉ O)->Hx K H O ds vs->s ds φ->(∀ v r H',Same H H'->RV K H H' O r v->φ r->Q v H')->r vs H Q
noncomputable def dCB (s:FT) (t:TDs):TD:=fun ρ φ=>t ρ fun rs=>s (rs.map EV.d) φ
theorem Qn {r:List V->Hp->VK->Prop} {s:FT} (hl:O1 X.K r s) {H₀:Hp}:∀ σ H Q,si X.K H₀ (dCB s t) σ H Q->tCB r (Js X.K H₀ t) σ H Q:=fun σ H Q q=>by
 obtain ⟨ρ,o,R,φ,hφ,kk⟩:=q
 refine ⟨ρ,o,R,_,hφ,fun vs rs H1 s1 rvs h1=>?_⟩
 exact hl H1 _ _ vs φ Q (fun a e=>R.ofree (s1.free e)) rvs.views h1 fun v r H2 s2 rv h2=>kk v r H2 (s1.trans s2) (rv.start s1) h2
theorem bu {id:String} {r:List V->Hp->VK->Prop} {s:FT} (hc:uv X (.builtin id) r) (hl:O1 X.K r s) (hm:X.mg x=none) (hv:bootBuiltins x=some (.builtin id)) (ha:EA Γ X (e :: es) t) (hg:Gl X x:=by rfl) (hn:x ≠ "__name__":=by decide) (hdb:(x == ("__debug__" : Str))=false:=by decide)
  (he:starEach (e :: es) X.env=(false,eval e X.env) :: starEach es X.env:=by rfl) (hpl:(backTo pos (starEach es X.env)).any (·.1)=false:=by rfl):ED Γ X (.Call (.Name x p) (e :: es) [] pos) (dCB s t):=fun H₀ =>
 impE (N5 hc hg hm hv (ha H₀) hn hdb he hpl) (Qn hl)
theorem jc {T:String} {r:List V->Hp->VK->Prop} {s:FT} (hc:uv X (.type T) r) (hl:O1 X.K r s) (hm:X.mg x=none) (hv:bootBuiltins x=some (.type T)) (ha:EA Γ X (e :: es) t) (hg:Gl X x:=by rfl) (hn:x ≠ "__name__":=by decide) (hdb:(x == ("__debug__" : Str))=false:=by decide)
  (he:starEach (e :: es) X.env=(false,eval e X.env) :: starEach es X.env:=by rfl) (hpl:(backTo pos (starEach es X.env)).any (·.1)=false:=by rfl):ED Γ X (.Call (.Name x p) (e :: es) [] pos) (dCB s t):=fun H₀ =>
 impE (Qc hc hg hm hv (ha H₀) hn hdb he hpl) (Qn hl)
noncomputable def sLen:FT:=fun ds φ=>match ds with
 | [.lst l]=>φ (dv (.int l.length))
 | [.tup l]=>φ (dv (.int l.length))
 | [.scr l]=>φ (dv (.int l.length))
 | [.str z]=>z.length <= sizeLine /\ φ (dv (.int z.length))
 | _=>False
theorem Nd:O1 X.K (fun xs H Q=>(∃ p ys,xs=[.ref p] /\ (SqL X.K H p ys \/ SqT X.K H p ys) /\ Q (.int ys.length) H) \/ ∃ z,xs=[.str z] /\ z.length <= sizeLine /\ Q (.int z.length) H) sLen:=by
 intro H O ds vs φ Q ho hv h k
 unfold sLen at h
 split at h
 ·obtain ⟨v,ws,rfl,⟨a,xs,rfl,q,r⟩,rfl⟩:=hv
  refine .inl ⟨a,xs,rfl,.inl (SqL.of q),?_⟩
  rw [r.length]
  exact k _ _ H (Same.refl H) (by exact rfl) h
 ·obtain ⟨v,ws,rfl,⟨a,xs,rfl,q,r⟩,rfl⟩:=hv
  refine .inl ⟨a,xs,rfl,.inr q.1,?_⟩
  rw [r.length]
  exact k _ _ H (Same.refl H) (by exact rfl) h
 ·obtain ⟨v,ws,rfl,⟨a,rfl,q⟩,rfl⟩:=hv
  refine .inl ⟨a,_,rfl,.inl q.seq,?_⟩
  rw [zLm]
  exact k _ _ H (Same.refl H) (by exact rfl) h
 ·obtain ⟨v,ws,rfl,hz,rfl⟩:=hv
  cases (show v=_ from hz)
  exact .inr ⟨_,rfl,h.1,k _ _ H (Same.refl H) (by exact rfl) h.2⟩
 ·exact h.elim
theorem wf (hm:X.mg "len" = none) (ha:EA Γ X (e :: es) t) (hg:Gl X "len":=by rfl) (he:starEach (e :: es) X.env=(false,eval e X.env) :: starEach es X.env:=by rfl) (hpl:(backTo pos (starEach es X.env)).any (·.1)=false:=by rfl):ED Γ X (.Call (.Name "len" p) (e :: es) [] pos) (dCB sLen t) :=
 bu (Yz.or Yy) Nd hm PySem.boot_len ha hg (by decide) (by decide) he hpl
end
noncomputable def EV.sto (r:EV):EV:=⟨match r.k with
 | .fre=>.own
 | .new=>.val
 | k=>k,r.d⟩
noncomputable def EV.ret (r:EV):EV:=⟨match r.k with
 | .own=>.fre
 | k=>k,r.d⟩
noncomputable def setS:DE->Nat->EV->DE
 | [],_,_=>[]
 | _ :: r,0,v=>some v :: r
 | x :: r,i + 1,v=>x :: setS r i v
theorem xq:∀ (ρ:DE) (i:Nat) (v:EV),setS ρ i v=ρ.set i (some v)
 | [],_,_=>rfl
 | _ :: _,0,_=>rfl
 | x :: r,i + 1,v=>by rw [setS,xq r i v,List.set_cons_succ]
theorem Con.grow {K:W.Frag} {H H':Hp} {O O':List Addr} {d:D} {a:Addr} (h:Con K H O d a) (s:∀ u,H a=some u->H' a=some u) (g:Grow O O' H H'):Con K H' O' d a:=by
 cases d with
 | lst ds=>obtain ⟨xs,q,r⟩:=h; exact ⟨xs,s _ q,Reps.grow g _ _ r⟩
 | dk ks ds=>obtain ⟨xs,q,l,n,r⟩:=h; exact ⟨xs,s _ q,l,n,Reps.grow g _ _ r⟩
 | dt ks ds=>obtain ⟨xs,q,l,n,r⟩:=h; exact ⟨xs,s _ q,l,n,Reps.grow g _ _ r⟩
 | _=>exact h.elim
theorem Con.mtb {K:W.Frag} {H:Hp} {O:List Addr} {d:D} {a:Addr} (h:Con K H O d a):(∃ u,H a=some u) /\ (∀ xs,H a ≠ some (.tup xs)) /\ ∀ ob u,H a ≠ some (.frz ob u):=by
 cases d with
 | lst ds=>obtain ⟨xs,q,r⟩:=h; exact ⟨⟨_,q⟩,(fun xs z=>by rw [q] at z; cases z),(fun ob u z=>by rw [q] at z; cases z)⟩
 | dk ks ds=>obtain ⟨xs,q,r⟩:=h; exact ⟨⟨_,q⟩,(fun xs z=>by rw [q] at z; cases z),(fun ob u z=>by rw [q] at z; cases z)⟩
 | dt ks ds=>obtain ⟨xs,q,r⟩:=h; exact ⟨⟨_,q⟩,(fun xs z=>by rw [q] at z; cases z),(fun ob u z=>by rw [q] at z; cases z)⟩
 | _=>exact h.elim
section
variable {K:W.Frag} {H₀ H H':Hp} {σ:St} {ρ:DE} {o:List (Nat × Addr)}
theorem REnv.setV (R:REnv K H₀ H σ ρ o) (i:Nat) {d:D} {v:V} (h:Rep K H (o.map Prod.snd) d v):REnv K H₀ H (σ.set i (some v)) (setS ρ i (dv d)) o where
 same:=R.same
 fresh:=R.fresh
 trk:=R.trk
 mtb:=R.mtb
 nda:=R.nda
 len:=by rw [xq,List.length_set,List.length_set]; exact R.len
 slots:=fun j r e=>by
  rw [xq] at e
  by_cases hj:j=i
  ·subst hj
   have hl:j < ρ.length:=by
    rcases Nat.lt_or_ge j ρ.length with z | z
    ·exact z
    ·rw [List.getElem?_eq_none (by rw [List.length_set]; exact z)] at e
     cases e
   rw [List.getElem?_set_self hl] at e
   cases e
   exact ⟨v,List.getElem?_set_self (by rw [R.len]; exact hl),.inl ⟨rfl,h⟩⟩
  ·rw [List.getElem?_set_ne (Ne.symm hj)] at e
   obtain ⟨w,ew,q⟩:=R.slots j r e
   exact ⟨w,by rw [List.getElem?_set_ne (Ne.symm hj)]; exact ew,q⟩
theorem REnv.setO (R:REnv K H₀ H σ ρ o) (s:Same H H') (i:Nat) {d:D} {a:Addr} (ha:H a=none) (c:Con K H' (a :: o.map Prod.snd) d a) :
  REnv K H₀ H' (σ.set i (some (.ref a))) (setS ρ i (dO d)) ((i,a) :: o) /\ Grow (o.map Prod.snd) (((i,a) :: o).map Prod.snd) H H':=by
 have g:Grow (o.map Prod.snd) (((i,a) :: o).map Prod.snd) H H':=by
  refine ⟨fun b u h n=>⟨s b u h,fun z=>?_⟩,fun b xs h=>s b _ h,fun b ob u h=>s b _ h⟩
  rw [List.map_cons] at z
  rcases List.mem_cons.mp z with z | z
  ·exact zm h ha z
  ·exact n z
 refine ⟨?_,g⟩
 have R':=R.to s
 exact {
  same:=R'.same
  fresh:=fun p hp=>by
   rcases List.mem_cons.mp hp with rfl | hp
   ·exact R.same.free ha
   ·exact R.fresh p hp
  trk:=fun p hp=>by
   rcases List.mem_cons.mp hp with rfl | hp
   ·exact c.mtb.1
   ·exact R'.trk p hp
  mtb:=fun p hp=>by
   rcases List.mem_cons.mp hp with rfl | hp
   ·exact c.mtb.2
   ·exact R'.mtb p hp
  nda:=by
   rw [List.map_cons,List.nodup_cons]
   exact ⟨fun z=>R.ofree ha z,R.nda⟩
  len:=by rw [xq,List.length_set,List.length_set]; exact R.len
  slots:=fun j r e=>by
   rw [xq] at e
   by_cases hj:j=i
   ·subst hj
    have hl:j < ρ.length:=by
     rcases Nat.lt_or_ge j ρ.length with z | z
     ·exact z
     ·rw [List.getElem?_eq_none (by rw [List.length_set]; exact z)] at e
      cases e
    rw [List.getElem?_set_self hl] at e
    cases e
    exact ⟨_,List.getElem?_set_self (by rw [R.len]; exact hl),.inr ⟨rfl,a,rfl,List.mem_cons_self ..,c⟩⟩
   ·rw [List.getElem?_set_ne (Ne.symm hj)] at e
    obtain ⟨w,ew,q⟩:=R.slots j r e
    refine ⟨w,by rw [List.getElem?_set_ne (Ne.symm hj)]; exact ew,?_⟩
    rcases q with ⟨k,q⟩ | ⟨k,a',e1,m,c'⟩
    ·exact .inl ⟨k,Rep.grow g _ _ q⟩
    ·exact .inr ⟨k,a',e1,List.mem_cons_of_mem _ m,c'.grow (fun u q=>s _ _ q) g⟩ }
theorem REnv.put (R:REnv K H₀ H σ ρ o) (s:Same H H') (i:Nat) {r:EV} {v:V} (h:RV K H H' (o.map Prod.snd) r v) (hk:r.k ≠ .own) :
  ∃ o',REnv K H₀ H' (σ.set i (some v)) (setS ρ i r.sto) o' /\ Grow (o.map Prod.snd) (o'.map Prod.snd) H H':=by
 obtain ⟨k,d⟩:=r
 cases k with
 | val=>exact ⟨_,(R.to s).setV i h,Grow.same s⟩
 | own=>exact absurd rfl hk
 | fre =>
  obtain ⟨a,rfl,m,n,c⟩:=h
  exact ⟨_,R.setO s i m c⟩
 | new=>exact ⟨_,(R.to s).setV i (RepN.rep (fun a z=>z.1) _ _ h),Grow.same s⟩
theorem V7:∀ {o:List (Nat × Addr)},(o.map Prod.snd).Nodup->∀ {p q:Nat × Addr},p ∈ o->q ∈ o->p.2=q.2->p=q
 | [],_,_,_,h,_,_=>nomatch h
 | x :: o,nd,p,q,hp,hq,e=>by
  rw [List.map_cons,List.nodup_cons] at nd
  rcases List.mem_cons.mp hp with h1 | hp
  ·rcases List.mem_cons.mp hq with h2 | hq
   ·rw [h1,h2]
   ·exact absurd (List.mem_map.mpr ⟨q,hq,by rw [<- e,h1]⟩) nd.1
  ·rcases List.mem_cons.mp hq with h2 | hq
   ·exact absurd (List.mem_map.mpr ⟨p,hp,by rw [e,h2]⟩) nd.1
   ·exact V7 nd.2 hp hq e
theorem REnv.chg (R:REnv K H₀ H σ ρ o) {i:Nat} {a:Addr} {d d':D} {ho:HO} (hs:ρ[i]?=some (some (dO d))) (hσ:σ[i]?=some (some (.ref a))) (hm:(i,a) ∈ o) (hho:(∀ xs,ho ≠ .tup xs) /\ ∀ ob u,ho ≠ .frz ob u)
  (c:(∀ ds xs,Reps K H (o.map Prod.snd) ds xs->Reps K (upd H a ho) (o.map Prod.snd) ds xs)->Con K (upd H a ho) (o.map Prod.snd) d' a) :
  REnv K H₀ (upd H a ho) σ (setS ρ i (dO d')) o /\ Grow (o.map Prod.snd) (o.map Prod.snd) H (upd H a ho):=by
 have ha:a ∈ o.map Prod.snd:=List.mem_map.mpr ⟨_,hm,rfl⟩
 obtain ⟨m1,m2⟩:=R.mtb _ hm
 have g:Grow (o.map Prod.snd) (o.map Prod.snd) H (upd H a ho) :=
  ⟨fun b u h n=>⟨by rw [y0 (show b ≠ a from fun z=>n (by rw [z]; exact ha))]; exact h,n⟩,fun b xs h=>by rw [y0 (show b ≠ a from fun z=>m1 xs (by rw [<- z]; exact h))]; exact h,fun b ob u h=>by rw [y0 (show b ≠ a from fun z=>m2 ob u (by rw [<- z]; exact h))]; exact h⟩
 refine ⟨?_,g⟩
 exact {
  same:=fun b u h=>by
   have:b ≠ a:=fun z=>by
    have:=R.fresh _ hm
    rw [<- z,h] at this
    cases this
   rw [y0 this]
   exact R.same b u h
  fresh:=R.fresh
  trk:=fun p hp=>by
   by_cases e:p.2=a
   ·exact ⟨ho,by rw [e]; exact zi⟩
   ·rw [y0 e]
    exact R.trk p hp
  mtb:=fun p hp=>by
   by_cases e:p.2=a
   ·rw [e,zi]
    exact ⟨fun xs z=>hho.1 xs (Option.some.inj z),fun ob u z=>hho.2 ob u (Option.some.inj z)⟩
   ·rw [y0 e]
    exact R.mtb p hp
  nda:=R.nda
  len:=by rw [xq,List.length_set]; exact R.len
  slots:=fun j r e=>by
   rw [xq] at e
   by_cases hj:j=i
   ·subst hj
    have hl:j < ρ.length:=(List.getElem?_eq_some_iff.mp hs).1
    rw [List.getElem?_set_self hl] at e
    cases e
    obtain ⟨v,ev,q⟩:=R.slots j _ hs
    rcases q with ⟨k,_⟩ | ⟨_,a',e1,m',_⟩
    ·cases k
    ·have haa:a'=a:=by
      rw [hσ] at ev
      cases ev
      cases e1
      rfl
     subst haa
     exact ⟨v,ev,.inr ⟨rfl,a',e1,hm,c fun ds xs q=>Reps.grow g _ _ q⟩⟩
   ·rw [List.getElem?_set_ne (Ne.symm hj)] at e
    obtain ⟨w,ew,q⟩:=R.slots j r e
    refine ⟨w,ew,?_⟩
    rcases q with ⟨k,q⟩ | ⟨k,a',e1,m',c'⟩
    ·exact .inl ⟨k,Rep.grow g _ _ q⟩
    ·refine .inr ⟨k,a',e1,m',c'.grow (fun u q=>?_) g⟩
     have hne:a' ≠ a:=fun z=>by
      exact hj (congrArg Prod.fst (V7 R.nda m' hm z))
     rw [y0 hne]
     exact q }
end
section
variable {X:Cx} {st:Stmt} {rest:List Stmt} {t u:TDS} {e:Expr} {te:TD} {tc:TDb} {pos:Pos}
noncomputable def sNil:TDS:=fun ρ Z=>Z.nx ρ
noncomputable def sSeq (t u:TDS):TDS:=fun ρ Z=>t ρ { Z with nx:=fun ρ'=>u ρ' Z }
theorem xi:SDs Γ X [] sNil:=fun H₀=>Yj Xj fun D σ H h=>by
 obtain ⟨ρ,o,R,Z,hZ,k1,_⟩:=h
 exact k1 ρ σ H o Grow.refl R hZ
theorem zl (h1:SD Γ X st t) (h2:SDs Γ X rest u):SDs Γ X (st :: rest) (sSeq t u):=fun H₀=>Yj (xx (h1 H₀) (h2 H₀)) fun D σ H h=>by
 obtain ⟨ρ,o,R,Z,hZ,k1,k2,k3,k4⟩:=h
 refine ⟨ρ,o,R,_,hZ,fun ρ' σ' H' o' g R' q=>?_,k2,k3,k4⟩
 exact ⟨ρ',o',R',Z,q,fun ρ2 σ2 H2 o2 g2 R2 q2=>k1 ρ2 σ2 H2 o2 (g.trans g2) R2 q2,fun ρ2 σ2 H2 o2 g2 R2 q2=>k2 ρ2 σ2 H2 o2 (g.trans g2) R2 q2,fun ρ2 σ2 H2 o2 g2 R2 q2=>k3 ρ2 σ2 H2 o2 (g.trans g2) R2 q2,k4⟩
theorem zx (h1:SD Γ X st t):SDs Γ X [st] t:=fun H₀=>k8 (h1 H₀)
theorem Xg:SD Γ X (.Continue pos) (fun ρ Z=>Z.ct ρ):=fun H₀=>impS Xk fun D σ H h=>by
 obtain ⟨ρ,o,R,Z,hZ,_,_,k3,_⟩:=h
 exact k3 ρ σ H o Grow.refl R hZ
theorem dh:SD Γ X st (fun _ _=>False):=fun H₀=>impS N1 fun D σ H h=>by
 obtain ⟨_,_,_,_,hZ,_⟩:=h
 exact hZ.elim
noncomputable def sRet (te:TD):TDS:=fun ρ Z=>te ρ fun r=>Z.rt r.ret
theorem RV.ret {K:W.Frag} {H₀ H H':Hp} {σ:St} {ρ:DE} {o:List (Nat × Addr)} (R:REnv K H₀ H σ ρ o) {r:EV} {v:V} (h:RV K H H' (o.map Prod.snd) r v):RV K H₀ H' [] r.ret v:=by
 obtain ⟨k,d⟩:=r
 cases k with
 | val=>exact Rep.sub (O':=[]) (fun _ z=>absurd z (by simp)) _ _ h
 | own =>
  obtain ⟨a,e,m,c⟩:=h
  obtain ⟨p,hp,ep⟩:=List.mem_map.mp m
  subst ep
  exact ⟨p.2,e,R.fresh p hp,by simp,c.sub fun b hb=>by
   have:b=p.2:=by simpa using hb
   rw [this]
   exact m⟩
 | fre =>
  obtain ⟨a,e,m,n,c⟩:=h
  exact ⟨a,e,R.same.free m,by simp,c.sub fun b hb=>by
   have:b=a:=by simpa using hb
   rw [this]
   exact List.mem_cons_self ..⟩
 | new=>exact RepN.to (Same.refl H') (fun a z=>⟨by simp,R.same.free z.2⟩) _ _ h
theorem yf (he:ED Γ X e te):SD Γ X (.Return (some e) pos) (sRet te):=fun H₀=>impS (Ub (he H₀)) fun D σ H h=>by
 obtain ⟨ρ,o,R,Z,hZ,k1,k2,k3,k4⟩:=h
 refine ⟨ρ,o,R,_,hZ,fun v r H1 s1 rv h1=>?_⟩
 exact k4 v r.ret H1 (R.same.trans s1) (RV.ret R rv) h1
noncomputable def sIf (tc:TDb) (t u:TDS):TDS:=fun ρ Z=>tc ρ fun c=>(c=true->t ρ Z) /\ (c=false->u ρ Z)
theorem we {c:Expr} {a b:List Stmt} (hc:ET Γ X c tc) (ha:SDs Γ X a t) (hb:SDs Γ X b u):SD Γ X (.If c a b pos) (sIf tc t u):=fun H₀=>impS (J4 (hc H₀) (ha H₀) (hb H₀)) fun D σ H h=>by
 obtain ⟨ρ,o,R,Z,hZ,k1,k2,k3,k4⟩:=h
 refine ⟨ρ,o,R,_,hZ,fun c H1 s1 h1=>?_⟩
 have g:Grow (o.map Prod.snd) (o.map Prod.snd) H H1:=Grow.same s1
 have kk:∀ {v:TDS},v ρ Z->Ni X.K H₀.1 v D σ H1:=fun hv=>⟨ρ,o,R.to s1,Z,hv,fun ρ2 σ2 H2 o2 g2 R2 q2=>k1 ρ2 σ2 H2 o2 (g.trans g2) R2 q2,fun ρ2 σ2 H2 o2 g2 R2 q2=>k2 ρ2 σ2 H2 o2 (g.trans g2) R2 q2,fun ρ2 σ2 H2 o2 g2 R2 q2=>k3 ρ2 σ2 H2 o2 (g.trans g2) R2 q2,k4⟩
 cases c with
 | true=>exact iteT (kk (h1.1 rfl))
 | false=>exact iteF (kk (h1.2 rfl))
noncomputable def sCut (t:TDS):TDS:=fun ρ Z=>∃ J:DE->Prop,t ρ { Z with nx:=J } /\ ∀ ρ',J ρ'->Z.nx ρ'
theorem ym (h:SD Γ X st t):SD Γ X st (sCut t):=fun H₀=>impS (h H₀) fun D σ H h=>by
 obtain ⟨ρ,o,R,Z,⟨J,hZ,hJ⟩,k1,k2,k3,k4⟩:=h
 exact ⟨ρ,o,R,_,hZ,fun ρ2 σ2 H2 o2 g2 R2 q2=>k1 ρ2 σ2 H2 o2 g2 R2 (hJ ρ2 q2),k2,k3,k4⟩
noncomputable def Gp (te:TD):TDS:=fun ρ Z=>te ρ fun _=>Z.nx ρ
theorem Kl (he:ED Γ X e te) (hs:swapsWith e none pos.line X.env=pure false:=by rfl):SD Γ X (.Expr e pos) (Gp te):=fun H₀=>impS (vo (he H₀) hs) fun D σ H h=>by
 obtain ⟨ρ,o,R,Z,hZ,k1,k2,k3,k4⟩:=h
 exact ⟨ρ,o,R,_,hZ,fun v r H1 s1 rv h1=>k1 ρ σ H1 o (Grow.same s1) (R.to s1) h1⟩
noncomputable def sSet (i:Nat) (te:TD):TDS:=fun ρ Z=>te ρ fun r=>(match r.k with | .own=>False | _=>True) /\ Z.nx (setS ρ i r.sto)
theorem vf {r:EV} (h:match r.k with | .own=>False | _=>True):r.k ≠ .own:=by
 obtain ⟨k,d⟩:=r
 cases k with
 | own=>exact h.elim
 | val=>exact fun z=>nomatch z
 | fre=>exact fun z=>nomatch z
 | new=>exact fun z=>nomatch z
theorem x8 (i:Nat) {x:Str} {pos':Pos} (hN:X.N.Nodup) (he:ED Γ X e te) (hi:X.N[i]?=some x:=by rfl) (hx:Loc X.env.scope x:=by first | exact Or.inl rfl | exact Or.inr rfl) (hs:swapsWith e (some (.Name x pos')) pos.line X.env=pure false:=by rfl)
  (hf:X.fn x=true \/ X.env.scope.names.lookup x=some .local:=by first | exact .inl rfl | exact .inr rfl | assumption):SD Γ X (.Assign [.Name x pos'] e pos) (sSet i te):=fun H₀=>impS (rg hN hi hx (he H₀) hs hf) fun D σ H h=>by
 obtain ⟨ρ,o,R,Z,hZ,k1,k2,k3,k4⟩:=h
 refine ⟨ρ,o,R,_,hZ,fun v r H1 s1 rv h1=>?_⟩
 obtain ⟨o',R',g⟩:=R.put s1 i rv (vf h1.1)
 exact k1 _ _ H1 o' g R' h1.2
noncomputable abbrev TGD:=D->DE->(DE->Prop)->Prop
noncomputable def gf (K:W.Frag) (g2:TG) (g:TGD):Prop:=∀ (H₀ H:Hp) (σ:St) (ρ:DE) (o:List (Nat × Addr)) (d:D) (v:V) (ψ:DE->Prop) (Q:St->Hp->Prop),REnv K H₀ H σ ρ o->Rep K H (o.map Prod.snd) d v->g d ρ ψ ->
 (∀ ρ' σ',REnv K H₀ H σ' ρ' o->ψ ρ'->Q σ' H)->g2 v σ H Q
noncomputable def gN (i:Nat):TGD:=fun d ρ ψ=>ψ (setS ρ i (dv d))
theorem w5 {K:W.Frag} (i:Nat):gf K (ug i) (gN i):=fun H₀ H σ ρ o d v ψ Q R h hg k=>k _ _ (R.setV i h) hg
noncomputable def gT2 (i j:Nat):TGD:=fun d ρ ψ=>match d with
 | .tup [a,b]=>ψ (setS (setS ρ i (dv a)) j (dv b))
 | _=>False
theorem V9 {K:W.Frag} (i j:Nat):gf K (gTup K 2 (qg (ug i) (qg (ug j) gNil))) (gT2 i j):=fun H₀ H σ ρ o d v ψ Q R h hg k=>by
 unfold gT2 at hg
 split at hg
 ·rename_i a b
  obtain ⟨p,xs,rfl,q,r⟩:=h
  obtain ⟨v1,r1,rfl,h1,v2,r2,rfl,h2,rfl⟩:=r
  refine ⟨p,_,rfl,q.1,rfl,v1,_,rfl,v2,_,rfl,rfl,?_⟩
  have R1:=R.setV i h1
  have R2:=R1.setV j h2
  exact k _ _ R2 hg
 ·exact hg.elim
noncomputable def sUn (te:TD) (g:TGD):TDS:=fun ρ Z=>te ρ fun r=>(match r.k with | .own=>False | _=>True) /\ g r.d ρ Z.nx
theorem Dy {tg:Expr} {g2:TG} {g:TGD} (he:ED Γ X e te) (hg:PG X tg g2) (hl:gf X.K g2 g) (hs:swapsWithSole [tg] e pos.line X.env=pure false:=by rfl) (hw:swappedStores [tg] e X.env=pure none:=by rfl)
  (h1:(assignEach [tg] X.env).map (·.2)=[assign tg X.env]:=by rfl):SD Γ X (.Assign [tg] e pos) (sUn te g):=fun H₀=>impS (Uc (he H₀) hg hs hw h1) fun D σ H h=>by
 obtain ⟨ρ,o,R,Z,hZ,k1,k2,k3,k4⟩:=h
 refine ⟨ρ,o,R,_,hZ,fun v r H1 s1 rv h1=>?_⟩
 exact hl H₀.1 H1 σ ρ o r.d v _ _ (R.to s1) (rv.solid (vf h1.1)) h1.2 fun ρ' σ' R' q=>k1 ρ' σ' H1 o (Grow.same s1) R' q
noncomputable def sWh (tc:TDb) (tb:TDS):TDS:=fun ρ Z=>∃ (P:DE->Prop) (μ:DE->Nat),P ρ /\ ∀ ρ,P ρ->tc ρ fun c =>
 (c=true->tb ρ { Z with nx:=fun ρ'=>P ρ' /\ μ ρ' < μ ρ,ct:=fun ρ'=>P ρ' /\ μ ρ' < μ ρ,bk:=Z.nx }) /\ (c=false->Z.nx ρ)
theorem U0 {c:Expr} {body:List Stmt} {tb:TDS} (hc:ET Γ X c tc) (hb:SDs Γ X body tb) (hp:PassesOwn (model X.prog X.w) X.A X.env X.xe:=by exact PassesOwn.never):SD Γ X (.While c body [] pos) (sWh tc tb):=fun H₀=>impS (Ua hp (hc H₀) (hb H₀)) fun D σ H h=>by
 obtain ⟨ρ,o,R,Z,⟨P,μ,hP,turn⟩,k1,k2,k3,k4⟩:=h
 refine ⟨fun m σ' H'=>∃ ρ' o',Grow (o.map Prod.snd) (o'.map Prod.snd) H H' /\ REnv X.K H₀ H' σ' ρ' o' /\ P ρ' /\ μ ρ'=m,⟨_,ρ,o,Grow.refl,R,hP,rfl⟩,?_⟩
 rintro m σ1 H1 ⟨ρ1,o1,g1,R1,p1,rfl⟩
 refine ⟨ρ1,o1,R1,_,turn ρ1 p1,fun c H2 s2 h2=>?_⟩
 have g2:=g1.trans (Grow.same (O:=o1.map Prod.snd) s2)
 cases c with
 | true =>
  refine iteT ⟨fun σ' H'=>∃ ρ' o',Grow (o.map Prod.snd) (o'.map Prod.snd) H H' /\ REnv X.K H₀ H' σ' ρ' o' /\ P ρ' /\ μ ρ' < μ ρ1,fun σ' H' ⟨ρ',o',g,R',p,l⟩=>⟨_,l,ρ',o',g,R',p,rfl⟩,?_⟩
  exact ⟨ρ1,o1,R1.to s2,_,h2.1 rfl,fun ρ' σ' H' o' g R' q=>⟨ρ',o',g2.trans g,R',q.1,q.2⟩,fun ρ' σ' H' o' g R' q=>k1 ρ' σ' H' o' (g2.trans g) R' q,fun ρ' σ' H' o' g R' q=>⟨ρ',o',g2.trans g,R',q.1,q.2⟩,k4⟩
 | false=>exact iteF (k1 ρ1 σ1 H2 o1 g2 (R1.to s2) (h2.2 rfl))
structure ItD (K:W.Frag) (J:It) (ds:List D) (P:Hp->List Addr->Prop):Prop where
 go:∀ (H:Hp) (O:List Addr) (i:Nat) (d:D),P H O->ds[i]?=some d->J.go i H /\ ∀ x H',J.yld i H x H'->Same H H' /\ Rep K H' O d x
 stop:∀ (H:Hp) (O:List Addr),P H O->J.stop ds.length H
 keep:∀ (O O':List Addr) (H H':Hp),P H O->Grow O O' H H'->P H' O'
noncomputable abbrev TID:=DE->(List D->Prop)->Prop
noncomputable def Jq (K:W.Frag) (H₀:Hp) (t:TID):TI:=fun σ H R=>∃ ρ o,REnv K H₀ H σ ρ o /\ ∃ φ,t ρ φ /\ ∀ J ds P H',Same H H'->ItD K J ds P->P H' (o.map Prod.snd)->φ ds->R J H'
noncomputable def EI (G:Hp->Prop) (X:Cx) (tg iter:Expr) (t:TID):Prop:=∀ H₀:{H:Hp // G H},PI X tg iter (Jq X.K H₀.1 t)
noncomputable def sFor (ti:TID) (g:TGD) (tb:TDS):TDS:=fun ρ Z=>ti ρ fun ds=>∃ P:Nat->DE->Prop,P 0 ρ /\ (∀ i d ρ,ds[i]?=some d->P i ρ->g d ρ fun ρ'=>tb ρ' { Z with nx:=P (i + 1),ct:=P (i + 1),bk:=Z.nx }) /\ ∀ ρ,P ds.length ρ->Z.nx ρ
theorem gm {tg iter:Expr} {body:List Stmt} {ti:TID} {g2:TG} {g:TGD} {tb:TDS} (hi:EI Γ X tg iter ti) (hg:PG X tg g2) (hl:gf X.K g2 g) (hb:SDs Γ X body tb) (hc:X.calm=true:=by rfl) (hp:PassesOwn (model X.prog X.w) X.A X.env X.xe:=by exact PassesOwn.never)
  (hs:∀ x,foldedSetIterable iter X.env x=pure x:=by intro _; rfl):SD Γ X (.For tg iter body [] pos) (sFor ti g tb):=fun H₀=>impS (Fn hp hc (hi H₀) hg (hb H₀) hs) fun D σ H h=>by
 obtain ⟨ρ,o,R,Z,hZ,k1,k2,k3,k4⟩:=h
 refine ⟨ρ,o,R,_,hZ,fun J ds PJ H1 s1 I hP ⟨P,p0,turn,fin⟩=>?_⟩
 refine ⟨fun i m σ' H'=>m=ds.length - i /\ i <= ds.length /\ ∃ ρ' o',Grow (o.map Prod.snd) (o'.map Prod.snd) H1 H' /\ REnv X.K H₀ H' σ' ρ' o' /\ P i ρ',⟨_,rfl,Nat.zero_le _,ρ,o,Grow.refl,R.to s1,p0⟩,?_⟩
 rintro i m σ' H' ⟨rfl,hi',ρ',o',g',R',p'⟩
 have hP':=I.keep _ _ _ _ hP g'
 have gg:Grow (o.map Prod.snd) (o'.map Prod.snd) H H':=(Grow.same s1).trans g'
 by_cases hlt:i < ds.length
 ·have ed:ds[i]?=some ds[i]:=by simp [hlt]
  obtain ⟨j1,j2⟩:=I.go H' _ i _ hP' ed
  refine .inr ⟨j1,fun σ2 H2=>∃ ρ2 o2,Grow (o.map Prod.snd) (o2.map Prod.snd) H1 H2 /\ REnv X.K H₀ H2 σ2 ρ2 o2 /\ P (i + 1) ρ2,fun σ2 H2 ⟨ρ2,o2,g2,R2,p2⟩=>⟨_,(by omega:ds.length - (i + 1) < ds.length - i),rfl,hlt,ρ2,o2,g2,R2,p2⟩,fun x H2 y=>?_⟩
  obtain ⟨s2,rp⟩:=j2 x H2 y
  refine hl H₀.1 H2 σ' ρ' o' _ x _ _ (R'.to s2) rp (turn i _ ρ' ed p') fun ρ3 σ3 R3 q3=>?_
  have g13:Grow (o.map Prod.snd) (o'.map Prod.snd) H1 H2:=g'.trans (Grow.same s2)
  have gg3:Grow (o.map Prod.snd) (o'.map Prod.snd) H H2:=gg.trans (Grow.same s2)
  exact ⟨ρ3,o',R3,_,q3,fun ρ4 σ4 H4 o4 g4 R4 q4=>⟨ρ4,o4,g13.trans g4,R4,q4⟩,fun ρ4 σ4 H4 o4 g4 R4 q4=>k1 ρ4 σ4 H4 o4 (gg3.trans g4) R4 q4,fun ρ4 σ4 H4 o4 g4 R4 q4=>⟨ρ4,o4,g13.trans g4,R4,q4⟩,k4⟩
 ·have e:i=ds.length:=by omega
  subst e
  exact .inl ⟨I.stop H' _ hP',k1 ρ' σ' H' o' gg R' (fin ρ' p')⟩
end
section
variable {X:Cx} {tg e:Expr} {te:TD} {t:TDs} {pos:Pos}
theorem impI {iter:Expr} {t t':TI} (h:PI X tg iter t) (i:∀ σ H R,t' σ H R->t σ H R):PI X tg iter t':=fun pn s σ H R I q=>h pn s σ H R I (i σ H R q)
noncomputable def PV (X:Cx) (tg:Expr) (r:V->Hp->(It->Hp->Prop)->Prop):Prop :=
 ∀ (pn:List (Addr × Obj)) (s:Shared) (σ:St) (H:Hp) (x:V) (v:Value) (R:It->Hp->Prop),Inv X pn σ H s->RelV x v->r x H R->wpAny (model X.prog X.w) X.A (pyIter v) (PIE X pn σ tg R) X.xe s
theorem C5 {l:Expr} {tl:TE} {r:V->Hp->(It->Hp->Prop)->Prop} (hl:PE X l tl) (hv:PV X tg r):PI X tg l (fun σ H R=>tl σ H fun x H1=>r x H1 R):=fun pn s σ H R I h =>
 thn (hl pn s σ H _ I h) fun v s1 ⟨x,H1,I1,r1,q1⟩=>hv pn s1 σ H1 x v R I1 r1 q1
theorem J1:PV X tg (fun x H R=>∃ a,x=.ref a /\ (∃ xs,SqL X.K H a xs) /\ R (Itl X.K a) H):=by
 intro pn s1 σ H1 x v R I1 r1 q1
 obtain ⟨a,e,⟨xs,hq⟩,q⟩:=q1
 subst e
 cases r1
 obtain ⟨its,rv,p,hz⟩:=I1.list hq
 refine wpAny_pyIter_list p.isList ?_
 refine ⟨s1.heap.objs.size,[s1.heap.objs.size],_,_,H1,rfl,I1.kept (t':=s1.toks) fun b o e=>Heap.get?_push_of_some _ e,R7 a _,⟨_,Heap.get?_push_size _ rfl,rfl,rfl⟩,fun b hb=>?_,q⟩
 have e:b=s1.heap.objs.size:=by simpa using hb
 subst e
 exact I1.fpOk (Nat.le_refl _) (I1.hok.fresh (Nat.le_refl _))
theorem Fj:PV X tg (fun x H R=>∃ a,x=.ref a /\ (∃ xs,SqT X.K H a xs) /\ R (Itt X.K a) H):=by
 intro pn s1 σ H1 x v R I1 r1 q1
 obtain ⟨a,e,⟨xs,hq⟩,q⟩:=q1
 subst e
 cases r1
 obtain ⟨its,rv,p,hz⟩:=I1.tuple hq
 refine wpAny_pyIter_tuple (show s1.heap.IsTuple a its.toArray from p) ?_
 refine ⟨s1.heap.objs.size,[s1.heap.objs.size],_,_,H1,rfl,I1.kept (t':=s1.toks) fun b o e=>Heap.get?_push_of_some _ e,T7 a _,⟨_,Heap.get?_push_size _ rfl,rfl,rfl⟩,fun b hb=>?_,q⟩
 have e:b=s1.heap.objs.size:=by simpa using hb
 subst e
 exact I1.fpOk (Nat.le_refl _) (I1.hok.fresh (Nat.le_refl _))
theorem Fk:PV X tg (fun x H R=>∃ z,x=.str z /\ R (Itv z.cps.size (Hy z)) H):=by
 intro pn s1 σ H1 x v R I1 r1 q1
 obtain ⟨z,e,q⟩:=q1
 subst e
 obtain ⟨t,rfl⟩:=r1
 have lay:∀ (T:String),(∀ A:Around,A.handled=none->Walks X.prog X.w A s1.heap.objs.size [s1.heap.objs.size] [s1.heap.objs.size] z.cps.size (SignAt z) (fun i h=>h.IsStrIter s1.heap.objs.size T z t i)) ->
   (∀ (A:Around) (i:Nat) (s:Shared) (Q:Value->Shared->Prop) (E:Value->Shared->Prop),s.heap.IsStrIter s1.heap.objs.size T z t i->Q (.ref s1.heap.objs.size) s->wpAny (model X.prog X.w) A (pyIter (.ref s1.heap.objs.size)) Q E s) ->
   ["enumerate", "zip", "dict_itemiterator", "dict_reverseitemiterator", "odict_iterator", "itertools.zip_longest", "itertools.pairwise"].contains T=false ->
   PIE X pn σ tg R (.ref s1.heap.objs.size) { s1 with heap:=s1.heap.push { cls:=.type T,data:=.fields #[.str z t,.int 0 0] } }:=fun T W hs hT=>by
  have I2:Inv X pn σ H1 { s1 with heap:=s1.heap.push { cls:=.type T,data:=.fields #[.str z t,.int 0 0] } }:=I1.kept (t':=s1.toks) fun b u e=>Heap.get?_push_of_some _ e
  refine ⟨s1.heap.objs.size,[s1.heap.objs.size],_,_,H1,rfl,I2,O8 W hs hT,⟨_,Heap.get?_push_size _ rfl,rfl,rfl⟩,fun b hb=>?_,q⟩
  have e:b=s1.heap.objs.size:=by simpa using hb
  subst e
  exact I1.fpOk (Nat.le_refl _) I1.fresh
 cases ha:z.cps.all (· < 128)
 ·exact wpAny_pyIter_wide ha (lay "str_iterator" (fun A hA=>Walks.strWide hA _ z t) (fun A i s Q E st q=>wpAny_pyIter_striter_wide st q) (by decide))
 ·exact wpAny_pyIter_ascii ha (lay "str_ascii_iterator" (fun A hA=>Walks.strAscii hA _ z t) (fun A i s Q E st q=>wpAny_pyIter_striter_ascii st q) (by decide))
noncomputable def Lm:D->Option (List D)
 | .lst ds=>some ds
 | .tup ds=>some ds
 | .scr ns=>some (ns.map D.int)
 | .str z=>some (z.cps.toList.map fun c=>D.str ⟨#[c]⟩)
 | _=>none
noncomputable def iSeq (te:TD):TID:=fun ρ φ=>te ρ fun r=>(match r.k with | .own=>False | _=>True) /\ match Lm r.d with
 | some ds=>φ ds
 | none=>False
theorem D4 {K:W.Frag} {a:Addr} {ds:List D}:ItD K (Itl K a) ds (fun H O=>∃ xs,H a=some (.lst xs) /\ a ∉ O /\ Reps K H O ds xs) where
 go:=fun H O i d ⟨xs,q,n,r⟩ e=>by
  obtain ⟨v,ev,rv⟩:=r.get e
  refine ⟨⟨xs,v,SqL.of q,ev⟩,fun x H' y=>?_⟩
  obtain ⟨e1,y⟩:=y
  subst e1
  have:=y xs (SqL.of q)
  rw [ev] at this
  cases this
  exact ⟨Same.refl _,rv⟩
 stop:=fun H O ⟨xs,q,n,r⟩=>⟨xs,SqL.of q,by rw [r.length]; exact Nat.le_refl _⟩
 keep:=fun O O' H H' ⟨xs,q,n,r⟩ g=>⟨xs,(g.keep _ _ q n).1,(g.keep _ _ q n).2,Reps.grow g _ _ r⟩
theorem Ez {K:W.Frag} {a:Addr} {ds:List D}:ItD K (Itt K a) ds (fun H O=>∃ xs,SqT K H a xs /\ Reps K H O ds xs) where
 go:=fun H O i d ⟨xs,q,r⟩ e=>by
  obtain ⟨v,ev,rv⟩:=r.get e
  refine ⟨⟨xs,v,q,ev⟩,fun x H' y=>?_⟩
  obtain ⟨e1,y⟩:=y
  subst e1
  have:=y xs q
  rw [ev] at this
  cases this
  exact ⟨Same.refl _,rv⟩
 stop:=fun H O ⟨xs,q,r⟩=>⟨xs,q,by rw [r.length]; exact Nat.le_refl _⟩
 keep:=fun O O' H H' ⟨xs,q,r⟩ g=>⟨xs,d9 g q,Reps.grow g _ _ r⟩
theorem D2 {K:W.Frag} {a:Addr} {ns:List Int}:ItD K (Itl K a) (ns.map D.int) (fun H _=>Scr K H a ns) where
 go:=fun H O i d q e=>by
  rw [List.getElem?_map] at e
  cases en:ns[i]? with
  | none=>rw [en] at e; cases e
  | some n =>
   rw [en] at e
   cases e
   have ev:(ns.map V.int)[i]?=some (.int n):=by rw [List.getElem?_map,en]; rfl
   refine ⟨⟨_,_,q.seq,ev⟩,fun x H' y=>?_⟩
   obtain ⟨e1,y⟩:=y
   subst e1
   have:=y _ q.seq
   rw [ev] at this
   cases this
   exact ⟨Same.refl _,rfl⟩
 stop:=fun H O q=>⟨_,q.seq,by rw [zLm,zLm]; exact Nat.le_refl _⟩
 keep:=fun O O' H H' q g=>qj g q
theorem D1 {K:W.Frag} {z:Str}:ItD K (Itv z.cps.size (Hy z)) (z.cps.toList.map fun c=>D.str ⟨#[c]⟩) (fun _ _=>True) where
 go:=fun H O i d _ e=>by
  rw [List.getElem?_map] at e
  cases en:z.cps.toList[i]? with
  | none=>rw [en] at e; cases e
  | some n =>
   rw [en] at e
   cases e
   have hl:=(List.getElem?_eq_some_iff.mp en).1
   refine ⟨(show i < z.cps.size by simpa using hl),fun x H' y=>?_⟩
   obtain ⟨e1,c,hc,ex⟩:=y
   subst e1 ex
   have:z.cps.toList[i]?=some c:=by rw [Array.getElem?_toList]; exact hc
   rw [en] at this
   cases this
   exact ⟨Same.refl _,rfl⟩
 stop:=fun H O _=>by show _=_; simp
 keep:=fun _ _ _ _ _ _=>trivial
noncomputable def rngD (lo:Int) (n:Nat):List D:=(List.range n).map fun (i:Nat)=>D.int (lo + (i:Int))
theorem D3 {K:W.Frag} {lo:Int} {n:Nat}:ItD K (Itr lo n) (rngD lo n) (fun _ _=>True) where
 go:=fun H O i d _ e=>by
  unfold rngD at e
  rw [List.getElem?_map] at e
  cases en:(List.range n)[i]? with
  | none=>rw [en] at e; cases e
  | some m =>
   rw [en] at e
   cases e
   have hl:=(List.getElem?_eq_some_iff.mp en).1
   rw [List.length_range] at hl
   have:m=i:=by
    rw [List.getElem?_range hl] at en
    exact (Option.some.inj en).symm
   subst this
   refine ⟨hl,fun x H' y=>?_⟩
   obtain ⟨e1,ex⟩:=y
   subst e1 ex
   exact ⟨Same.refl _,rfl⟩
 stop:=fun H O _=>by show n <= _; unfold rngD; simp
 keep:=fun _ _ _ _ _ _=>trivial
theorem PV.or {r r':V->Hp->(It->Hp->Prop)->Prop} (h:PV X tg r) (h':PV X tg r'):PV X tg (fun x H R=>r x H R \/ r' x H R):=fun pn s σ H x v R I rx q=>q.elim (h pn s σ H x v R I rx) (h' pn s σ H x v R I rx)
theorem vv (he:ED Γ X e te):EI Γ X tg e (iSeq te):=fun H₀=>impI (C5 (he H₀) (J1.or (Fj.or Fk))) fun σ H R q=>by
 obtain ⟨ρ,o,RE,φ,hφ,k⟩:=q
 refine ⟨ρ,o,RE,_,hφ,fun v r H1 s1 rv h1=>?_⟩
 obtain ⟨h0,h1⟩:=h1
 have rp:=rv.solid (vf h0)
 obtain ⟨kd,d⟩:=r
 cases d with
 | lst ds =>
  obtain ⟨a,xs,rfl,q,n,r⟩:=rp
  exact .inl ⟨a,rfl,⟨xs,SqL.of q⟩,k _ _ _ H1 s1 D4 ⟨xs,q,n,r⟩ h1⟩
 | tup ds =>
  obtain ⟨a,xs,rfl,q,r⟩:=rp
  exact .inr (.inl ⟨a,rfl,⟨xs,q.1⟩,k _ _ _ H1 s1 Ez ⟨xs,q.1,r⟩ h1⟩)
 | scr ns =>
  obtain ⟨a,rfl,q⟩:=rp
  exact .inl ⟨a,rfl,⟨_,q.seq⟩,k _ _ _ H1 s1 D2 q h1⟩
 | str z =>
  cases (show v=_ from rp)
  exact .inr (.inr ⟨z,rfl,k _ _ _ H1 s1 D1 trivial h1⟩)
 | _=>exact h1.elim
noncomputable def iR1 (t:TDs):TID:=fun ρ φ=>t ρ fun rs=>match rs with
 | [⟨_,.int j⟩]=>-(2 ^ 62) <= j /\ j < 2 ^ 62 /\ φ (rngD 0 j.toNat)
 | _=>False
theorem Yw {a:Expr} {p:Pos} (hm:X.mg "range" = none) (ha:EA Γ X [a] t) (hg:Gl X "range":=by rfl) (hs:starEach [a] X.env=[(false,eval a X.env)]:=by rfl):EI Γ X tg (.Call (.Name "range" p) [a] [] pos) (iR1 t):=fun H₀=>impI (Q9 hg hm (ha H₀) hs) fun σ H R q=>by
 obtain ⟨ρ,o,RE,φ,hφ,k⟩:=q
 refine ⟨ρ,o,RE,_,hφ,fun vs rs H1 s1 rvs h1=>?_⟩
 split at h1
 ·rename_i kd j
  obtain ⟨v,ws,rfl,rv,rfl⟩:=rvs
  cases (show v=_ from rv.view)
  exact ⟨j,rfl,h1.1,h1.2.1,k _ _ _ H1 s1 D3 trivial h1.2.2⟩
 ·exact h1.elim
end
section
variable {X:Cx} {σ:St} {scope:Scope} {T F:List Str} {js:List Nat} {tg iter elt:Expr} {ifs:List Expr} {pos:Pos} {ti:TID} {g2:TG} {g:TGD} {tc:TDb} {te:TD}
noncomputable def ρ0 (n:Nat) (js:List Nat) (ρ:DE):DE:=List.replicate n none ++ js.map fun j=>slot ρ j
noncomputable def ixO (n:Nat) (js:List Nat) (j:Nat):Nat:=if j ∈ js then n + js.idxOf j else n + js.length + 1 + j
theorem gp {K:W.Frag} {H₀ H H':Hp} {σ:St} {ρ:DE} {o:List (Nat × Addr)} {n:Nat} {js:List Nat} {D:Addr} {ys:List V} (R:REnv K H₀ H σ ρ o) (nd:js.Nodup) (hD:H D=none) (s:Same H H') (hD':H' D=some (.lst ys)) (Tn:List Str) (hT:Tn.length=n) :
  REnv K H₀ H' (st0 Tn js σ) (ρ0 n js ρ) ((n + js.length,D) :: o.map fun p=>(ixO n js p.1,p.2)):=by
 have hO:((n + js.length,D) :: o.map fun p=>(ixO n js p.1,p.2)).map Prod.snd=D :: o.map Prod.snd:=by
  rw [List.map_cons,List.map_map]
  rfl
 have g:Grow (o.map Prod.snd) (D :: o.map Prod.snd) H H':=⟨fun b u h nb=>⟨s b u h,fun z=>(List.mem_cons.mp z).elim (fun e=>zm h hD e) nb⟩,fun b xs h=>s b _ h,fun b ob u h=>s b _ h⟩
 have R':=R.to s
 exact {
  same:=R'.same
  fresh:=fun p hp=>by
   rcases List.mem_cons.mp hp with rfl | hp
   ·exact R.same.free hD
   ·obtain ⟨q,hq,rfl⟩:=List.mem_map.mp hp
    exact R.fresh q hq
  trk:=fun p hp=>by
   rcases List.mem_cons.mp hp with rfl | hp
   ·exact ⟨_,hD'⟩
   ·obtain ⟨q,hq,rfl⟩:=List.mem_map.mp hp
    exact R'.trk q hq
  mtb:=fun p hp=>by
   rcases List.mem_cons.mp hp with rfl | hp
   ·exact ⟨(fun xs z=>by rw [hD'] at z; cases z),(fun ob u z=>by rw [hD'] at z; cases z)⟩
   ·obtain ⟨q,hq,rfl⟩:=List.mem_map.mp hp
    exact R'.mtb q hq
  nda:=by
   rw [hO,List.nodup_cons]
   exact ⟨R.ofree hD,R.nda⟩
  len:=by
   unfold st0 ρ0
   simp [hT]
  slots:=fun i r e=>by
   rw [hO]
   unfold ρ0 at e
   have hi:n <= i:=by
    rcases Nat.lt_or_ge i n with z | z
    ·rw [List.getElem?_append_left (by simpa using z),List.getElem?_replicate] at e
     split at e <;> cases e
    ·exact z
   rw [List.getElem?_append_right (by simpa using hi),List.length_replicate,List.getElem?_map] at e
   cases ej:js[i - n]? with
   | none=>rw [ej] at e; cases e
   | some j =>
    rw [ej] at e
    have e':slot ρ j=some r:=Option.some.inj e
    obtain ⟨v,ev,q⟩:=R.slots j r (yn e')
    refine ⟨v,?_,?_⟩
    ·unfold st0
     rw [List.getElem?_append_right (by simpa [hT] using hi),List.length_replicate,List.getElem?_map,hT,ej]
     show some ((σ[j]?).join)=_
     rw [ev]
     rfl
    ·rcases q with ⟨k,q⟩ | ⟨k,a,e1,m,c⟩
     ·exact .inl ⟨k,Rep.grow g _ _ q⟩
     ·refine .inr ⟨k,a,e1,List.mem_cons_of_mem _ (List.mem_map.mpr ⟨_,m,?_⟩),c.grow (fun u q=>s _ _ q) g⟩
      have hmem:j ∈ js:=List.mem_of_getElem? ej
      have hidx:js.idxOf j=i - n:=by
       have h1:=(List.getElem?_eq_some_iff.mp ej)
       have h2:=List.getElem_idxOf (List.idxOf_lt_length_iff.mpr hmem)
       exact (List.getElem_inj nd).mp (h2.trans h1.2.symm)
      show (ixO n js j,a)=(i,a)
      unfold ixO
      rw [if_pos hmem,hidx]
      congr 1
      omega }
noncomputable def bYes:TDb:=fun _ φ=>φ true
noncomputable def Mi (ti:TID) (n:Nat) (js:List Nat) (g:TGD) (tc:TDb) (te:TD):TD:=fun ρ φ=>ti ρ fun ds=>∃ f:D->Option D,ds.length <= 100000 /\
 (∀ d ∈ ds,g d (ρ0 n js ρ) fun ρ'=>tc ρ' fun c=>(c=true->te ρ' fun r=>(match r.k with | .own=>False | _=>True) /\ f d=some r.d) /\ (c=false->f d=none)) /\ φ (df (.lst (ds.filterMap f)))
noncomputable def EIf (G:Hp->Prop) (X:Cx) (ifs:List Expr) (t:TDb):Prop:=∀ H₀:{H:Hp // G H},PIf X ifs (Zm X.K H₀.1 t)
theorem va:EIf Γ X [] bYes:=fun H₀ pn s σ H Q I h=>by
 obtain ⟨ρ,o,R,φ,hφ,k⟩:=h
 exact J8 pn s σ H Q I (k true H (Same.refl H) hφ)
theorem Zl {H₀:Hp} (nd:js.Nodup) (hl:gf X.K g2 g):∀ σ H Q,si X.K H₀ (Mi ti T.length js g tc te) σ H Q->Of (Jq X.K H₀ ti) T js g2 (Zm X.K H₀ tc) (si X.K H₀ te) σ H Q:=fun σ H Q q=>by
  obtain ⟨ρ,o,R,φ,hφ,k⟩:=q
  refine ⟨ρ,o,R,_,hφ,fun J ds P H1 s1 I hP ⟨f,hlen,turn,fin⟩ Da hDa=>?_⟩
  have R1:=R.to s1
  have gD:∀ {H':Hp},Same H1 H'->Grow (o.map Prod.snd) (Da :: o.map Prod.snd) H1 H':=fun s=>⟨fun b u h nb=>⟨s b u h,fun z=>(List.mem_cons.mp z).elim (fun e=>zm h hDa e) nb⟩,fun b xs h=>s b _ h,fun b ob u h=>s b _ h⟩
  refine ⟨fun i m ys H'=>m=ds.length - i /\ i <= ds.length /\ Same H1 H' /\ H' Da=some (.lst ys) /\ Reps X.K H' (Da :: o.map Prod.snd) ((ds.take i).filterMap f) ys,
   ⟨_,rfl,Nat.zero_le _,zw hDa _,zi,rfl⟩,?_⟩
  rintro i m ys H' ⟨rfl,hi',s2,hD',rp⟩
  refine ⟨hD',?_⟩
  have hP':=I.keep _ _ _ _ hP (gD s2)
  by_cases hlt:i < ds.length
  ·have ed:ds[i]?=some ds[i]:=by simp [hlt]
   obtain ⟨j1,j2⟩:=I.go H' _ i _ hP' ed
   refine .inr ⟨j1,fun zs H2=>Same H1 H2 /\ H2 Da=some (.lst zs) /\ Reps X.K H2 (Da :: o.map Prod.snd) ((ds.take (i + 1)).filterMap f) zs,fun zs H2 ⟨a1,a2,a3⟩=>⟨_,(by omega:ds.length - (i + 1) < ds.length - i),rfl,hlt,a1,a2,a3⟩,fun x H2 y=>?_⟩
   obtain ⟨s3,rx⟩:=j2 x H2 y
   have s13:=s2.trans s3
   have hD2:=s3 _ _ hD'
   have RB:=gp (n:=T.length) R1 nd hDa s13 hD2 T rfl
   have hO:((T.length + js.length,Da) :: o.map fun p=>(ixO T.length js p.1,p.2)).map Prod.snd=Da :: o.map Prod.snd:=by
    rw [List.map_cons,List.map_map]
    rfl
   have tk:(ds.take (i + 1)).filterMap f=(ds.take i).filterMap f ++ (f ds[i]).toList:=by
    rw [List.take_succ,ed,List.filterMap_append]
    cases e:f ds[i] <;> simp [e]
   have rpl:ys.length <= 100000:=by
    rw [rp.length]
    refine Nat.le_trans (List.length_filterMap_le _ _) ?_
    rw [List.length_take]
    omega
   refine hl H₀ H2 (st0 T js σ) (ρ0 T.length js ρ) _ _ x _ _ RB (by rw [hO]; exact rx) (turn _ (List.getElem_mem hlt)) fun ρ' σ' R' q'=>?_
   refine ⟨ρ',_,R',_,q',fun c H3 s4 h4=>?_⟩
   have hD3:=s4 _ _ hD2
   cases c with
   | false =>
    refine iteF ⟨s13.trans s4,hD3,?_⟩
    rw [tk,h4.2 rfl]
    simpa using Reps.grow (Grow.same (s3.trans s4)) _ _ rp
   | true =>
    refine iteT ⟨ρ',_,R'.to s4,_,h4.1 rfl,fun v r H4 s5 rv h5=>?_⟩
    have hD4:=s5 _ _ hD3
    have rd:=rv.solid (vf h5.1)
    rw [hO] at rd
    have ne:∀ b u,H1 b=some u->b ≠ Da:=fun b u h=>zm h hDa
    have gu:Grow (Da :: o.map Prod.snd) (Da :: o.map Prod.snd) H4 (upd H4 Da (.lst (ys ++ [v]))) :=
     ⟨fun b u h n=>⟨by rw [y0 (fun z=>n (List.mem_cons.mpr (.inl z)))]; exact h,n⟩,fun b xs h=>by rw [y0 (fun z=>by rw [z,hD4] at h; cases h)]; exact h,fun b ob u h=>by rw [y0 (fun z=>by rw [z,hD4] at h; cases h)]; exact h⟩
    refine ⟨hD4,Nat.lt_of_le_of_lt rpl (by decide),⟨fun b u h=>?_,zi,?_⟩⟩
    ·rw [y0 (ne b u h)]
     exact s5 _ _ (s4 _ _ (s13 b u h))
    ·rw [tk,h5.2]
     exact Reps.grow gu _ _ ((Reps.grow (Grow.same (s3.trans (s4.trans s5))) _ _ rp).append (Reps.one rd))
  ·have e:i=ds.length:=by omega
   subst e
   rw [List.take_length] at rp
   refine .inl ⟨I.stop H' _ hP',?_⟩
   exact k (.ref Da) (df (.lst (ds.filterMap f))) H' (s1.trans s2) ⟨Da,rfl,s1.free hDa,R.ofree (s1.free hDa),ys,hD',rp⟩ fin
theorem sv (hi:EI Γ X tg iter ti) (S:y9 X.env.scope scope T F) (hjs:Paired (fun x j=>X.N[j]?=some x) F js) (nd:js.Nodup)
  (hg:∀ cl C fp s H,PG (yq X (T ++ F) scope cl C fp s H) tg g2) (hk:bz T.length g2) (hl:gf X.K g2 g)
  (ht:∀ cl C fp s H,EIf Γ (yq X (T ++ F) scope cl C fp s H) ifs tc) (he:∀ cl C fp s H,ED Γ (yq X (T ++ F) scope cl C fp s H) elt te)
  (hc:X.calm=true:=by rfl) (hs:∀ x,foldedSetIterable iter X.env x=pure x:=by intro _; rfl):ED Γ X (.ListComp elt [⟨tg,iter,ifs,0⟩] scope pos) (Mi ti T.length js g tc te):=fun H₀ =>
 impE (Qb (tc:=Zm X.K H₀.1 tc) (te:=si X.K H₀.1 te) hc (hi H₀) S hjs hg hk (fun cl C fp s H=>ht cl C fp s H H₀) (fun cl C fp s H=>he cl C fp s H H₀) hs) (Zl nd hl)
theorem tx (i:Nat) {y:Str} {py spos:Pos} (hN:X.N.Nodup) (hi:EI Γ X tg iter ti) (S:y9 X.env.scope scope T F) (hjs:Paired (fun x j=>X.N[j]?=some x) F js) (nd:js.Nodup)
  (hg:∀ cl C fp s H,PG (yq X (T ++ F) scope cl C fp s H) tg g2) (hk:bz T.length g2) (hl:gf X.K g2 g)
  (ht:∀ cl C fp s H,EIf Γ (yq X (T ++ F) scope cl C fp s H) ifs tc) (he:∀ cl C fp s H,ED Γ (yq X (T ++ F) scope cl C fp s H) elt te)
  (hc:X.calm=true:=by rfl) (hs:∀ x,foldedSetIterable iter X.env x=pure x:=by intro _; rfl) (hy:X.N[i]?=some y:=by rfl) (hlo:X.env.scope.names.lookup y=some .local:=by rfl) (hsw:swapsWith (.ListComp elt [⟨tg,iter,ifs,0⟩] scope pos) (some (.Name y py)) spos.line X.env=pure true:=by rfl):SD Γ X (.Assign [.Name y py] (.ListComp elt [⟨tg,iter,ifs,0⟩] scope pos) spos) (sSet i (Mi ti T.length js g tc te)):=fun H₀ =>
 impS (Td (tc:=Zm X.K H₀.1 tc) (te:=si X.K H₀.1 te) hc hN hy (.inl hlo) (hi H₀) S hjs hg hk (fun cl C fp s H=>ht cl C fp s H H₀) (fun cl C fp s H=>he cl C fp s H H₀) hsw hs (.inr hlo)) fun D σ H h=>by
  obtain ⟨ρ,o,R,Z,hZ,k1,k2,k3,k4⟩:=h
  refine Zl nd hl σ H _ ⟨ρ,o,R,_,hZ,fun v r H1 s1 rv h1=>?_⟩
  obtain ⟨o',R',g'⟩:=R.put s1 i rv (vf h1.1)
  exact k1 _ _ H1 o' g' R' h1.2
end
section
variable {X:Cx} {x:Str} {e a b:Expr} {es:List Expr} {t:TDs} {ta tb:TD} {p pos:Pos}
structure Kit (K:W.Frag):Prop where
 ne:∀ q ∈ ([("NoneType", "int"),("NoneType", "bool"),("NoneType", "str"),("NoneType", "tuple"),("NoneType", "list"),("NoneType", "dict"),("bool", "str"),("bool", "tuple"),("bool", "list"),("bool", "dict"),
  ("int", "bool"),("int", "str"),("int", "tuple"),("int", "list"),("int", "dict"),("str", "int"),("str", "bool"),("str", "tuple"),("str", "list"),("str", "dict"),
  ("tuple", "int"),("tuple", "bool"),("tuple", "str"),("tuple", "list"),("tuple", "dict"),("list", "int"),("list", "bool"),("list", "str"),("list", "tuple"),("list", "dict"),
  ("dict", "int"),("dict", "bool"),("dict", "str"),("dict", "tuple"),("dict", "list")]:List (String × String)),W.kitOne K (.type q.1) (.type q.2)=some false
 bi:W.kitOne K (.type "bool") (.type "int")=some true
theorem Qr {K:W.Frag}:Kit K:=by
 constructor
 ·intro q hq
  simp only [List.mem_cons,List.not_mem_nil,or_false] at hq
  rcases hq with rfl | rfl | rfl | rfl | rfl | rfl | rfl | rfl | rfl | rfl | rfl | rfl | rfl | rfl | rfl | rfl | rfl | rfl | rfl | rfl | rfl | rfl | rfl | rfl | rfl | rfl | rfl | rfl | rfl | rfl | rfl | rfl | rfl | rfl | rfl <;> kernel_rfl
 ·kernel_rfl
theorem Nn {K:W.Frag} {T:String}:W.kitOne K (.type T) (.type T)=some true:=by
 unfold W.kitOne
 rw [if_pos (by simp)]
theorem Pu:bootBuiltins "int" = some (.type "int"):=by decide +kernel
theorem vm:bootBuiltins "bool" = some (.type "bool"):=by decide +kernel
theorem w8:bootBuiltins "tuple" = some (.type "tuple"):=by decide +kernel
theorem sw:bootBuiltins "list" = some (.type "list"):=by decide +kernel
theorem boot_dict':bootBuiltins "dict" = some (.type "dict"):=by decide +kernel
theorem qh:bootBuiltins "isinstance" = some (.builtin "isinstance"):=by decide +kernel
theorem Ep {K:W.Frag} (a T:String) (h:(a,T) ∈ ([("NoneType", "int"),("NoneType", "bool"),("NoneType", "str"),("NoneType", "tuple"),("NoneType", "list"),("NoneType", "dict"),("bool", "str"),("bool", "tuple"),("bool", "list"),("bool", "dict"),
  ("int", "bool"),("int", "str"),("int", "tuple"),("int", "list"),("int", "dict"),("str", "int"),("str", "bool"),("str", "tuple"),("str", "list"),("str", "dict"),
  ("tuple", "int"),("tuple", "bool"),("tuple", "str"),("tuple", "list"),("tuple", "dict"),("list", "int"),("list", "bool"),("list", "str"),("list", "tuple"),("list", "dict"),
  ("dict", "int"),("dict", "bool"),("dict", "str"),("dict", "tuple"),("dict", "list")]:List (String × String))):W.kitOne K (.type a) (.type T)=some false:=Qr.ne (a,T) h
noncomputable def Mt:D->String
 | .non=>"NoneType"
 | .bl _=>"bool"
 | .int _=>"int"
 | .str _=>"str"
 | .tup _=>"tuple"
 | .lst _=>"list"
 | .dk _ _=>"dict"
 | .dt _ _=>"dict"
 | .ty _=>"type"
 | .cn _=>"tuple"
 | .scr _=>"list"
 | .dz _=>"exc"
 | .exc _=>"exc"
 | .fd _=>"exc"
 | .ob _ _ _=>"exc"
noncomputable def Np:List (String × String):=[("NoneType", "int"),("NoneType", "bool"),("NoneType", "str"),("NoneType", "tuple"),("NoneType", "list"),("NoneType", "dict"),("bool", "str"),("bool", "tuple"),("bool", "list"),("bool", "dict"),
  ("int", "bool"),("int", "str"),("int", "tuple"),("int", "list"),("int", "dict"),("str", "int"),("str", "bool"),("str", "tuple"),("str", "list"),("str", "dict"),
  ("tuple", "int"),("tuple", "bool"),("tuple", "str"),("tuple", "list"),("tuple", "dict"),("list", "int"),("list", "bool"),("list", "str"),("list", "tuple"),("list", "dict"),
  ("dict", "int"),("dict", "bool"),("dict", "str"),("dict", "tuple"),("dict", "list")]
noncomputable def isN (a T:String):Option Bool:=if a=T then some true else if a = "bool" /\ T = "int" then some true else if (a,T) ∈ Np then some false else none
noncomputable def isT (d:D) (T:String):Option Bool:=match d with
 | .ty _=>none
 | .cn _=>none
 | .scr _=>none
 | .dz _=>none
 | .exc _=>none
 | .fd _=>none
 | .ob _ _ _=>none
 | d=>isN (Mt d) T
theorem Ha {K:W.Frag} {a T:String} {b:Bool} (h:isN a T=some b):W.kitOne K (.type a) (.type T)=some b:=by
 unfold isN at h
 split at h
 ·rename_i q
  cases h
  subst q
  exact Nn
 ·split at h
  ·rename_i q
   cases h
   obtain ⟨rfl,rfl⟩:=q
   exact Qr.bi
  ·split at h
   ·rename_i q
    cases h
    exact Ep a T q
   ·cases h
theorem Jz {K:W.Frag} {d:D} {T:String} {b:Bool} (h:isT d T=some b):W.kitOne K (.type (Mt d)) (.type T)=some b:=by
 cases d with
 | ty _=>cases h
 | cn _=>cases h
 | scr _=>cases h
 | dz _=>cases h
 | exc _=>cases h
 | fd _=>cases h
 | ob _ _ _=>cases h
 | _=>exact Ha h
theorem V0:isT .non "int" = some false:=(by decide:isN "NoneType" "int" = some false)
theorem Yb:isT .non "bool" = some false:=(by decide:isN "NoneType" "bool" = some false)
theorem cu:isT .non "tuple" = some false:=(by decide:isN "NoneType" "tuple" = some false)
theorem Sj (b:Bool):isT (.bl b) "int" = some true:=(by decide:isN "bool" "int" = some true)
theorem V6 (b:Bool):isT (.bl b) "bool" = some true:=(by decide:isN "bool" "bool" = some true)
theorem Yh (b:Bool):isT (.bl b) "tuple" = some false:=(by decide:isN "bool" "tuple" = some false)
theorem V3 (i:Int):isT (.int i) "int" = some true:=(by decide:isN "int" "int" = some true)
theorem Ye (i:Int):isT (.int i) "bool" = some false:=(by decide:isN "int" "bool" = some false)
theorem V2 (i:Int):isT (.int i) "str" = some false:=(by decide:isN "int" "str" = some false)
theorem cw (i:Int):isT (.int i) "tuple" = some false:=(by decide:isN "int" "tuple" = some false)
theorem Wz (x:Str):isT (.str x) "int" = some false:=(by decide:isN "str" "int" = some false)
theorem Y9 (x:Str):isT (.str x) "bool" = some false:=(by decide:isN "str" "bool" = some false)
theorem Wy (x:Str):isT (.str x) "str" = some true:=(by decide:isN "str" "str" = some true)
theorem cr (x:Str):isT (.str x) "tuple" = some false:=(by decide:isN "str" "tuple" = some false)
theorem Wx (l:List D):isT (.tup l) "int" = some false:=(by decide:isN "tuple" "int" = some false)
theorem Y8 (l:List D):isT (.tup l) "bool" = some false:=(by decide:isN "tuple" "bool" = some false)
theorem cm (l:List D):isT (.tup l) "tuple" = some true:=(by decide:isN "tuple" "tuple" = some true)
theorem Y7 (l:List D):isT (.tup l) "list" = some false:=(by decide:isN "tuple" "list" = some false)
theorem V1 (l:List D):isT (.lst l) "int" = some false:=(by decide:isN "list" "int" = some false)
theorem Yd (l:List D):isT (.lst l) "bool" = some false:=(by decide:isN "list" "bool" = some false)
theorem cv (l:List D):isT (.lst l) "tuple" = some false:=(by decide:isN "list" "tuple" = some false)
theorem Yc (l:List D):isT (.lst l) "list" = some true:=(by decide:isN "list" "list" = some true)
theorem Si (k:List Key) (l:List D):isT (.dk k l) "int" = some false:=(by decide:isN "dict" "int" = some false)
theorem V5 (k:List Key) (l:List D):isT (.dk k l) "bool" = some false:=(by decide:isN "dict" "bool" = some false)
theorem Yg (k:List Key) (l:List D):isT (.dk k l) "tuple" = some false:=(by decide:isN "dict" "tuple" = some false)
theorem V4 (k:List Key) (l:List D):isT (.dk k l) "dict" = some true:=(by decide:isN "dict" "dict" = some true)
theorem Mm:uv X (.builtin "isinstance") (fun xs H Q=>∃ d x T b,xs=[x,.ty T] /\ Rep X.K H [] d x /\ isT d T=some b /\ Q (.bl b) H):=by
 intro pn s σ H xs us Q I r h
 obtain ⟨d,x,T,b,rfl,rp,e,q⟩:=h
 obtain ⟨u,v,rfl,ru,rv⟩:=K6 r
 cases rv
 have ek:=Jz (K:=X.K) e
 have fin:∀ tk,EP X pn σ Q (.bool b) { s with toks:=tk }:=fun tk=>⟨.bl b,H,I.tok tk,rfl,q⟩
 cases d with
 | non=>cases (show x=_ from rp); exact ww I ru .non ek fin
 | bl c=>cases (show x=_ from rp); exact ww I ru (.bl c) ek fin
 | int c=>cases (show x=_ from rp); exact ww I ru (.int c) ek fin
 | str c=>cases (show x=_ from rp); exact ww I ru (.str c) ek fin
 | ty _=>cases e
 | cn _=>cases e
 | scr _=>cases e
 | dz _=>cases e
 | exc _=>cases e
 | fd _=>cases e
 | ob _ _ _=>cases e
 | lst ds=>obtain ⟨a,xs,rfl,q1,_⟩:=rp; exact ww I ru (.lst q1) ek fin
 | dk ks ds=>obtain ⟨a,xs,rfl,q1,_⟩:=rp; exact ww I ru (.dK q1) ek fin
 | dt ks ds=>obtain ⟨a,xs,rfl,q1,_⟩:=rp; exact ww I ru (.dT q1) ek fin
 | tup ds =>
  obtain ⟨a,xs,rfl,q1,_⟩:=rp
  cases (show u=Value.ref a from ru)
  obtain ⟨its,_,p,_⟩:=I.tuple q1.1
  obtain ⟨o,h1,h2,_⟩:=p
  exact W.kia_one W.kitx_tuple I.kIn ⟨o,h1,h2⟩ ek (fun z=>nomatch z) fin
noncomputable def sIsI:FT:=fun ds φ=>match ds with
 | [d,.ty T]=>match isT d T with
  | some b=>φ (dv (.bl b))
  | none=>False
 | _=>False
theorem yz (hm:X.mg "isinstance" = none) (ha:EA Γ X (e :: es) t) (hg:Gl X "isinstance":=by rfl) (he:starEach (e :: es) X.env=(false,eval e X.env) :: starEach es X.env:=by rfl) (hpl:(backTo pos (starEach es X.env)).any (·.1)=false:=by rfl):ED Γ X (.Call (.Name "isinstance" p) (e :: es) [] pos) (dCB sIsI t) :=
 bu Mm (fun H O ds vs φ Q ho hv h k=>by
  unfold sIsI at h
  split at h
  ·split at h
   ·rename_i d T b eb
    obtain ⟨v,ws,rfl,h1,v2,ws2,rfl,h2,rfl⟩:=hv
    cases (show v2=_ from h2)
    exact ⟨_,v,_,_,rfl,h1.rep0,eb,k _ _ H (Same.refl H) (by exact rfl) h⟩
   ·exact h.elim
  ·exact h.elim) hm qh ha hg (by decide) (by decide) he hpl
noncomputable def sTupC:FT:=fun ds φ=>match ds with
 | [.lst l]=>φ (dv (.tup l))
 | [.tup l]=>φ (dv (.tup l))
 | _=>False
theorem jb (hm:X.mg "tuple" = none) (ha:EA Γ X (e :: es) t) (hg:Gl X "tuple":=by rfl) (he:starEach (e :: es) X.env=(false,eval e X.env) :: starEach es X.env:=by rfl) (hpl:(backTo pos (starEach es X.env)).any (·.1)=false:=by rfl):ED Γ X (.Call (.Name "tuple" p) (e :: es) [] pos) (dCB sTupC t) :=
 jc bv (fun H O ds vs φ Q ho hv h k=>by
  unfold sTupC at h
  split at h
  ·obtain ⟨v,ws,rfl,⟨a,xs,rfl,q,r⟩,rfl⟩:=hv
   exact ⟨a,xs,rfl,.inl ⟨SqL.of q,fun l hl=>k _ _ _ (zw hl _) (U3 hl r) h⟩⟩
  ·obtain ⟨v,ws,rfl,⟨a,xs,rfl,q,r⟩,rfl⟩:=hv
   exact ⟨a,xs,rfl,.inr ⟨q.1,k (.ref a) (dv (.tup _)) H (Same.refl H) ⟨a,xs,rfl,q,r⟩ h⟩⟩
  ·exact h.elim) hm w8 ha hg (by decide) (by decide) he hpl
noncomputable def sListC:FT:=fun ds φ=>match ds with
 | [.lst l]=>φ (df (.lst l))
 | [.tup l]=>φ (df (.lst l))
 | _=>False
theorem Uv (hm:X.mg "list" = none) (ha:EA Γ X (e :: es) t) (hg:Gl X "list":=by rfl) (he:starEach (e :: es) X.env=(false,eval e X.env) :: starEach es X.env:=by rfl) (hpl:(backTo pos (starEach es X.env)).any (·.1)=false:=by rfl):ED Γ X (.Call (.Name "list" p) (e :: es) [] pos) (dCB sListC t) :=
 jc Yx (fun H O ds vs φ Q ho hv h k=>by
  unfold sListC at h
  split at h
  ·obtain ⟨v,ws,rfl,⟨a,xs,rfl,q,r⟩,rfl⟩:=hv
   exact ⟨a,xs,rfl,.inl (SqL.of q),fun l hl=>k _ _ _ (zw hl _) (qw ho hl r) h⟩
  ·obtain ⟨v,ws,rfl,⟨a,xs,rfl,q,r⟩,rfl⟩:=hv
   exact ⟨a,xs,rfl,.inr q.1,fun l hl=>k _ _ _ (zw hl _) (qw ho hl r) h⟩
  ·exact h.elim) hm sw ha hg (by decide) (by decide) he hpl
end
section
variable {X:Cx} {x:Str} {e:Expr} {te:TD} {apos np cpos pos:Pos}
noncomputable def sApp (i:Nat) (te:TD):TDS:=fun ρ Z=>match slot ρ i with
 | some ⟨.own,.lst ds⟩=>te ρ fun r=>(match r.k with | .own=>False | _=>True) /\ ds.length <= 100000 /\ Z.nx (setS ρ i (dO (.lst (ds ++ [r.d]))))
 | _=>False
theorem Z9 (i:Nat) (he:ED Γ X e te) (hN:X.N[i]?=some x:=by rfl) (hv:Vis X.env.scope x:=by first | exact Or.inl rfl | exact Or.inr (Or.inl rfl) | exact Or.inr (Or.inr rfl)) (hd:(x == ("__debug__" : Str))=false:=by decide)
  (hcd:(x == ("__classdict__" : Str))=false:=by decide)
  (hp:∀ {ta tb:TE},PE X (.Name x np) ta->PE X e tb->PS X (.Expr (.Call (.Attribute (.Name x np) "append" apos) [e] [] cpos) pos) (Z4 (tBM X.K "list" qy ta (rq tb tNil))):=by
   intro ta tb h1 h2
   exact vo (Xm PySem.F.plainAttrs_list PySem.F.slot_list_append PySem.F.type_list_append u3 h1 (yo h2 wu))) :
  SD Γ X (.Expr (.Call (.Attribute (.Name x np) "append" apos) [e] [] cpos) pos) (sApp i te):=fun H₀=>impS (hp (wt hN hv hd hcd) (he H₀)) fun D σ H h=>by
 obtain ⟨ρ,o,R,Z,hZ,k1,k2,k3,k4⟩:=h
 unfold sApp at hZ
 split at hZ
 ·rename_i ds es
  obtain ⟨v0,ev0,q0⟩:=R.slots i _ (yn es)
  rcases q0 with ⟨k,_⟩ | ⟨_,a,rfl,m,c⟩
  ·cases k
  obtain ⟨xs,hx,rx⟩:=c
  refine ⟨.ref a,ev0,.inl ⟨rfl,xs,SqL.of hx⟩,?_⟩
  refine ⟨ρ,o,R,_,hZ,fun v r H1 s1 rv h1=>?_⟩
  obtain ⟨h0,hl,hn⟩:=h1
  have hx1:=s1 _ _ hx
  have R1:=R.to s1
  have rx1:=Reps.grow (Grow.same s1) _ _ rx
  refine ⟨a,xs,v,rfl,rfl,hx1,?_,?_⟩
  ·rw [rx.length]
   exact Nat.lt_of_le_of_lt hl (by decide)
  ·obtain ⟨R2,g2⟩:=R1.chg (d':=.lst (ds ++ [r.d])) (ho:=.lst (xs ++ [v])) (yn es) ev0 m ⟨fun _ z=>(by cases z),fun _ _ z=>(by cases z)⟩ fun gr=>⟨xs ++ [v],zi,gr _ _ (rx1.append (Reps.one (rv.solid (vf h0))))⟩
   exact k1 _ σ _ o ((Grow.same s1).trans g2) R2 hn
 ·exact hZ.elim
end
section
variable {P:Program} {w:World} {K:W.Frag} {mg:Str->Option Value} {base:Heap}
noncomputable def xh (n:Nat) (ds:List D):DE:=ds.map (fun d=>some (dv d)) ++ List.replicate (n - ds.length) none
theorem P6 {x qual:Str} {st:Stmt} {f:Addr} {fd:FuncData} {N ps:List Str} {k:Nat} {T:FT} (F:Fun K x qual st f fd) (S:zn N ps (zb st))
  (qY:∀ (qZ:Value) (A:Around) (outer:List Env) (s:Shared) (H:Hp) (E:XK) (ds:List D) (φ:EV->Prop),Room k (A.deeper (envOfC qual (zb st) s.heap.objs.size f qZ))->ds.length=ps.length->T ds φ ->
   ∃ t,SDs (fun _=>True) (cxOf CX0 P w K mg base N qual (zb st) f qZ A outer s H E).nox (yc st) t /\ t (xh N.length ds) { nx:=fun _=>φ (dv .non),rt:=fun r=>ui r /\ φ r }):FnOk P w K mg base CX0 (k + 1) f fd ps (spD K ps.length T):=by
 refine F.ok S (fun vs H Q E h=>?_) (fun qZ A outer s H vs Q E hr h=>?_)
 ·obtain ⟨ds,φ,hl,r,_⟩:=h
  rw [r.length,hl]
 ·obtain ⟨ds,φ,hl,r,hT,kk⟩:=h
  obtain ⟨t,ht,hq⟩:=qY qZ A outer s H E ds φ hr hl hT
  have rl:=r.length
  refine ⟨Ni K H t,ht ⟨H,trivial⟩,xh N.length ds,[],⟨Same.refl H,(fun _ z=>absurd z (by simp)),(fun _ z=>absurd z (by simp)),(fun _ z=>absurd z (by simp)),List.nodup_nil,fun i r' e=>?_,?_⟩,_,hq,fun ρ' σ' H' o' g R' q=>?_,fun _ _ _ _ _ _ q=>q.elim,fun _ _ _ _ _ _ q=>q.elim,fun v r' H' s' rv q=>kk v r' H' s' rv q.1 q.2⟩
  ·unfold xh at e
   rcases Nat.lt_or_ge i ds.length with hi | hi
   ·rw [List.getElem?_append_left (by simpa using hi),List.getElem?_map] at e
    have ed:ds[i]?=some ds[i]:=by simp [hi]
    rw [ed] at e
    have e':some (dv ds[i])=some r':=Option.some.inj e
    cases e'
    obtain ⟨v,ev,rv⟩:=r.get ed
    refine ⟨v,?_,.inl ⟨rfl,rv⟩⟩
    unfold L2.start
    rw [List.getElem?_append_left (by rw [zLm,rl]; exact hi),List.getElem?_map,ev]
    rfl
   ·rw [List.getElem?_append_right (by simpa using hi),List.getElem?_replicate] at e
    split at e <;> cases e
  ·unfold L2.start xh
   simp [rl]
  ·exact kk .non (dv .non) H' R'.same rfl trivial q
theorem u7 {x qual:Str} {st:Stmt} {f:Addr} {fd:FuncData} {N ps:List Str} {k:Nat} {T:FT} (F:Fun K x qual st f fd) (S:zn N ps (zb st)) (b:wz K fd ps []) (m:mg x=some (.ref f))
  (qY:∀ (qZ:Value) (A:Around) (outer:List Env) (s:Shared) (H:Hp) (E:XK) (ds:List D) (φ:EV->Prop),Room k (A.deeper (envOfC qual (zb st) s.heap.objs.size f qZ))->ds.length=ps.length->T ds φ ->
   ∃ t,SDs (fun _=>True) (cxOf CX0 P w K mg base N qual (zb st) f qZ A outer s H E).nox (yc st) t /\ t (xh N.length ds) { nx:=fun _=>φ (dv .non),rt:=fun r=>ui r /\ φ r }):FD P w K mg base (k + 1) x ps T:=⟨f,fd,P6 F S qY,b,F.kp,m⟩
end
noncomputable def lawT:FT:=fun ds φ=>∃ ns:List Int,ds=[.scr ns] /\ ns.length <= 63 /\ φ (dv (.bl true))
theorem walkD {l:W.OpenLaw} {q:Program} {loose:List Str} {XP:(Str->Option Value)->Heap->Prop} {YP:World->Heap->Prop} {d:DefRec} {K:Params->W.Frag} {x:Str} {k:Nat} (hn:l.most=some 63) (hdf:d.params.defaults=[]) (hr:Room k callerA)
  (hY:∀ (w:World) (h:Heap),YP w h->(K w.params).In h)
  (F:∀ (w:World) (mg:Str->Option Value) (fa:Addr) (h:Heap),(K w.params).In h->h.Ns mainGlobals mg->mg d.name=some (.ref fa) ->
   ∃ fd:FuncData,(∀ (s:Shared) (u:Value),BindsTo s fd ⟨[u],[]⟩ [(x,u)]) /\ ∀ base:Heap,(K w.params).In base->base.Ns mainGlobals mg->FnOk l.prog w (K w.params) mg base CX0 k fa fd [x] (spD (K w.params) 1 lawT)) :
  W.WalkO q loose XP YP l.row.toRowW d [] (fun f vs=>PySem.call f vs) :=
 L2.walk_of (n:=63) (k:=k) (x:=x) (CX:=fun _=>CX0) (sp:=fun w=>spD (K w.params) 1 lawT) hn (by decide) hdf hr hY F (fun w H a ns hl ho hS=>by
  refine ⟨[.scr ns],fun r=>r=dv (.bl true),rfl,⟨.ref a,[],rfl,⟨a,rfl,?_⟩,rfl⟩,⟨ns,rfl,hl,rfl⟩,fun v r H' s rv p e=>by subst e; exact rv⟩
  rcases hS with (h | ⟨o,h⟩) | h
  ·rcases ho a with z | ⟨o,xs,z⟩
   ·rw [z] at h; cases h
   ·rw [z] at h; cases h
  ·exact .inl ⟨o,h⟩
  ·exact .inr h) fun _ _ _ _ _ z=>z
end DL
namespace L3
open PySem PySem.Spec PyProof.Rows
section
variable {P:Program} {w:World} {A:Around} {E:Value->Shared->Prop} {s:Shared}
theorem Th {it l:Addr} {i:Nat} {xs:Array Value} {x:Value} {Q:Value->Shared->Prop} (hi:s.heap.IsTupleIter it l i) (hl:s.heap.IsTuple l xs) (hx:xs[i]?=some x)
  (hQ:∀ g,g.IsTupleIter it l (i + 1)->Heap.SameBut it s.heap g->Q x { s with heap:=g }):wpAny (model P w) A (Builtin.SmallTypes.nextOf (.ref it)) Q E s:=by
 obtain ⟨o,ho,hc,hd⟩:=id hi
 obtain ⟨ol,hol,_,nl,hdl⟩:=hl
 unfold Builtin.SmallTypes.nextOf
 refine wpAny_bind (wpAny_callSpecial?_slot (name:=Str.ofString "__next__") hi.typeIs F.slot_tuple_iterator_next (wpAny_call_entry F.slot_tuple_iterator_next hi.typeIs F.entry_tuple_iterator_next ?_ (F.args_tuple_iterator_next_1 _)))
 show wpAny _ _ (field (.ref it) 0 >>= _) _ _ s
 refine wpAny_bind (wpAny_field ho hd (x:=.ref l) rfl ?_)
 show wpAny _ _ (if (Value.ref l == Value.none)=true then _ else _) _ _ s
 rw [if_neg (show ¬ ((Value.ref l == Value.none)=true) from Bool.false_ne_true)]
 show wpAny _ _ (field (.ref it) 1 >>= _) _ _ s
 refine wpAny_bind (wpAny_field ho hd (x:=.int i 0) rfl ?_)
 show wpAny _ _ (seqItems? (.ref l) >>= _) _ _ s
 refine wpAny_bind (wpAny_seqItems hol hdl ?_)
 simp only [Int.toNat_natCast,hx]
 refine wpAny_bind (wpAny_setField ho hd (by simp) (wpAny_pure ⟨x,rfl,wpAny_pure (hQ _ ⟨_,Heap.get?_update_self _ ho (Obj.isFreed_of_fields (Obj.data_mapFields hd _)),(Obj.cls_mapFields ..).trans hc,?_⟩ (Heap.SameBut.update ..))⟩))
 rw [Obj.data_mapFields hd]
 simp [rawInt]
theorem Qi {it l:Addr} {i:Nat} {xs:Array Value} {Q:Value->Shared->Prop} (hh:A.handled=none) (hi:s.heap.IsTupleIter it l i) (hl:s.heap.IsTuple l xs) (hx:xs[i]?=none)
  (hE:∀ g e,Heap.ExtBut it s.heap g->(∃ o,g.get? e=some o /\ o.cls=.type "StopIteration")->E (.ref e) { s with heap:=g }):wpAny (model P w) A (Builtin.SmallTypes.nextOf (.ref it)) Q E s:=by
 obtain ⟨o,ho,hc,hd⟩:=id hi
 obtain ⟨ol,hol,_,nl,hdl⟩:=hl
 unfold Builtin.SmallTypes.nextOf
 refine wpAny_bind (wpAny_callSpecial?_slot (name:=Str.ofString "__next__") hi.typeIs F.slot_tuple_iterator_next (wpAny_call_entry F.slot_tuple_iterator_next hi.typeIs F.entry_tuple_iterator_next ?_ (F.args_tuple_iterator_next_1 _)))
 show wpAny _ _ (field (.ref it) 0 >>= _) _ _ s
 refine wpAny_bind (wpAny_field ho hd (x:=.ref l) rfl ?_)
 show wpAny _ _ (if (Value.ref l == Value.none)=true then _ else _) _ _ s
 rw [if_neg (show ¬ ((Value.ref l == Value.none)=true) from Bool.false_ne_true)]
 show wpAny _ _ (field (.ref it) 1 >>= _) _ _ s
 refine wpAny_bind (wpAny_field ho hd (x:=.int i 0) rfl ?_)
 show wpAny _ _ (seqItems? (.ref l) >>= _) _ _ s
 refine wpAny_bind (wpAny_seqItems hol hdl ?_)
 simp only [Int.toNat_natCast,hx]
 refine wpAny_bind (wpAny_rule (wpAny_bind (wpAny_setField ho hd (by simp) ?_)))
 show wpAny _ _ (newExc (.type "StopIteration") [] >>= _) _ _ _
 refine wpAny_bind ?_
 simp only [newExc,newTuple]
 refine wpAny_bind (wpAny_newObj_type ?_ (by size_fits))
 refine wpAny_bind (m:=firstArgMember _ _) (wpAny_of_eq (a:=Value.none) (by first | rfl | (simp only [firstArgMember]; rfl)) ?_)
 refine wpAny_newObj_type ?_ (by size_fits)
 simp only [raiseNew]
 refine wpAny_bind (wpAny_handled ?_)
 first | rw [show A.in1.handled=none from hh] | rw [hh]
 exact wpAny_bind (wpAny_pure (wpAny_throw (hE _ _ (((Heap.SameBut.update ..).extBut.push _).push _) ⟨_,Heap.get?_push_size _ rfl,rfl⟩)))
noncomputable def SqAt (b:Bool) (h:Heap) (l:Addr) (xs:Array Value):Prop:=match b with
 | true=>h.IsTuple l xs
 | false=>h.IsList l xs
noncomputable def ItAt (b:Bool) (h:Heap) (it l:Addr) (i:Nat):Prop:=match b with
 | true=>h.IsTupleIter it l i
 | false=>h.IsListIter it l i
theorem SqAt.at {b:Bool} {h g:Heap} {l:Addr} {xs:Array Value} (x:SqAt b h l xs) (k:∀ o,h.get? l=some o->g.get? l=some o):SqAt b g l xs:=by
 cases b with
 | true=>exact Heap.IsTuple.at (show h.IsTuple l xs from x) k
 | false=>exact Heap.IsList.at (show h.IsList l xs from x) k
theorem ItAt.at {b:Bool} {h g:Heap} {it l:Addr} {i:Nat} (x:ItAt b h it l i) (k:∀ o,h.get? it=some o->g.get? it=some o):ItAt b g it l i:=by
 cases b with
 | true=>exact Heap.IsTupleIter.at (show h.IsTupleIter it l i from x) k
 | false=>exact Heap.IsListIter.at (show h.IsListIter it l i from x) k
theorem vg {b:Bool} {it l:Addr} {i:Nat} {xs:Array Value} {x:Value} {Q:Value->Shared->Prop} (hi:ItAt b s.heap it l i) (hl:SqAt b s.heap l xs) (hx:xs[i]?=some x)
  (hQ:∀ g,ItAt b g it l (i + 1)->Heap.SameBut it s.heap g->Q x { s with heap:=g }):wpAny (model P w) A (Builtin.SmallTypes.nextOf (.ref it)) Q E s:=by
 cases b with
 | true=>exact Th hi hl hx hQ
 | false=>exact wpAny_nextOf_list_item hi hl hx hQ
theorem kf {b:Bool} {it l:Addr} {i:Nat} {xs:Array Value} {Q:Value->Shared->Prop} (hh:A.handled=none) (hi:ItAt b s.heap it l i) (hl:SqAt b s.heap l xs) (hx:xs[i]?=none)
  (hE:∀ g e,Heap.ExtBut it s.heap g->(∃ o,g.get? e=some o /\ o.cls=.type "StopIteration")->E (.ref e) { s with heap:=g }):wpAny (model P w) A (Builtin.SmallTypes.nextOf (.ref it)) Q E s:=by
 cases b with
 | true=>exact Qi hh hi hl hx hE
 | false=>exact wpAny_nextOf_list_end hh hi hl hx hE
structure ZAt (b1 b2:Bool) (g:Heap) (z ti to i1 i2 l1 l2:Addr) (f:Value) (k:Nat):Prop where
 zz:IsZip g z ti to f
 its:IsPair g ti (.ref i1) (.ref i2)
 out:∃ a b,IsPair g to a b
 one:ItAt b1 g i1 l1 k
 two:ItAt b2 g i2 l2 k
structure ZNe (z ti to i1 i2:Addr):Prop where
 ab:ti ≠ z
 ac:to ≠ z
 ad:i1 ≠ z
 ae:i2 ≠ z
 bc:ti ≠ to
 bd:ti ≠ i1
 be:ti ≠ i2
 cd:to ≠ i1
 ce:to ≠ i2
 de:i1 ≠ i2
noncomputable def ZOff (z to i1 i2 c:Addr):Prop:=c ≠ z /\ c ≠ to /\ c ≠ i1 /\ c ≠ i2
theorem O3 {b1 b2:Bool} {z ti to i1 i2 l1 l2:Addr} {k:Nat} {xs ys:Array Value} {x y:Value} {Q:Value->Shared->Prop} (D:ZNe z ti to i1 i2) (d1:ZOff z to i1 i2 l1) (d2:ZOff z to i1 i2 l2) (Z:ZAt b1 b2 s.heap z ti to i1 i2 l1 l2 .none k)
  (t1:SqAt b1 s.heap l1 xs) (t2:SqAt b2 s.heap l2 ys) (hx:xs[k]?=some x) (hy:ys[k]?=some y)
  (hQ:∀ g,ZAt b1 b2 g z ti to i1 i2 l1 l2 (rawInt s.heap.objs.size) (k + 1)->IsPair g s.heap.objs.size x y->(∀ c o,ZOff z to i1 i2 c->s.heap.get? c=some o->g.get? c=some o)->Q (.ref s.heap.objs.size) { s with heap:=g }) :
  wpAny (model P w) A (Builtin.«zip.__next__» ⟨[.ref z],[]⟩) (fun fin s'=>∃ v,fin=.done (.ret v) /\ Q v s') E s:=by
 obtain ⟨hz,hti,⟨a,b,hto⟩,h1,h2⟩:=Z
 show wpAny _ _ (field (.ref z) 2 >>= _) _ _ _
 refine wpAny_bind (wpAny_field hz rfl (x:=.bool false) rfl ?_)
 show wpAny _ _ (field (.ref z) 3 >>= _) _ _ _
 refine wpAny_bind (wpAny_field hz rfl (x:=.ref ti) rfl ?_)
 refine wpAny_bind (wpAny_seqItems hti rfl ?_)
 show wpAny _ _ (Builtin.SmallTypes.ownedTupleIsFree (.ref z) >>= _) _ _ _
 refine wpAny_bind ?_
 unfold Builtin.SmallTypes.ownedTupleIsFree
 refine wpAny_bind (wpAny_field hz rfl (x:=.none) rfl (wpAny_pure ?_))
 simp only [if_true]
 refine wpAny_bind (wpAny_rule ?_)
 refine wpAny_bind (wpAny_field hz rfl (x:=.ref to) rfl ?_)
 refine wpAny_bind (wpAny_setField_rec hz (by simp) fun g1 z1 s1=>?_)
 replace z1:IsZip g1 z ti to .ellipsis:=z1
 refine wpAny_bind ?_
 simp only [List.zipIdx_cons,List.zipIdx_nil,List.forIn_cons,List.forIn_nil]
 refine wpAny_bind (wpAny_bind (wpAny_onRaise ?_))
 show wpAny _ _ (Builtin.SmallTypes.nextOf (.ref i1) >>= _) _ _ _
 refine wpAny_bind (vg (h1.at fun o e=>s1.extBut _ o D.ad e) (t1.at fun o e=>s1.extBut _ o d1.1 e) hx fun g2 p2 s2=>wpAny_pure ?_)
 have to2:IsPair g2 to a b:=s2.extBut _ _ D.cd (s1.extBut _ _ D.ac hto)
 refine wpAny_bind (wpAny_seqItems to2 rfl (wpAny_bind (wpAny_updateSeq_pair to2 fun g3 to3 s3=>?_)))
 replace to3:IsPair g3 to x b:=to3
 refine wpAny_bind (wpAny_letGo (wpAny_pure (wpAny_bind (wpAny_bind (wpAny_onRaise ?_)))))
 show wpAny _ _ (Builtin.SmallTypes.nextOf (.ref i2) >>= _) _ _ _
 refine wpAny_bind (vg (h2.at fun o e=>s3.extBut _ o D.ce.symm (s2.extBut _ o D.de.symm (s1.extBut _ o D.ae e))) (t2.at fun o e=>s3.extBut _ o d2.2.1 (s2.extBut _ o d2.2.2.1 (s1.extBut _ o d2.1 e))) hy fun g4 p4 s4=>wpAny_pure ?_)
 have to4:IsPair g4 to x b:=s4.extBut _ _ D.ce to3
 refine wpAny_bind (wpAny_seqItems to4 rfl (wpAny_bind (wpAny_updateSeq_pair to4 fun g5 to5 s5=>?_)))
 replace to5:IsPair g5 to x y:=to5
 refine wpAny_bind (wpAny_letGo (wpAny_pure (wpAny_pure (wpAny_bind (wpAny_seqItems to5 rfl (wpAny_bind (wpAny_newTuple ?_)))))))
 have sz:g5.objs.size=s.heap.objs.size:=by rw [s5.1,s4.1,s3.1,s2.1,s1.1]
 have z5:IsZip g5 z ti to .ellipsis:=s5.extBut _ _ D.ac.symm (s4.extBut _ _ D.ae.symm (s3.extBut _ _ D.ac.symm (s2.extBut _ _ D.ad.symm z1)))
 have kp5:∀ c o,ZOff z to i1 i2 c->s.heap.get? c=some o->g5.get? c=some o:=fun c o q e=>s5.extBut _ _ q.2.1 (s4.extBut _ _ q.2.2.2 (s3.extBut _ _ q.2.1 (s2.extBut _ _ q.2.2.1 (s1.extBut _ _ q.1 e))))
 have q1:ItAt b1 g5 i1 l1 (k + 1):=p2.at fun o e=>s5.extBut _ o D.cd.symm (s4.extBut _ o D.de (s3.extBut _ o D.cd.symm e))
 have q2:ItAt b2 g5 i2 l2 (k + 1):=p4.at fun o e=>s5.extBut _ o D.ce.symm e
 have lz:z < g5.objs.size:=Heap.lt_size z5
 show wpAny _ _ (Builtin.SmallTypes.ownedTupleHandOut (.ref z) (.ref g5.objs.size) >>= _) _ _ _
 refine wpAny_bind ?_
 unfold Builtin.SmallTypes.ownedTupleHandOut
 have z6:IsZip (g5.push { cls:=.type "tuple", data:=.seq #[x,y] }) z ti to .ellipsis:=Heap.get?_push_of_some _ z5
 refine wpAny_bind (wpAny_setField_rec z6 (by simp) fun g7 z7 s7=>?_)
 replace z7:IsZip g7 z ti to (rawInt g5.objs.size):=z7
 refine wpAny_setField_rec z7 (by simp) fun g8 z8 s8=>?_
 replace z8:IsZip g8 z ti to (rawInt g5.objs.size):=z8
 have up:∀ c o,c ≠ z->g5.get? c=some o->g8.get? c=some o:=fun c o c1 e=>s8.extBut _ _ c1 (s7.extBut _ _ c1 (Heap.get?_push_of_some _ e))
 have pr:IsPair g8 g5.objs.size x y:=s8.extBut _ _ (Nat.ne_of_gt lz) (s7.extBut _ _ (Nat.ne_of_gt lz) (Heap.get?_push_size _ rfl))
 rw [sz] at z8 pr
 refine wpAny_pure ⟨_,rfl,?_⟩
 show Q (.ref g5.objs.size) _
 rw [sz]
 exact hQ g8 ⟨z8,up _ _ D.ab (kp5 _ _ ⟨D.ab,D.bc,D.bd,D.be⟩ hti),⟨_,_,up _ _ D.ac to5⟩,q1.at fun o e=>up _ o D.ad e,q2.at fun o e=>up _ o D.ae e⟩ pr fun c o q e=>up c o q.1 (kp5 c o q e)
theorem K5 {b1 b2:Bool} {z ti to i1 i2 l1 l2:Addr} {k:Nat} {xs ys:Array Value} {Q:Fin->Shared->Prop} (hh:A.handled=none) (D:ZNe z ti to i1 i2) (d1:ZOff z to i1 i2 l1) (d2:ZOff z to i1 i2 l2) (Z:ZAt b1 b2 s.heap z ti to i1 i2 l1 l2 .none k)
  (t1:SqAt b1 s.heap l1 xs) (t2:SqAt b2 s.heap l2 ys) (hend:xs[k]?=none \/ ys[k]?=none)
  (hE:∀ g e,(∀ c o,ZOff z to i1 i2 c->s.heap.get? c=some o->g.get? c=some o)->(∃ o,g.get? e=some o /\ o.cls=.type "StopIteration")->E (.ref e) { s with heap:=g }) :
  wpAny (model P w) A (Builtin.«zip.__next__» ⟨[.ref z],[]⟩) Q E s:=by
 obtain ⟨hz,hti,⟨a,b,hto⟩,h1,h2⟩:=Z
 show wpAny _ _ (field (.ref z) 2 >>= _) _ _ _
 refine wpAny_bind (wpAny_field hz rfl (x:=.bool false) rfl ?_)
 show wpAny _ _ (field (.ref z) 3 >>= _) _ _ _
 refine wpAny_bind (wpAny_field hz rfl (x:=.ref ti) rfl ?_)
 refine wpAny_bind (wpAny_seqItems hti rfl ?_)
 show wpAny _ _ (Builtin.SmallTypes.ownedTupleIsFree (.ref z) >>= _) _ _ _
 refine wpAny_bind ?_
 unfold Builtin.SmallTypes.ownedTupleIsFree
 refine wpAny_bind (wpAny_field hz rfl (x:=.none) rfl (wpAny_pure ?_))
 simp only [if_true]
 refine wpAny_bind (wpAny_rule ?_)
 refine wpAny_bind (wpAny_field hz rfl (x:=.ref to) rfl ?_)
 refine wpAny_bind (wpAny_setField_rec hz (by simp) fun g1 z1 s1=>?_)
 replace z1:IsZip g1 z ti to .ellipsis:=z1
 refine wpAny_bind ?_
 simp only [List.zipIdx_cons,List.zipIdx_nil,List.forIn_cons,List.forIn_nil]
 refine wpAny_bind (wpAny_bind (wpAny_onRaise ?_))
 show wpAny _ _ (Builtin.SmallTypes.nextOf (.ref i1) >>= _) _ _ _
 cases hx:xs[k]? with
 | none =>
  refine wpAny_bind (kf hh (h1.at fun o e=>s1.extBut _ o D.ad e) (t1.at fun o e=>s1.extBut _ o d1.1 e) hx fun g2 e s2 he=>?_)
  obtain ⟨oe,hoe,hce⟩:=he
  have z2:IsZip g2 z ti to .ellipsis:=s2 _ _ D.ad.symm z1
  have ez:e ≠ z:=fun x=>by subst x; rw [z2] at hoe; cases hoe; simp at hce
  exact wpAny_setField_rec z2 (by simp) fun g3 _ s3=>hE g3 e (fun c o q x=>s3.extBut _ _ q.1 (s2 _ _ q.2.2.1 (s1.extBut _ _ q.1 x))) ⟨oe,s3.extBut _ _ ez hoe,hce⟩
 | some x =>
  have hy:ys[k]?=none:=by rcases hend with h | h; rw [hx] at h; cases h; exact h
  refine wpAny_bind (vg (h1.at fun o e=>s1.extBut _ o D.ad e) (t1.at fun o e=>s1.extBut _ o d1.1 e) hx fun g2 p2 s2=>wpAny_pure ?_)
  have to2:IsPair g2 to a b:=s2.extBut _ _ D.cd (s1.extBut _ _ D.ac hto)
  refine wpAny_bind (wpAny_seqItems to2 rfl (wpAny_bind (wpAny_updateSeq_pair to2 fun g3 to3 s3=>?_)))
  refine wpAny_bind (wpAny_letGo (wpAny_pure (wpAny_bind (wpAny_bind (wpAny_onRaise ?_)))))
  show wpAny _ _ (Builtin.SmallTypes.nextOf (.ref i2) >>= _) _ _ _
  refine wpAny_bind (kf hh (h2.at fun o e=>s3.extBut _ o D.ce.symm (s2.extBut _ o D.de.symm (s1.extBut _ o D.ae e))) (t2.at fun o e=>s3.extBut _ o d2.2.1 (s2.extBut _ o d2.2.2.1 (s1.extBut _ o d2.1 e))) hy fun g4 e s4 he=>?_)
  obtain ⟨oe,hoe,hce⟩:=he
  have z4:IsZip g4 z ti to .ellipsis:=s4 _ _ D.ae.symm (s3.extBut _ _ D.ac.symm (s2.extBut _ _ D.ad.symm z1))
  have ez:e ≠ z:=fun x=>by subst x; rw [z4] at hoe; cases hoe; simp at hce
  exact wpAny_setField_rec z4 (by simp) fun g5 _ s5=>hE g5 e (fun c o q x=>s5.extBut _ _ q.1 (s4 _ _ q.2.2.2 (s3.extBut _ _ q.2.1 (s2.extBut _ _ q.2.2.1 (s1.extBut _ _ q.1 x))))) ⟨oe,s5.extBut _ _ ez hoe,hce⟩
theorem Zi {b1 b2:Bool} {z ti to i1 i2 l1 l2:Addr} {k:Nat} {xs ys:Array Value} {x y:Value} {Q:Option Value->Shared->Prop} (D:ZNe z ti to i1 i2) (d1:ZOff z to i1 i2 l1) (d2:ZOff z to i1 i2 l2) (Z:ZAt b1 b2 s.heap z ti to i1 i2 l1 l2 .none k)
  (t1:SqAt b1 s.heap l1 xs) (t2:SqAt b2 s.heap l2 ys) (hx:xs[k]?=some x) (hy:ys[k]?=some y)
  (hQ:∀ g,ZAt b1 b2 g z ti to i1 i2 l1 l2 (rawInt s.heap.objs.size) (k + 1)->IsPair g s.heap.objs.size x y->(∀ c o,ZOff z to i1 i2 c->s.heap.get? c=some o->g.get? c=some o)->Q (some (.ref s.heap.objs.size)) { s with heap:=g }) :
  wpAny (model P w) A (pyNext (.ref z)) Q E s:=by
 have ty:s.TypeIs (.ref z) "zip":=⟨_,Z.zz,rfl⟩
 unfold pyNext
 exact wpAny_bind (wpAny_attempt (wpAny_callSpecial?_slot (name:=Str.ofString "__next__") ty F.slot_zip_next (wpAny_call_entry F.slot_zip_next ty F.entry_zip_next (O3 D d1 d2 Z t1 t2 hx hy fun g a b c=>wpAny_pure (hQ g a b c)) (F.args_zip_next_1 _))))
theorem Uj {b1 b2:Bool} {z ti to i1 i2 l1 l2:Addr} {k:Nat} {xs ys:Array Value} {Q:Option Value->Shared->Prop} (hh:A.handled=none) (D:ZNe z ti to i1 i2) (d1:ZOff z to i1 i2 l1) (d2:ZOff z to i1 i2 l2) (Z:ZAt b1 b2 s.heap z ti to i1 i2 l1 l2 .none k)
  (t1:SqAt b1 s.heap l1 xs) (t2:SqAt b2 s.heap l2 ys) (hend:xs[k]?=none \/ ys[k]?=none)
  (hQ:∀ g,(∀ c o,ZOff z to i1 i2 c->s.heap.get? c=some o->g.get? c=some o)->Q none { s with heap:=g }):wpAny (model P w) A (pyNext (.ref z)) Q E s:=by
 have ty:s.TypeIs (.ref z) "zip":=⟨_,Z.zz,rfl⟩
 unfold pyNext
 refine wpAny_bind (wpAny_attempt (wpAny_callSpecial?_slot (name:=Str.ofString "__next__") ty F.slot_zip_next (wpAny_call_entry F.slot_zip_next ty F.entry_zip_next (K5 hh D d1 d2 Z t1 t2 hend fun g e kp he=>?_) (F.args_zip_next_1 _))))
 obtain ⟨o,ho,hc⟩:=he
 refine wpAny_bind (wpAny_isInstance (T:="StopIteration") (b:=true) ⟨o,ho,hc⟩ isSubtype_stop ?_)
 exact wpAny_pure (hQ _ kp)
noncomputable def Ln (b:Bool):String:=match b with
 | true=>"tuple_iterator"
 | false=>"list_iterator"
noncomputable abbrev zh1 (b1:Bool) (h:Heap) (l1:Addr):Heap:=h.push { cls:=.type (Ln b1),data:=.fields #[.ref l1,.int 0 0] }
noncomputable abbrev zh2 (b1 b2:Bool) (h:Heap) (l1 l2:Addr):Heap:=(zh1 b1 h l1).push { cls:=.type (Ln b2),data:=.fields #[.ref l2,.int 0 0] }
noncomputable abbrev zh3 (b1 b2:Bool) (h:Heap) (l1 l2:Addr):Heap:=(zh2 b1 b2 h l1 l2).push { cls:=.type "tuple", data:=.seq #[.ref h.objs.size,.ref (zh1 b1 h l1).objs.size] }
noncomputable abbrev zh4 (b1 b2:Bool) (h:Heap) (l1 l2:Addr):Heap:=(zh3 b1 b2 h l1 l2).push { cls:=.type "tuple", data:=.seq #[.none,.none] }
noncomputable abbrev zh5 (b1 b2:Bool) (h:Heap) (l1 l2:Addr):Heap:=(zh4 b1 b2 h l1 l2).push { cls:=.type "zip", data:=.fields #[.none,.bool false,.bool false,.ref (zh2 b1 b2 h l1 l2).objs.size,.ref (zh3 b1 b2 h l1 l2).objs.size] }
theorem K4 (b1 b2:Bool) (l1 l2:Addr) (xs ys:Array Value) :
  Meets (Builtin.«zip.__new__» ⟨[.type "zip", .ref l1,.ref l2],[]⟩) (fun _ R s=>SqAt b1 s.heap l1 xs /\ SqAt b2 s.heap l2 ys /\ R (.ok (.ret (.ref (zh4 b1 b2 s.heap l1 l2).objs.size))) { s with heap:=zh5 b1 b2 s.heap l1 l2 }) :=
 .of_wp fun prog w A R s h=>by
  obtain ⟨hp,g,d,tk,os⟩:=s
  obtain ⟨a1,a2,h⟩:=h
  have hsub:=sub_zip
  cases b1 <;> cases b2
  ·have b1:Heap.IsList (Shared.heap ⟨hp,g,d,tk,os⟩) l1 xs:=a1
   have b2:Heap.IsList (Shared.heap ⟨hp.push { cls:=.type "list_iterator", data:=.fields #[.ref l1,.int 0 0] },g,d,tk,os⟩) l2 ys:=Heap.IsList.push a2 _
   wp_walk using wpAny_pyIter_list b1,wpAny_pyIter_list b2
   exact ⟨_,rfl,h⟩
  ·have b1:Heap.IsList (Shared.heap ⟨hp,g,d,tk,os⟩) l1 xs:=a1
   have b2:Heap.IsTuple (Shared.heap ⟨hp.push { cls:=.type "list_iterator", data:=.fields #[.ref l1,.int 0 0] },g,d,tk,os⟩) l2 ys:=Heap.IsTuple.push a2 _
   wp_walk using wpAny_pyIter_list b1,wpAny_pyIter_tuple b2
   exact ⟨_,rfl,h⟩
  ·have b1:Heap.IsTuple (Shared.heap ⟨hp,g,d,tk,os⟩) l1 xs:=a1
   have b2:Heap.IsList (Shared.heap ⟨hp.push { cls:=.type "tuple_iterator", data:=.fields #[.ref l1,.int 0 0] },g,d,tk,os⟩) l2 ys:=Heap.IsList.push a2 _
   wp_walk using wpAny_pyIter_tuple b1,wpAny_pyIter_list b2
   exact ⟨_,rfl,h⟩
  ·have b1:Heap.IsTuple (Shared.heap ⟨hp,g,d,tk,os⟩) l1 xs:=a1
   have b2:Heap.IsTuple (Shared.heap ⟨hp.push { cls:=.type "tuple_iterator", data:=.fields #[.ref l1,.int 0 0] },g,d,tk,os⟩) l2 ys:=Heap.IsTuple.push a2 _
   wp_walk using wpAny_pyIter_tuple b1,wpAny_pyIter_tuple b2
   exact ⟨_,rfl,h⟩
theorem Vn {b1 b2:Bool} {l1 l2:Addr} {xs ys:Array Value} {Q:Value->Shared->Prop} (t1:SqAt b1 s.heap l1 xs) (t2:SqAt b2 s.heap l2 ys)
  (h:∀ g,ZAt b1 b2 g (s.heap.objs.size + 4) (s.heap.objs.size + 2) (s.heap.objs.size + 3) s.heap.objs.size (s.heap.objs.size + 1) l1 l2 .none 0->(∀ c o,s.heap.get? c=some o->g.get? c=some o)->Q (.ref (s.heap.objs.size + 4)) { s with heap:=g }) :
  wpAny (model P w) A (call (.type "zip") [.ref l1,.ref l2]) Q E s:=by
 refine callType_new F.called_zip (by decide) (F.typeCall_zip_2 _ _) (F.newCall_zip_2 _ _) (fun obj=>F.args_object_init_3 obj _ _) F.entry_zip_new (K4 b1 b2 l1 l2 xs ys) ⟨t1,t2,?_⟩
 have n1:(zh1 b1 s.heap l1).objs.size=s.heap.objs.size + 1:=Heap.size_push ..
 have n2:(zh2 b1 b2 s.heap l1 l2).objs.size=s.heap.objs.size + 2:=by rw [Heap.size_push,n1]
 have n3:(zh3 b1 b2 s.heap l1 l2).objs.size=s.heap.objs.size + 3:=by rw [Heap.size_push,n2]
 have n4:(zh4 b1 b2 s.heap l1 l2).objs.size=s.heap.objs.size + 4:=by rw [Heap.size_push,n3]
 have g5:(zh5 b1 b2 s.heap l1 l2).get? (zh4 b1 b2 s.heap l1 l2).objs.size=some _:=Heap.get?_push_size _ rfl
 have g4:(zh5 b1 b2 s.heap l1 l2).get? (zh3 b1 b2 s.heap l1 l2).objs.size=some _:=Heap.get?_push_of_some _ (Heap.get?_push_size _ rfl)
 have g3:(zh5 b1 b2 s.heap l1 l2).get? (zh2 b1 b2 s.heap l1 l2).objs.size=some _:=Heap.get?_push_of_some _ (Heap.get?_push_of_some _ (Heap.get?_push_size _ rfl))
 have g2:(zh5 b1 b2 s.heap l1 l2).get? (zh1 b1 s.heap l1).objs.size=some _:=Heap.get?_push_of_some _ (Heap.get?_push_of_some _ (Heap.get?_push_of_some _ (Heap.get?_push_size _ rfl)))
 have g1:(zh5 b1 b2 s.heap l1 l2).get? s.heap.objs.size=some _:=Heap.get?_push_of_some _ (Heap.get?_push_of_some _ (Heap.get?_push_of_some _ (Heap.get?_push_of_some _ (Heap.get?_push_size _ rfl))))
 show _ /\ _
 rw [n2,n3,n4] at g5
 rw [n1,n2] at g3
 rw [n3] at g4
 rw [n1] at g2
 rw [n4]
 exact ⟨⟨_,g5,rfl⟩,h _ ⟨g5,g3,⟨_,_,g4⟩,(by cases b1 <;> exact ⟨_,g1,rfl,rfl⟩),(by cases b2 <;> exact ⟨_,g2,rfl,rfl⟩)⟩ fun c o e=>Heap.get?_push_of_some _ (Heap.get?_push_of_some _ (Heap.get?_push_of_some _ (Heap.get?_push_of_some _ (Heap.get?_push_of_some _ e))))⟩
end
end L3
namespace L3
open PySem PySem.Spec L2
open PyProof.Rows hiding St
theorem ItAt.there {b:Bool} {h:Heap} {it l:Addr} {i:Nat} (x:ItAt b h it l i):∃ o,h.get? it=some o /\ ∀ v,o.data ≠ .cell v:=by
 cases b with
 | true =>
  obtain ⟨o,e,c,d⟩:=(show h.IsTupleIter it l i from x)
  exact ⟨o,e,fun v q=>by rw [d] at q; cases q⟩
 | false =>
  obtain ⟨o,e,c,d⟩:=(show h.IsListIter it l i from x)
  exact ⟨o,e,fun v q=>by rw [d] at q; cases q⟩
noncomputable def SqK (b:Bool) (K:W.Frag) (H:Hp) (l:Addr) (xs:List V):Prop:=match b with
 | true=>SqT K H l xs
 | false=>SqL K H l xs
theorem Z6 {b:Bool} {X:Cx} {pn:List (Addr × Obj)} {σ:St} {H:Hp} {s:Shared} {l:Addr} {xs:List V} (I:Inv X pn σ H s) (h:SqK b X.K H l xs):∃ its,Vals xs its /\ SqAt b s.heap l its.toArray:=by
 cases b with
 | true =>
  obtain ⟨its,r,p,_⟩:=I.tuple h
  exact ⟨its,r,(show s.heap.IsTuple l its.toArray from p)⟩
 | false =>
  obtain ⟨its,r,p,_⟩:=I.list h
  exact ⟨its,r,p.isList⟩
theorem L6 {b:Bool} {X:Cx} {pn:List (Addr × Obj)} {σ:St} {H:Hp} {s:Shared} {l:Addr} {xs ys:List V} (I:Inv X pn σ H s) (h:SqK b X.K H l xs) (h':SqK b X.K H l ys):xs=ys:=by
 cases b with
 | true=>exact I.tuple_inj h h'
 | false=>exact I.list_inj h h'
theorem wl {b:Bool} {X:Cx} {pn:List (Addr × Obj)} {σ:St} {H:Hp} {s:Shared} {l c:Addr} {xs:List V} (I:Inv X pn σ H s) (h:SqK b X.K H l xs) (f:FpOk X pn H c):l ≠ c:=by
 have kc:∀ {o:Obj},X.K.lookup l=some o->l ≠ c:=fun {o} lk z=>by
  subst z
  have e:=I.ok.mod.kin _ _ lk
  rcases f.2.2.2.1 with q | q
  ·exact I.ok.noex _ _ e q
  ·exact absurd (Nat.lt_of_lt_of_le (Heap.lt_size e) I.ok.bsz) (Nat.not_lt.mpr q)
 cases b with
 | true =>
  rcases h with (h | ⟨o,h⟩) | ⟨o,its,n,lk,_⟩
  ·exact zm h f.1
  ·exact zm h f.1
  ·exact kc lk
 | false =>
  rcases h with (h | ⟨o,h⟩) | ⟨o,its,n,lk,_⟩
  ·exact zm h f.1
  ·exact zm h f.1
  ·exact kc lk
noncomputable def Itz (b1 b2:Bool) (K:W.Frag) (l1 l2:Addr):It :=
 ⟨fun i H=>∃ xs ys x y,SqK b1 K H l1 xs /\ SqK b2 K H l2 ys /\ xs[i]?=some x /\ ys[i]?=some y,
  fun i H v H'=>∃ T x y,H T=none /\ v=.ref T /\ (∀ xs,SqK b1 K H l1 xs->xs[i]?=some x) /\ (∀ ys,SqK b2 K H l2 ys->ys[i]?=some y) /\ H'=upd H T (.tup [x,y]),
  fun i H=>∃ xs ys,SqK b1 K H l1 xs /\ SqK b2 K H l2 ys /\ (xs.length <= i \/ ys.length <= i)⟩
theorem O7 {P:Program} {w:World} {K:W.Frag} {es:List Expr} {kk:Nat} {tp:Pos} {b1 b2:Bool} {z ti to i1 i2 l1 l2:Addr} (D:ZNe z ti to i1 i2) :
  Turn P w K (.Tuple es kk tp) (Itz b1 b2 K l1 l2) [z,ti,to,i1,i2] z (fun i h=>ZAt b1 b2 h z ti to i1 i2 l1 l2 .none i) where
 mem:=by simp
 obj:=fun i h Z b hb=>by
  obtain ⟨hz,hti,⟨u,v,hto⟩,h1,h2⟩:=Z
  obtain ⟨o1,e1,d1⟩:=h1.there
  obtain ⟨o2,e2,d2⟩:=h2.there
  simp only [List.mem_cons,List.not_mem_nil,or_false] at hb
  rcases hb with rfl | rfl | rfl | rfl | rfl
  ·exact ⟨_,hz,fun v q=>(by cases q)⟩
  ·exact ⟨_,hti,fun v q=>(by cases q)⟩
  ·exact ⟨_,hto,fun v q=>(by cases q)⟩
  ·exact ⟨o1,e1,fun v q=>d1 v q⟩
  ·exact ⟨o2,e2,fun v q=>d2 v q⟩
 keep:=fun i h h' Z k=>by
  obtain ⟨hz,hti,⟨u,v,hto⟩,h1,h2⟩:=Z
  exact ⟨k z (by simp) _ hz,k ti (by simp) _ hti,⟨u,v,k to (by simp) _ hto⟩,h1.at fun o e=>k i1 (by simp) o e,h2.at fun o e=>k i2 (by simp) o e⟩
 item:=by
  intro X hP hw hK hc i pn s σ H E I hf Z hg
  subst hP hw hK
  obtain ⟨xs,ys,x,y,e1,e2,hx,hy⟩:=hg
  obtain ⟨its1,r1,g1⟩:=Z6 I e1
  obtain ⟨its2,r2,g2⟩:=Z6 I e2
  obtain ⟨u,hu,ru⟩:=r1.get hx
  obtain ⟨v,hv,rv⟩:=r2.get hy
  have fz:=hf z (by simp)
  have fto:=hf to (by simp)
  have f1:=hf i1 (by simp)
  have f2:=hf i2 (by simp)
  have off:∀ b ho,H b=some ho->ZOff z to i1 i2 b:=fun b ho e=>⟨zm e fz.1,zm e fto.1,zm e f1.1,zm e f2.1⟩
  refine Zi D ⟨wl I e1 fz,wl I e1 fto,wl I e1 f1,wl I e1 f2⟩ ⟨wl I e2 fz,wl I e2 fto,wl I e2 f1,wl I e2 f2⟩ Z g1 g2 (x:=u) (y:=v) (by simpa using hu) (by simpa using hv) fun g Z2 pr kp=>?_
  have hn:H s.heap.objs.size=none:=I.fresh
  have hout:∀ b,b ∉ [z,to,i1,i2]->ZOff z to i1 i2 b:=fun b hb=>by
   simp only [List.mem_cons,List.not_mem_nil,or_false,not_or] at hb
   exact hb
  have un:Un (frs X.stack) [z,to,i1,i2] H (upd H s.heap.objs.size (.tup [x,y])) s.heap g :=
   ⟨fun b o q _ _ hx=>kp b o (hout b hx) q,fun b o q _ _ hx=>⟨o.slots,kp b o (hout b hx) q⟩,fun b o q n _=>by rw [y0 (Nat.ne_of_lt (Heap.lt_size q))]; exact n,fun b o q hx=>⟨o,kp b o (hout b hx) q⟩,
    fun b zs q=>by rw [y0 (zm q hn)]; exact q,fun b o zs q=>by rw [y0 (zm q hn)]; exact q,fun b ps q=>⟨#[],by rw [y0 (zm q hn),q]; simp⟩⟩
  have hok:HOk X.prog X.w (upd H s.heap.objs.size (.tup [x,y])) g:=fun b o e=>by
   by_cases hb:b=s.heap.objs.size
   ·subst hb
    rw [zi] at e
    cases e
    refine ⟨by simp only [zLc,zLn]; rw [sizeLine_eq]; decide,[u,v],.cons ru (.cons rv .nil),⟨_,pr,rfl,_,rfl⟩,_,pr,rfl⟩
   ·rw [y0 hb] at e
    refine (I.hok b o e).stay (fun c ob hc q=>kp c ob ?_ q) (fun c q=>by rw [y0 (zm q hn)]; exact q) fun c zs q=>by rw [y0 (zm q hn)]; exact q
    rcases hc with rfl | hc
    ·exact off _ _ e
    ·exact off _ _ hc
  have I2:Inv X pn σ (upd H s.heap.objs.size (.tup [x,y])) { s with heap:=g }:=I.call' (s':={ s with heap:=g }) (ch:=[z,to,i1,i2]) rfl un hok I.bare fun b hb=>by
   have hb':b ∈ [z,ti,to,i1,i2]:=by
    simp only [List.mem_cons,List.not_mem_nil,or_false] at hb ⊢
    rcases hb with rfl | rfl | rfl | rfl <;> simp
   have q:=hf b hb'
   exact ⟨q.2.2.2.1,q.2.1,q.2.2.2.2.1,q.2.2.2.2.2⟩
  have none5:∀ b ∈ [z,ti,to,i1,i2],upd H s.heap.objs.size (.tup [x,y]) b=none:=fun b hb=>by
   have lb:b < s.heap.objs.size:=by
    obtain ⟨hz,hti,⟨u,v,hto⟩,h1,h2⟩:=Z
    obtain ⟨_,q1,_⟩:=h1.there
    obtain ⟨_,q2,_⟩:=h2.there
    simp only [List.mem_cons,List.not_mem_nil,or_false] at hb
    rcases hb with rfl | rfl | rfl | rfl | rfl
    ·exact Heap.lt_size hz
    ·exact Heap.lt_size hti
    ·exact Heap.lt_size hto
    ·exact Heap.lt_size q1
    ·exact Heap.lt_size q2
   rw [y0 (Nat.ne_of_lt lb)]
   exact (hf b hb).1
  refine ⟨_,rfl,wpAny_letOwnedTupleGo_zip Z2.zz fun g2 z3 sb=>?_⟩
  refine ⟨.ref s.heap.objs.size,_,I2.turned (t':=s.toks) (fun b o hb e=>sb.extBut b o hb e) (none5 z (by simp)) fz.2.1 fz.2.2.2.1 fz.2.2.2.2.1 fz.2.2.2.2.2,rfl,⟨_,x,y,hn,rfl,(fun zs q=>by rw [<- L6 I e1 q]; exact hx),(fun zs q=>by rw [<- L6 I e2 q]; exact hy),rfl⟩,?_,none5⟩
  obtain ⟨_,hti,⟨u2,v2,hto⟩,h1,h2⟩:=Z2
  exact ⟨z3,sb.extBut _ _ D.ab hti,⟨u2,v2,sb.extBut _ _ D.ac hto⟩,h1.at fun o e=>sb.extBut _ o D.ad e,h2.at fun o e=>sb.extBut _ o D.ae e⟩
 done:=by
  intro X hP hw hK hc i pn s σ H E I hf Z hg
  subst hP hw hK
  obtain ⟨xs,ys,e1,e2,hend⟩:=hg
  obtain ⟨its1,r1,g1⟩:=Z6 I e1
  obtain ⟨its2,r2,g2⟩:=Z6 I e2
  have fz:=hf z (by simp)
  have fto:=hf to (by simp)
  have f1:=hf i1 (by simp)
  have f2:=hf i2 (by simp)
  have off:∀ b ho,H b=some ho->ZOff z to i1 i2 b:=fun b ho e=>⟨zm e fz.1,zm e fto.1,zm e f1.1,zm e f2.1⟩
  have l1':=r1.length
  have l2':=r2.length
  refine Uj (I.ok.hd hc) D ⟨wl I e1 fz,wl I e1 fto,wl I e1 f1,wl I e1 f2⟩ ⟨wl I e2 fz,wl I e2 fto,wl I e2 f1,wl I e2 f2⟩ Z g1 g2 ?_ fun g kp=>?_
  ·rcases hend with q | q
   ·exact .inl (by simp; omega)
   ·exact .inr (by simp; omega)
  ·refine ⟨rfl,?_⟩
   have hout:∀ b,b ∉ [z,to,i1,i2]->ZOff z to i1 i2 b:=fun b hb=>by
    simp only [List.mem_cons,List.not_mem_nil,or_false,not_or] at hb
    exact hb
   have un:Un (frs X.stack) [z,to,i1,i2] H H s.heap g :=
    ⟨fun b o q _ _ hx=>kp b o (hout b hx) q,fun b o q _ _ hx=>⟨o.slots,kp b o (hout b hx) q⟩,fun b o q n _=>n,fun b o q hx=>⟨o,kp b o (hout b hx) q⟩,
     fun b zs q=>q,fun b o zs q=>q,fun b ps q=>⟨#[],by rw [q]; simp⟩⟩
   refine I.call' (s':={ s with heap:=g }) (ch:=[z,to,i1,i2]) rfl un (fun b o e=>(I.hok b o e).stay (fun c ob hc q=>kp c ob ?_ q) (fun c q=>q) fun c zs q=>q) I.bare fun b hb=>?_
   ·rcases hc with rfl | hc
    ·exact off _ _ e
    ·exact off _ _ hc
   ·have hb':b ∈ [z,ti,to,i1,i2]:=by
     simp only [List.mem_cons,List.not_mem_nil,or_false] at hb ⊢
     rcases hb with rfl | rfl | rfl | rfl <;> simp
    have q:=hf b hb'
    exact ⟨q.2.2.2.1,q.2.1,q.2.2.2.2.1,q.2.2.2.2.2⟩
 self:=fun _ _ _ _ _ Z h=>wpAny_pyIter_zip Z.zz h
theorem X1:bootBuiltins "zip" = some (.type "zip"):=by kernel_rfl
noncomputable def iZip (K:W.Frag) (ta:TA):TI:=fun σ H R=>ta σ H fun vs H1=>∃ b1 b2 l1 l2 xs ys,vs=[.ref l1,.ref l2] /\ SqK b1 K H1 l1 xs /\ SqK b2 K H1 l2 ys /\ R (Itz b1 b2 K l1 l2) H1
theorem Fq {X:Cx} {es:List Expr} {kk:Nat} {tp:Pos} {a b:Expr} {ta:TA} {p pos:Pos} (hg:Gl X "zip") (hm:X.mg "zip" = none) (ha:PA X [a,b] ta)
  (he:starEach [a,b] X.env=(false,eval a X.env) :: starEach [b] X.env:=by rfl) (hpl:(backTo pos (starEach [b] X.env)).any (·.1)=false:=by rfl):PI X (.Tuple es kk tp) (.Call (.Name "zip" p) [a,b] [] pos) (iZip X.K ta):=by
 intro pn s σ H R I h
 refine wpAny_Call_Name_kw (rj I hg hm X1 ?_ (by decide) (by decide))
 refine PyProof.Rows.callWith_type1 (thn (ha pos pn s σ H _ I h) fun us s1 ⟨vs,H1,I1,r1,b1,b2,l1,l2,xs,ys,e,e1,e2,q⟩=>?_) he hpl
 subst e
 obtain ⟨u,v,rfl,ru,rv⟩:=K6 r1
 cases ru
 cases rv
 obtain ⟨its1,r1,g1⟩:=Z6 I1 e1
 obtain ⟨its2,r2,g2⟩:=Z6 I1 e2
 refine Vn (xs:=its1.toArray) (ys:=its2.toArray) g1 g2 fun g Z kp=>wpAny_pyIter_zip Z.zz ?_
 have D:ZNe (s1.heap.objs.size + 4) (s1.heap.objs.size + 2) (s1.heap.objs.size + 3) s1.heap.objs.size (s1.heap.objs.size + 1):=by
  constructor <;> (intro z; exact absurd (show (_:Nat)=_ from z) (by omega))
 refine ⟨_,_,_,_,H1,rfl,I1.kept (t':=s1.toks) kp,O7 D,Z,fun b hb=>?_,q⟩
 have lb:s1.heap.objs.size <= b:=by
  simp only [List.mem_cons,List.not_mem_nil,or_false] at hb
  rcases hb with rfl | rfl | rfl | rfl | rfl
  ·exact Nat.le_add_right _ _
  ·exact Nat.le_add_right _ _
  ·exact Nat.le_add_right _ _
  ·exact Nat.le_refl _
  ·exact Nat.le_add_right _ _
 exact I1.fpOk lb (I1.hok.fresh lb)
end L3
namespace DL
open PySem PySem.Spec L2 L3
open PyProof.Rows hiding St
structure FlyB (P:Program) (w:World) (outer:List Env) (H:Hp) (h:Heap) (H':Hp) (B:Heap) (h':Heap):Prop where
 un:Un (frs outer) [] H H' h h'
 hok:HOk P w H' h'
 cov:∀ b o,h'.get? b=some o->b ∉ frs outer->(H' b ≠ none \/ ∃ o0,h.get? b=some o0)->B.get? b=some o
noncomputable def CX1 (P:Program) (w:World):CXT:=fun outer H s E e s'=>∃ (a C:Addr) (t:Value) (H':Hp) (B:Heap),e=.ref a /\ s'.os=s.os /\ AllBare s'.gens /\ FlyB P w outer H s.heap H' B s'.heap /\
 Heap.FlyingW B outer a (.ref C) t s'.heap /\ E (.ref C) none H'
end DL
namespace DL
noncomputable def sg (t b:Int):Int:=if b < 0 then -(Int.gcd t b:Int) else Int.gcd t b
noncomputable def rt (t b:Int):Int × Int:=(t.fdiv (sg t b),b.fdiv (sg t b))
end DL
namespace DL
open PySem PySem.Spec L2 L3
open PyProof.Rows hiding St
variable {Γ:Hp->Prop}
open PySem.Builtin.Int (intBits)
theorem fdOk {i j:Int} {m:Nat} (h:j ≠ 0) (hb:intBits j <= m) (hm:m <= 8999:=by omega):FdOk i j:=by
 refine ⟨h,?_⟩
 unfold intBits at hb
 rw [if_neg (by simpa using h)] at hb
 omega
end DL
namespace DL
open PySem PySem.Spec L2 L3
open PyProof.Rows hiding St
open PySem.Builtin.Int (intBits)
theorem yp {n:Nat} {i:Int}:okD n (.int i)=True:=by cases n <;> rfl
theorem Zh {n:Nat} {i:Bool}:okD n (.bl i)=True:=by cases n <;> rfl
theorem Xo {n:Nat} {i:Str}:okD n (.str i)=True:=by cases n <;> rfl
theorem Qg {n:Nat}:okD n .non=True:=by cases n <;> rfl
theorem uq {n:Nat} {ds:List D} (h:0 < n):okD n (.tup ds)=∀ x ∈ ds,okD (n - 1) x:=by
 cases n with
 | zero=>omega
 | succ n=>rfl
theorem Ho {a b:Int}:eqD (.int a) (.int b)=(a == b):=rfl
theorem Hn {a b:Str}:eqD (.str a) (.str b)=(a == b):=rfl
theorem Ls {a b:Bool}:eqD (.bl a) (.bl b)=(a == b):=rfl
noncomputable def w1 (g:Int->(EV->Prop)->Prop):FT:=fun ds φ=>match ds with
 | [.int a]=>g a φ
 | _=>False
structure Sm (a b c d:Int):Prop where
 a:intBits a <= 3000
 b:intBits b <= 3000
 c:intBits c <= 3000
 d:intBits d <= 3000
end DL
namespace DL
open L2
theorem Cu {α:Type} {x:α} {l:List α}:atI (x :: l) 0=some x:=by
 rw [show (0:Int)=((0:Nat):Int) from rfl]
 exact bx rfl
theorem Ct {α:Type} {x y:α} {l:List α}:atI (x :: y :: l) 1=some y:=by
 rw [show (1:Int)=((1:Nat):Int) from rfl]
 exact bx rfl
theorem Cs {α:Type} {x y z:α} {l:List α}:atI (x :: y :: z :: l) 2=some z:=by
 rw [show (2:Int)=((2:Nat):Int) from rfl]
 exact bx rfl
end DL
namespace L2
open PySem PySem.Spec PyProof.Rows
section
variable {κ:Type} [DecidableEq κ]
noncomputable def valV (kvs:List (κ × V)) (k:κ):Option V:=(kvs.find? fun kv=>decide (kv.1=k)).map (·.2)
noncomputable def putK (kvs:List (κ × V)) (k:κ) (v:V):List (κ × V) :=
 if (kvs.any fun kv=>decide (kv.1=k))=true then kvs.map (fun kv=>if kv.1=k then (kv.1,v) else kv) else kvs ++ [(k,v)]
theorem fq {p:κ × V} {r:List (κ × V)} {k:κ} (e:p.1=k):valV (p :: r) k=some p.2:=by simp [valV,List.find?_cons,e]
theorem fu {p:κ × V} {r:List (κ × V)} {k:κ} (e:¬ p.1=k):valV (p :: r) k=valV r k:=by simp [valV,List.find?_cons,e]
theorem RelO.getD {o:Option V} {u:Option Value} {d:V} {d':Value} (r:RelO o u) (rd:RelV d d'):RelV (o.getD d) (u.getD d'):=by
 cases o with
 | none=>cases u with
  | none=>exact rd
  | some _=>exact (show False from r).elim
 | some _=>cases u with
  | none=>exact (show False from r).elim
  | some _=>exact r
theorem KV.val {kvs:List (κ × V)} {vs:List (κ × Value)} (r:KV kvs vs) (k:κ):RelO (valV kvs k) (valueAt vs k):=by
 unfold KV at r
 induction r with
 | nil=>exact True.intro
 | @cons p q ps qs h t ih =>
  obtain ⟨h1,h2⟩:=h
  by_cases e:p.1=k
  ·have e':q.1=k:=h1.symm.trans e
   have b:valueAt (q :: qs) k=some q.2:=by simp [valueAt,List.find?_cons,e']
   rw [fq e,b]; exact h2
  ·have e':¬ q.1=k:=fun z=>e (h1.trans z)
   have b:valueAt (q :: qs) k=valueAt qs k:=by simp [valueAt,List.find?_cons,e']
   rw [fu e,b]; exact ih
theorem KV.length {kvs:List (κ × V)} {vs:List (κ × Value)} (r:KV kvs vs):kvs.length=vs.length:=Paired.length r
end
theorem Jv {P:Program} {w:World} {k:Key} {u:Value} (r:RelV (kV k) u):(yg P w).is k u=true:=by
 cases k with
 | inl i=>obtain ⟨t,e⟩:=(show ∃ t,u=Value.int i t from r); subst e; exact Xq P w i t
 | inr x=>obtain ⟨t,e⟩:=(show ∃ t,u=Value.str x t from r); subst e; exact kg P w x t
theorem Y6 {P:Program} {w:World}:∀ {ks:List Key} {us:List Value},Vals (ks.map kV) us->ItemsAre (yg P w) ks us
 | [],_,r=>by rw [List.map_nil] at r; cases r; exact .nil
 | k :: ks,_,r=>by
  rw [List.map_cons] at r
  cases r with
  | cons h t=>exact .cons (Jv h) (Y6 t)
noncomputable abbrev KT (H:Hp):List (List Key × V)->List (List Key × Addr × Value)->Prop:=Paired fun p q=>p.1=q.1 /\ H q.2.1=some (.tup (p.1.map kV)) /\ RelV p.2 q.2.2
theorem KT.val {H:Hp} {kvs:List (List Key × V)} {xs:List (List Key × Addr × Value)} (r:KT H kvs xs) (k:List Key):RelO (valV kvs k) ((atKey xs k).map (·.2)):=by
 induction r with
 | nil=>exact True.intro
 | @cons p q ps qs h t ih =>
  obtain ⟨h1,_,h2⟩:=h
  by_cases e:p.1=k
  ·have e':q.1=k:=h1.symm.trans e
   have b:atKey (q :: qs) k=some q.2:=by simp [atKey,List.find?_cons,e']
   rw [fq e,b]; exact h2
  ·have e':¬ q.1=k:=fun z=>e (h1.trans z)
   have b:atKey (q :: qs) k=atKey qs k:=by simp [atKey,List.find?_cons,e']
   rw [fu e,b]; exact ih
section
variable {P:Program} {w:World} {H:Hp} {h:Heap} {a:Addr}
theorem Gx {u:HO} (ok:HOk P w H h) (e:Rd H a u):wj P w H h a u:=e.ok ok
theorem Mg {kvs:List (Key × V)} (ok:HOk P w H h) (e:Rd H a (.dK kvs)):kvs.length <= sizeLine /\ (a == sysModules)=false /\ ∃ vs,KV kvs vs /\ h.DictOf (yg P w) a vs :=
 show wj P w H h a (.dK kvs) from Gx ok e
theorem Dk {kvs:List (Key × V)} (ok:HOk P w H h) (e:H a=some (.dK kvs)):kvs.length <= sizeLine /\ (a == sysModules)=false /\ ∃ vs,KV kvs vs /\ h.DictOf (yg P w) a vs:=Mg ok (.inl e)
theorem Lj {ks:List Key} (ok:HOk P w H h) (e:H a=some (.tup (ks.map kV))):(tupleKind (yg P w)).is h ks a:=by
 obtain ⟨_,its,r,⟨o,h1,h2,n,h3⟩,_⟩:=(show wj P w H h a (.tup (ks.map kV)) from ok a _ e)
 exact ⟨o,its.toArray,n,h1,h2,h3,by simpa using Y6 r⟩
theorem Hr {kvs:List (List Key × V)} (ok:HOk P w H h) (e:Rd H a (.dT kvs)):kvs.length <= sizeLine /\ (a == sysModules)=false /\
  ∃ xs,KT H kvs xs /\ h.DictOfH (tupleKind (yg P w)) a xs:=by
 obtain ⟨z,y,xs,r,o,es,ep,h1,h2,h3,h4,h5⟩:=(show wj P w H h a (.dT kvs) from Gx ok e)
 refine ⟨z,y,xs,r,o,es,ep,h1,h2,h3,h4,fun x hx=>?_,h5⟩
 have all:∀ {l:List (List Key × V)} {m:List (List Key × Addr × Value)},KT H l m->∀ x ∈ m,(tupleKind (yg P w)).is h x.1 x.2.1:=by
  intro l m q
  induction q with
  | nil=>intro x hx; exact nomatch hx
  | @cons p q ps qs hq t ih =>
   intro x hx
   rcases List.mem_cons.mp hx with e | hx
   ·subst e
    exact Lj ok (by rw [<- hq.1]; exact hq.2.1)
   ·exact ih x hx
 exact all r x hx
end
noncomputable def DGet (H:Hp) (a:Addr) (y:V) (r:Option V):Prop :=
 (∃ kvs k,Rd H a (.dK kvs) /\ y=kV k /\ r=valV kvs k) \/ ∃ kvs k b,Rd H a (.dT kvs) /\ y=.ref b /\ H b=some (.tup (k.map kV)) /\ r=valV kvs k
noncomputable def DPut (H:Hp) (a:Addr) (y v:V) (H':Hp):Prop :=
 (∃ kvs k,H a=some (.dK kvs) /\ y=kV k /\ kvs.length < sizeLine /\ H'=upd H a (.dK (putK kvs k v))) \/
 ∃ kvs k b,H a=some (.dT kvs) /\ y=.ref b /\ H b=some (.tup (k.map kV)) /\ kvs.length < sizeLine /\ H'=upd H a (.dT (putK kvs k v))
theorem DGet.k {H:Hp} {a:Addr} {kvs:List (Key × V)} {k:Key} (e:H a=some (.dK kvs)):DGet H a (kV k) (valV kvs k):=.inl ⟨kvs,k,.inl e,rfl,rfl⟩
theorem DGet.t {H:Hp} {a b:Addr} {kvs:List (List Key × V)} {k:List Key} (e:H a=some (.dT kvs)) (eb:H b=some (.tup (k.map kV))):DGet H a (.ref b) (valV kvs k):=.inr ⟨kvs,k,b,.inl e,rfl,eb,rfl⟩
theorem DPut.t {H:Hp} {a b:Addr} {kvs:List (List Key × V)} {k:List Key} {v:V} (e:H a=some (.dT kvs)) (eb:H b=some (.tup (k.map kV))) (hl:kvs.length < sizeLine) :
  DPut H a (.ref b) v (upd H a (.dT (putK kvs k v))):=.inr ⟨kvs,k,b,e,rfl,eb,hl,rfl⟩
section
variable {X:Cx} {pn:List (Addr × Obj)} {σ:St} {H:Hp} {s:Shared} {a:Addr} {y v:V} {u r:Value} {o:Option V} {A:Around} {E:Value->Shared->Prop}
theorem Inv.big (I:Inv X pn σ H s):sysModules < s.heap.objs.size:=by
 have h:mainGlobals < s.heap.objs.size:=(I.mod.glob.keeps I.bk).lt
 exact Nat.lt_trans (by decide) h
theorem Po {Q:Value->Shared->Prop} (hu:A.units + 1 < cLine) (I:Inv X pn σ H s) (g:DGet H a y (some v)) (ry:RelV y u) (h:∀ w' s',Inv X pn σ H s'->RelV v w'->Q w' s') :
  wpAny (model X.prog X.w) A (getItem (.ref a) u) Q E s:=by
 rcases g with ⟨kvs,k,e,ey,l⟩ | ⟨kvs,k,b,e,ey,eb,l⟩
 ·subst ey
  obtain ⟨z,hd,vs,rel,dd⟩:=Mg I.hok e
  obtain ⟨w',hw,rw'⟩:=RelO.some_of (v:=v) (o:=valueAt vs k) (by rw [l]; exact rel.val k)
  exact wpAny_getItem_of (Jv ry) dd.mapOf hw (h w' _ (I.tok _) rw')
 ·subst ey
  cases (show u=Value.ref b from ry)
  obtain ⟨z,hd,xs,rel,dd⟩:=Hr I.hok e
  obtain ⟨w',hw,rw'⟩:=RelO.some_of (v:=v) (o:=(atKey xs k).map (·.2)) (by rw [l]; exact rel.val k)
  obtain ⟨p,hp,hp2⟩:=Option.map_eq_some_iff.mp hw
  refine wpAny_getItem_heap (tupleKind_room_in1 hu) (Lj I.hok eb) dd hp ?_
  rw [hp2]
  exact h w' _ (I.tok _) rw'
theorem Hs {h':Heap} {t':Nat} {ob:HO} (I:Inv X pn σ H s) (mu:Mut (H a)) (hs:Heap.SameBut a s.heap h') (he:∃ q,h'.get? a=some q) (new:wj X.prog X.w (upd H a ob) h' a ob) :
  Inv X pn σ (upd H a ob) { s with heap:=h',toks:=t' } :=
 I.write (x:=a) (e:=a) mu (.inl rfl) (fun b q hb z=>(hs.2 b hb).trans z) he new
theorem Pn {P:Program} {w:World} {H':Hp} {h':Heap} {kvs:List (Key × V)} {vs:List (Key × Value)} (z:kvs.length <= sizeLine) (hd:(a == sysModules)=false) (rel:KV kvs vs) (dd:h'.DictOf (yg P w) a vs) :
  wj P w H' h' a (.dK kvs):=⟨z,hd,vs,rel,dd⟩
end
theorem Vj {X:Cx} {pn:List (Addr × Obj)} {σ:St} {H:Hp} {s:Shared} {a:Addr} {y:V} {o:Option V} (I:Inv X pn σ H s) (g:DGet H a y o):s.TypeIs (.ref a) "dict":=by
 rcases g with ⟨kvs,k,e,_,_⟩ | ⟨kvs,k,b,e,_,_,_⟩
 ·obtain ⟨_,_,vs,_,dd⟩:=Mg I.hok e
  exact dd.typeIs
 ·obtain ⟨_,_,xs,_,dd⟩:=Hr I.hok e
  exact dd.typeIs
structure M1 (X:Cx) (o:Expr) (m:Str) (apos:Pos) (e:Expr) (cpos:Pos):Prop where
 base:attributeBase o m X.env (eval o X.env)=eval o X.env
 few:((backTo cpos (starEach [e] X.env)).all (fun x=>!x.1) && (backToKw cpos (keywordEach [] X.env)).all (fun x=>x.1.isSome)
  && decide (([e]:List Expr).length + ([]:List Keyword).length + (if ([]:List Keyword).isEmpty then 0 else 1) < 30))=true
 line:(apos.endLine == cpos.line)=true
 trees:backTo cpos (starEach [e] X.env)=[(false,eval e X.env)]
noncomputable def IsD (H:Hp) (a:Addr):Prop:=(∃ kvs,Rd H a (.dK kvs)) \/ ∃ kvs,Rd H a (.dT kvs)
theorem D5 {X:Cx} {pn:List (Addr × Obj)} {σ:St} {H:Hp} {s:Shared} {a:Addr} (I:Inv X pn σ H s) (d:IsD H a) :
  s.TypeIs (.ref a) "dict" /\ (∀ b,Value.ref a=.ref b->∃ ob,s.heap.get? b=some ob /\ ob.dict=none) /\ (a == sysModules)=false:=by
 rcases d with ⟨kvs,e⟩ | ⟨kvs,e⟩
 ·obtain ⟨_,hd,vs,_,dd⟩:=Mg I.hok e
  refine ⟨dd.typeIs,fun b q=>?_,hd⟩
  cases q
  obtain ⟨ob,_,_,h1,h2,_⟩:=dd
  exact ⟨ob,h1,h2.2.1⟩
 ·obtain ⟨_,hd,xs,_,dd⟩:=Hr I.hok e
  refine ⟨dd.typeIs,fun b q=>?_,hd⟩
  cases q
  obtain ⟨ob,_,_,h1,h2,_⟩:=dd
  exact ⟨ob,h1,h2.2.1⟩
end L2
namespace DL
open PySem PySem.Spec L2 L3
open PyProof.Rows hiding St
variable {Γ:Hp->Prop}
noncomputable instance decMemKey (k:Key) (ks:List Key):Decidable (k ∈ ks):=decidable_of_iff (ks.any (fun x=>decide (x=k))=true) (by simp)
section
variable {α:Type}
noncomputable def qf:List Key->List α->Key->Option α
 | k' :: ks,d :: ds,k=>if k'=k then some d else qf ks ds k
 | _,_,_=>none
noncomputable def kput (ks:List Key) (k:Key):List Key:=if k ∈ ks then ks else ks ++ [k]
noncomputable def dput:List Key->List α->Key->α->List α
 | k' :: ks,d' :: ds,k,d=>if k'=k then d :: ds else d' :: dput ks ds k d
 | _,_,_,d=>[d]
end
theorem Vp:∀ (ks:List Key) (xs:List V) (k:Key),valV (ks.zip xs) k=qf ks xs k
 | [],xs,k=>by cases xs <;> rfl
 | k' :: ks,[],k=>rfl
 | k' :: ks,x :: xs,k=>by
  rw [List.zip_cons_cons,qf]
  by_cases e:k'=k
  ·rw [if_pos e,fq (by exact e)]
  ·rw [if_neg e,fu (by exact e),Vp ks xs k]
section
variable {K:W.Frag} {H:Hp} {O:List Addr}
theorem Zc:∀ {ks:List Key} {ds:List D} {xs:List V} {k:Key},Reps K H O ds xs->(∀ d,qf ks ds k=some d->∃ v,qf ks xs k=some v /\ Rep K H O d v) /\ (qf ks ds k=none->qf ks xs k=none)
 | [],ds,xs,k,r=>⟨(fun d h=>by cases ds <;> cases h),(fun _=>by cases xs <;> rfl)⟩
 | k' :: ks,[],xs,k,r=>by
  cases r
  exact ⟨(fun d h=>by cases h),fun _=>rfl⟩
 | k' :: ks,d' :: ds,xs,k,r=>by
  obtain ⟨v,ws,rfl,q,t⟩:=r
  rw [qf,qf]
  by_cases e:k'=k
  ·rw [if_pos e,if_pos e]
   exact ⟨(fun d h=>by cases h; exact ⟨v,rfl,q⟩),(fun h=>by cases h)⟩
  ·rw [if_neg e,if_neg e]
   exact Zc t
end
noncomputable def keyD:D->Option Key
 | .int i=>some (.inl i)
 | .str x=>some (.inr x)
 | _=>none
theorem Nq {K:W.Frag} {H:Hp} {O:List Addr} {d:D} {v:V} {k:Key} (h:View K H O d v) (e:keyD d=some k):v=kV k:=by
 cases d with
 | int i=>cases e; exact h
 | str i=>cases e; exact h
 | _=>cases e
section
variable {X:Cx} {a b c e o:Expr} {es:List Expr} {ta tb tc te td:TD} {t:TDs} {pos:Pos}
noncomputable def M8:D->Bool
 | .non=>true
 | .bl _=>true
 | .int _=>true
 | .str _=>true
 | _=>false
noncomputable def inD (x:D) (l:List D):Bool:=l.any fun y=>eqD y x
noncomputable def sIn (neg:Bool):D->D->(EV->Prop)->Prop:=fun x y φ=>match y with
 | .dk ks _=>(match keyD x with | some k=>φ (dv (.bl (if neg then !decide (k ∈ ks) else decide (k ∈ ks)))) | none=>False)
 | .lst l=>M8 x=true /\ l.all M8=true /\ φ (dv (.bl (if neg then !inD x l else inD x l)))
 | .tup l=>M8 x=true /\ l.all M8=true /\ φ (dv (.bl (if neg then !inD x l else inD x l)))
 | .str z=>(match x with | .str p=>φ (dv (.bl (if neg then !(!(Builtin.Str.occurrences z p 0 z.length 1).isEmpty) else !(Builtin.Str.occurrences z p 0 z.length 1).isEmpty))) | _=>False)
 | _=>False
noncomputable def sIxx:D->D->(EV->Prop)->Prop:=fun x y φ=>match x with
 | .dk ks ds=>(match keyD y with
  | some k=>(match qf ks ds k with
   | some d=>φ (dv d)
   | none=>False)
  | none=>False)
 | x=>sIx x y φ
theorem Jx (hu:X.A.units + 1 < cLine):IxR X (fun x y H Q=>∃ a kvs k v,x=.ref a /\ H a=some (.dK kvs) /\ y=kV k /\ valV kvs k=some v /\ Q v H):=by
 intro value slice pn s σ H x y v u Q I rx ry h hs
 obtain ⟨a,kvs,k,w,rfl,ha,rfl,e,q⟩:=h
 cases rx
 have g:DGet H a (kV k) (some w):=by rw [<- e]; exact DGet.k ha
 exact tail_any (Vj I g) PySem.F.slot_dict_getitem.lookup (Po hu I g ry fun w' s' I' rw'=>⟨w,H,I',rw',q⟩) hs
theorem Nf:qi X.K (fun x y H Q=>rIx X.K x y H Q \/ ∃ a kvs k v,x=.ref a /\ H a=some (.dK kvs) /\ y=kV k /\ valV kvs k=some v /\ Q v H) sIxx:=by
 intro H O x y vx vy φ Q ho hx hy h k
 cases x with
 | dk ks ds =>
  obtain ⟨a,xs,rfl,q,l,nd,r⟩:=hx
  unfold sIxx at h
  dsimp only at h
  split at h
  ·rename_i kk ek
   split at h
   ·rename_i d ed
    obtain ⟨v,ev,rv⟩:=(Zc (ks:=ks) (k:=kk) r).1 d ed
    exact .inr ⟨a,_,kk,v,rfl,q,Nq hy ek,by rw [Vp]; exact ev,k _ _ H (Same.refl H) (RV.val rv) h⟩
   ·exact h.elim
  ·exact h.elim
 | _=>exact .inl (Jn H O _ y vx vy φ Q ho hx hy h k)
theorem ze (hu:X.A.units + 64 < cLine) (ha:ED Γ X a ta) (hb:ED Γ X b tb) (hs:Vm b:=by intro _ _; rfl):ED Γ X (.Subscript a b pos) (d2 sIxx ta tb):=fun H₀=>impE (E1 (Lk.or (Jx (by omega))) (ha H₀) (hb H₀) hs) (Nj Nf)
end
section
variable {X:Cx} {x:Str} {e ke:Expr} {te tk:TD} {np pos pos':Pos}
noncomputable def Gq (i:Nat) (tk te:TD):TDS:=fun ρ Z=>match slot ρ i with
 | some ⟨.own,.dk ks ds⟩=>te ρ fun r=>tk ρ fun kr=>(match r.k with | .own=>False | _=>True) /\ ds.length <= 100000 /\ (match keyD kr.d with
  | some k=>Z.nx (setS ρ i (dO (.dk (kput ks k) (dput ks ds k r.d))))
  | none=>False)
 | _=>False
end
noncomputable def XP (Γ:Hp->Prop) (X:Cx) (χ:DE->Addr->Prop):Prop:=∀ (H₀:Hp),Γ H₀->∀ (ρ:DE) (o:List (Nat × Addr)) (pn:List (Addr × Obj)) (σ:St) (H:Hp) (s:Shared) (e:Value) (s':Shared),Inv X pn σ H s->REnv X.K H₀ H σ ρ o ->
 CX1 X.prog X.w X.stack H s (fun cls _ H'=>Same H H' /\ ∃ C,cls=.ref C /\ χ ρ C) e s'->X.xe e s'
section
variable {P:Program} {w:World} {K:W.Frag} {mg:Str->Option Value} {base:Heap}
theorem ud {N:List Str} {ds:List D} {vs:List V} {H:Hp} (r:Reps K H [] ds vs):REnv K H H (L2.start N vs) (xh N.length ds) []:=by
 have rl:=r.length
 refine ⟨Same.refl H,(fun _ z=>absurd z (by simp)),(fun _ z=>absurd z (by simp)),(fun _ z=>absurd z (by simp)),List.nodup_nil,fun i r' e=>?_,?_⟩
 ·unfold xh at e
  rcases Nat.lt_or_ge i ds.length with hi | hi
  ·rw [List.getElem?_append_left (by simpa using hi),List.getElem?_map] at e
   have ed:ds[i]?=some ds[i]:=by simp [hi]
   rw [ed] at e
   have e':some (dv ds[i])=some r':=Option.some.inj e
   cases e'
   obtain ⟨v,ev,rv⟩:=r.get ed
   refine ⟨v,?_,.inl ⟨rfl,rv⟩⟩
   unfold L2.start
   rw [List.getElem?_append_left (by rw [zLm,rl]; exact hi),List.getElem?_map,ev]
   rfl
  ·rw [List.getElem?_append_right (by simpa using hi),List.getElem?_replicate] at e
   split at e <;> cases e
 ·unfold L2.start xh
  simp [rl]
end
open PySem.Builtin.Int (intBits)
theorem cp10 {j:Int} (h0:0 <= j) (h1:j <= 1000):CPow 10 j=True:=by
 refine eq_true ⟨h0,by omega,by decide⟩
theorem Rb {k:Nat}:((10:Int) ^ k=0)=False:=by
 refine eq_false ?_
 have:(0:Int) < 10 ^ k:=Int.pow_pos (by decide)
 omega
theorem Pa {i j:Int} (h:j ≠ 0) (h1:j.natAbs <= 1000000000000):FdOk i j=True:=eq_true (fdOk (m:=64) h (PySem.intBits_le_iff.mpr (by omega)))
theorem Uy (l:List D) (j k:Nat):cutD l (some (j:Int)) (some (k:Int))=(l.drop j).take (k - j):=by
 unfold cutD
 rw [HT.sIx_nat,HT.sIx_nat]
 by_cases h:j <= l.length
 ·rw [Nat.min_eq_left h,List.take_eq_take_iff,List.length_drop]
  omega
 ·rw [show min j l.length=l.length by omega,List.drop_of_length_le (Nat.le_refl _),List.drop_of_length_le (by omega)]
  simp
theorem rm {α:Type} {l:List α} {i:Int} {x:α} (h0:0 <= i) (h:l[i.toNat]?=some x):atI l i=some x:=by
 have:=bx h
 rwa [Int.toNat_of_nonneg h0] at this
theorem uj (x m:Int) (h:0 < m):0 <= x.fmod m /\ x.fmod m < m:=⟨Int.fmod_nonneg_of_pos x h,Int.fmod_lt_of_pos x h⟩
theorem Lz {x:Int} {m:Nat} (h:x.natAbs < 2 ^ m):intBits x <= m:=PySem.intBits_le_iff.mpr h
end DL
namespace DL
open PySem PySem.Spec L2 L3
theorem tz {ti:TID} {g:TGD} {tb:TDS} {ρ:DE} {Z:DZ} (ds:List D) (h:∀ φ:List D->Prop,φ ds->ti ρ φ) (P:Nat->DE->Prop) (h0:P 0 ρ)
  (ht:∀ i d ρ,ds[i]?=some d->P i ρ->g d ρ fun ρ'=>tb ρ' { Z with nx:=P (i + 1),ct:=P (i + 1),bk:=Z.nx }) (hd:∀ ρ,P ds.length ρ->Z.nx ρ):sFor ti g tb ρ Z:=h _ ⟨P,h0,ht,hd⟩
theorem wo {ti:TID} {n:Nat} {js:List Nat} {g:TGD} {tc:TDb} {te:TD} {ρ:DE} {φ:EV->Prop} (ds:List D) (h:∀ ψ:List D->Prop,ψ ds->ti ρ ψ) (f:D->Option D) (hl:ds.length <= 100000)
  (ht:∀ d ∈ ds,g d (ρ0 n js ρ) fun ρ'=>tc ρ' fun c=>(c=true->te ρ' fun r=>(match r.k with | .own=>False | _=>True) /\ f d=some r.d) /\ (c=false->f d=none)) (hφ:φ (df (.lst (ds.filterMap f)))):Mi ti n js g tc te ρ φ:=h _ ⟨f,hl,ht,hφ⟩
theorem Q4 {lo:Int} {n i:Nat} {d:D} (h:(rngD lo n)[i]?=some d):i < n /\ d=.int (lo + (i:Int)):=by
 unfold rngD at h
 rw [List.getElem?_map] at h
 cases e:(List.range n)[i]? with
 | none=>rw [e] at h; cases h
 | some m =>
  rw [e] at h
  have hi:=(List.getElem?_eq_some_iff.mp e).1
  rw [List.length_range] at hi
  rw [List.getElem?_range hi] at e
  cases e
  cases h
  exact ⟨hi,rfl⟩
theorem Q3 {lo:Int} {n:Nat}:(rngD lo n).length=n:=by unfold rngD; simp
theorem Hw {α β:Type} (f:α->β) (l:List α) (i:Int):atI (l.map f) i=(atI l i).map f:=by
 unfold atI
 rw [zLm]
 cases ixN l.length i with
 | none=>rfl
 | some j=>simp
end DL
namespace DL
open PySem PySem.Spec L2 L3
open PyProof.Rows hiding St
theorem Xl {X:Cx} {K0:W.Frag} {es:List Expr} {k:Nat} {t:TGs} {n:Nat} {pos:Pos} (hK:X.K=K0) (hc:X.calm=true) (h:PGs X es t) (hn:(assignEach es X.env).length=n:=by rfl) (hst:(assignEach es X.env).findIdx? (·.1)=none:=by rfl):PG X (.Tuple es k pos) (gTup K0 n t):=by
 subst hK
 exact Fs hc h hn hst
end DL
namespace DL
open PySem PySem.Spec L2 L3
open PyProof.Rows hiding St
variable {Γ:Hp->Prop}
noncomputable def zipD (xs ys:List D):List D:=List.zipWith (fun x y=>D.tup [x,y]) xs ys
noncomputable def seqD:D->Option (List D)
 | .lst ds=>some ds
 | .tup ds=>some ds
 | .scr ns=>some (ns.map D.int)
 | _=>none
theorem Om {ds:List D}:seqD (.lst ds)=some ds:=rfl
theorem Oj {ds:List D}:seqD (.tup ds)=some ds:=rfl
theorem Ol {ns:List Int}:seqD (.scr ns)=some (ns.map D.int):=rfl
noncomputable def SeqP (b:Bool) (K:W.Frag) (H:Hp) (O:List Addr) (l:Addr) (d:D):Prop:=match d with
 | .lst ds=>b=false /\ ∃ xs,H l=some (.lst xs) /\ l ∉ O /\ Reps K H O ds xs
 | .tup ds=>b=true /\ ∃ xs,SqT K H l xs /\ Reps K H O ds xs
 | .scr ns=>b=false /\ Scr K H l ns
 | _=>False
theorem SeqP.of {K:W.Frag} {H:Hp} {O:List Addr} {d:D} {v:V} {ds:List D} (h:Rep K H O d v) (e:seqD d=some ds):∃ b l,v=.ref l /\ SeqP b K H O l d:=by
 cases d with
 | lst es=>obtain ⟨a,xs,rfl,q,n,r⟩:=h; exact ⟨false,a,rfl,rfl,xs,q,n,r⟩
 | tup es=>obtain ⟨a,xs,rfl,q,r⟩:=h; exact ⟨true,a,rfl,rfl,xs,q.1,r⟩
 | scr ns=>obtain ⟨a,rfl,q⟩:=h; exact ⟨false,a,rfl,rfl,q⟩
 | _=>cases e
theorem SeqP.sq {b:Bool} {K:W.Frag} {H:Hp} {O:List Addr} {l:Addr} {d:D} {ds:List D} (h:SeqP b K H O l d) (e:seqD d=some ds):∃ xs,SqK b K H l xs /\ Reps K H O ds xs:=by
 cases d with
 | lst es=>obtain ⟨rfl,xs,q,n,r⟩:=h; cases e; exact ⟨xs,SqL.of q,r⟩
 | tup es=>obtain ⟨rfl,xs,q,r⟩:=h; cases e; exact ⟨xs,q,r⟩
 | scr ns=>obtain ⟨rfl,q⟩:=h; cases e; exact ⟨_,q.seq,Reps.ints ns⟩
 | _=>cases e
theorem SeqP.grow {b:Bool} {K:W.Frag} {H H':Hp} {O O':List Addr} {l:Addr} {d:D} (h:SeqP b K H O l d) (g:Grow O O' H H'):SeqP b K H' O' l d:=by
 cases d with
 | lst es=>obtain ⟨rfl,xs,q,n,r⟩:=h; exact ⟨rfl,xs,(g.keep _ _ q n).1,(g.keep _ _ q n).2,Reps.grow g _ _ r⟩
 | tup es=>obtain ⟨rfl,xs,q,r⟩:=h; exact ⟨rfl,xs,d9 g q,Reps.grow g _ _ r⟩
 | scr ns=>obtain ⟨rfl,q⟩:=h; exact ⟨rfl,qj g q⟩
 | _=>exact h.elim
section
variable {X:Cx} {pn:List (Addr × Obj)} {σ:St} {H:Hp} {s:Shared}
theorem Ey {K:W.Frag} {b1 b2:Bool} {l1 l2:Addr} {d1 d2:D} {xs ys:List D} (e1:seqD d1=some xs) (e2:seqD d2=some ys):ItD K (Itz b1 b2 K l1 l2) (zipD xs ys) (fun H O=>SeqP b1 K H O l1 d1 /\ SeqP b2 K H O l2 d2) where
 go:=fun H O i d ⟨p1,p2⟩ e=>by
  obtain ⟨us,q1,r1⟩:=p1.sq e1
  obtain ⟨vs,q2,r2⟩:=p2.sq e2
  unfold zipD at e
  rw [List.getElem?_zipWith] at e
  cases ex:xs[i]? with
  | none=>rw [ex] at e; cases e
  | some x =>
   cases ey:ys[i]? with
   | none=>rw [ex,ey] at e; cases e
   | some y =>
    rw [ex,ey] at e
    cases e
    obtain ⟨u,eu,ru⟩:=r1.get ex
    obtain ⟨v,ev,rv⟩:=r2.get ey
    refine ⟨⟨us,vs,u,v,q1,q2,eu,ev⟩,fun z H' yl=>?_⟩
    obtain ⟨T,u',v',hT,rfl,eu',ev',rfl⟩:=yl
    have eu':=eu' _ q1
    have ev':=ev' _ q2
    rw [eu] at eu'
    rw [ev] at ev'
    cases eu'
    cases ev'
    have sm:Same H (upd H T (.tup [u,v])):=fun b w hb=>by rw [y0 (zm hb hT)]; exact hb
    refine ⟨sm,T,[u,v],rfl,⟨.inl (.inl zi),zi⟩,?_⟩
    exact ⟨u,[v],rfl,Rep.grow (Grow.same sm) _ _ ru,v,[],rfl,Rep.grow (Grow.same sm) _ _ rv,rfl⟩
 stop:=fun H O ⟨p1,p2⟩=>by
  obtain ⟨us,q1,r1⟩:=p1.sq e1
  obtain ⟨vs,q2,r2⟩:=p2.sq e2
  refine ⟨us,vs,q1,q2,?_⟩
  have h1:=r1.length
  have h2:=r2.length
  unfold zipD
  rw [List.length_zipWith,h1,h2]
  omega
 keep:=fun O O' H H' ⟨p1,p2⟩ g=>⟨p1.grow g,p2.grow g⟩
noncomputable def iZ (t:TDs):TID:=fun ρ φ=>t ρ fun rs=>match rs with
 | [⟨k1,d1⟩,⟨k2,d2⟩]=>(match k1 with | .own=>False | _=>True) /\ (match k2 with | .own=>False | _=>True) /\ match seqD d1,seqD d2 with
  | some xs,some ys=>φ (zipD xs ys)
  | _,_=>False
 | _=>False
theorem Dg {es:List Expr} {kk:Nat} {tp:Pos} {a b:Expr} {t:TDs} {p pos:Pos} (hm:X.mg "zip" = none) (ha:EA Γ X [a,b] t) (hg:Gl X "zip":=by rfl)
  (he:starEach [a,b] X.env=(false,eval a X.env) :: starEach [b] X.env:=by rfl) (hpl:(backTo pos (starEach [b] X.env)).any (·.1)=false:=by rfl):EI Γ X (.Tuple es kk tp) (.Call (.Name "zip" p) [a,b] [] pos) (iZ t):=fun H₀=>impI (Fq hg hm (ha H₀) he hpl) fun σ H R q=>by
 obtain ⟨ρ,o,RE,φ,hφ,k⟩:=q
 refine ⟨ρ,o,RE,_,hφ,fun vs rs H1 s1 rvs h1=>?_⟩
 split at h1
 ·rename_i k1 d1 k2 d2
  obtain ⟨n1,n2,h1⟩:=h1
  obtain ⟨v1,w1,rfl,q1,v2,w2,rfl,q2,rfl⟩:=rvs
  have p1:=q1.solid (vf n1)
  have p2:=q2.solid (vf n2)
  split at h1
  ·rename_i xs ys e1 e2
   obtain ⟨b1,l1,rfl,z1⟩:=SeqP.of p1 e1
   obtain ⟨b2,l2,rfl,z2⟩:=SeqP.of p2 e2
   obtain ⟨us,y1,_⟩:=z1.sq e1
   obtain ⟨ws,y2,_⟩:=z2.sq e2
   exact ⟨b1,b2,l1,l2,us,ws,rfl,y1,y2,k _ _ _ H1 s1 (Ey e1 e2) ⟨z1,z2⟩ h1⟩
  ·exact h1.elim
 ·exact h1.elim
noncomputable def Hb:List D->Option (List Int)
 | []=>some []
 | .int n :: r=>(Hb r).map (n :: ·)
 | _ :: _=>none
theorem Yi:∀ (ns:List Int),Hb (ns.map D.int)=some ns
 | []=>rfl
 | n :: ns=>by rw [List.map_cons,Hb,Yi ns]; rfl
end
noncomputable def frzS:DE->Nat->DE
 | [],_=>[]
 | x :: r,0=>x.map (fun r=>dv r.d) :: r
 | x :: r,i + 1=>x :: frzS r i
theorem Uq:∀ (ρ:DE) (i j:Nat),(frzS ρ i)[j]?=if j=i then ρ[j]?.map (fun x=>x.map fun r=>dv r.d) else ρ[j]?
 | [],i,j=>by simp [frzS]
 | x :: r,0,0=>rfl
 | x :: r,0,j + 1=>by simp [frzS]
 | x :: r,i + 1,0=>by simp [frzS]
 | x :: r,i + 1,j + 1=>by
  have:=Uq r i j
  simp only [frzS,List.getElem?_cons_succ,this]
  by_cases h:j=i
  ·simp [h]
  ·rw [if_neg h,if_neg (by omega)]
theorem Up:∀ (ρ:DE) (i:Nat),(frzS ρ i).length=ρ.length
 | [],_=>rfl
 | _ :: _,0=>rfl
 | x :: r,i + 1=>by simp [frzS,Up r i]
theorem REnv.frz1 {K:W.Frag} {H₀ H:Hp} {σ:St} {ρ:DE} {o:List (Nat × Addr)} (R:REnv K H₀ H σ ρ o) (i:Nat):∃ o',REnv K H₀ H σ (frzS ρ i) o' /\ ∀ p ∈ o',p ∈ o:=by
 refine ⟨o.filter fun p=>decide (p.1 ≠ i),?_,fun p hp=>(List.mem_filter.mp hp).1⟩
 have sub:∀ p ∈ o.filter (fun p=>decide (p.1 ≠ i)),p ∈ o:=fun p hp=>(List.mem_filter.mp hp).1
 have subA:∀ a ∈ (o.filter (fun p=>decide (p.1 ≠ i))).map Prod.snd,a ∈ o.map Prod.snd:=fun a ha=>by
  obtain ⟨p,hp,e⟩:=List.mem_map.mp ha
  exact List.mem_map.mpr ⟨p,sub p hp,e⟩
 exact {
  same:=R.same
  fresh:=fun p hp=>R.fresh p (sub p hp)
  trk:=fun p hp=>R.trk p (sub p hp)
  mtb:=fun p hp=>R.mtb p (sub p hp)
  nda:=List.Nodup.sublist (List.Sublist.map _ List.filter_sublist) R.nda
  len:=by rw [Up]; exact R.len
  slots:=fun j r e=>by
   rw [Uq] at e
   by_cases hj:j=i
   ·rw [if_pos hj] at e
    cases e1:ρ[j]? with
    | none=>rw [e1] at e; cases e
    | some x =>
     rw [e1] at e
     cases x with
     | none=>cases e
     | some r' =>
      have e':some (dv r'.d)=some r:=Option.some.inj e
      cases e'
      obtain ⟨v,ev,q⟩:=R.slots j r' e1
      refine ⟨v,ev,.inl ⟨rfl,?_⟩⟩
      rcases q with ⟨_,q⟩ | ⟨_,a,rfl,m,c⟩
      ·exact Rep.sub subA _ _ q
      ·refine (c.sub subA).rep fun z=>?_
       obtain ⟨p,hp,ep⟩:=List.mem_map.mp z
       have:=V7 R.nda (sub p hp) m ep
       have hne:=of_decide_eq_true (List.mem_filter.mp hp).2
       rw [this] at hne
       exact hne hj
   ·rw [if_neg hj] at e
    obtain ⟨v,ev,q⟩:=R.slots j r e
    refine ⟨v,ev,?_⟩
    rcases q with ⟨k,q⟩ | ⟨k,a,e1,m,c⟩
    ·exact .inl ⟨k,Rep.sub subA _ _ q⟩
    ·exact .inr ⟨k,a,e1,List.mem_filter.mpr ⟨m,decide_eq_true hj⟩,c.sub subA⟩ }
noncomputable def sFrz (i:Nat) (t:TDS):TDS:=fun ρ Z=>t (frzS ρ i) Z
theorem U1 (i:Nat) {X:Cx} {st:Stmt} {t:TDS} (h:SD Γ X st t):SD Γ X st (sFrz i t):=fun H₀=>impS (h H₀) fun D σ H h=>by
 obtain ⟨ρ,o,R,Z,hZ,k1,k2,k3,k4⟩:=h
 obtain ⟨o',R',sub⟩:=R.frz1 i
 have g:Grow (o.map Prod.snd) (o'.map Prod.snd) H H:=⟨fun b u h n=>⟨h,fun z=>n (by
  obtain ⟨p,hp,e⟩:=List.mem_map.mp z
  exact List.mem_map.mpr ⟨p,sub p hp,e⟩)⟩,fun b xs h=>h,fun b ob u h=>h⟩
 exact ⟨_,o',R',Z,hZ,fun ρ2 σ2 H2 o2 g2 R2 q2=>k1 ρ2 σ2 H2 o2 (g.trans g2) R2 q2,fun ρ2 σ2 H2 o2 g2 R2 q2=>k2 ρ2 σ2 H2 o2 (g.trans g2) R2 q2,fun ρ2 σ2 H2 o2 g2 R2 q2=>k3 ρ2 σ2 H2 o2 (g.trans g2) R2 q2,k4⟩
section
variable {X:Cx} {x:Str} {e ke:Expr} {te tk:TD} {np pos pos':Pos}
noncomputable def Kn (i:Nat) (tk te:TD):TDS:=fun ρ Z=>match slot ρ i with
 | some ⟨.own,.lst ds⟩=>te ρ fun r=>tk ρ fun kr=>(match r.k with | .own=>False | _=>True) /\ (match kr.d with
  | .int k=>(match ixN ds.length k with
   | some j=>Z.nx (setS ρ i (dO (.lst (ds.set j r.d))))
   | none=>False)
  | _=>False)
 | _=>False
theorem Kk (i:Nat) (hu:X.A.units + 64 < cLine) (hk:ED Γ X ke tk) (he:ED Γ X e te) (hN:X.N[i]?=some x:=by rfl) (hv:Vis X.env.scope x:=by first | exact Or.inl rfl | exact Or.inr (Or.inl rfl) | exact Or.inr (Or.inr rfl)) (hd:(x == ("__debug__" : Str))=false:=by decide)
  (hcd:(x == ("__classdict__" : Str))=false:=by decide) (hs:swapsWithSole [.Subscript (.Name x np) ke pos'] e pos.line X.env=pure false:=by rfl) (hw:swappedStores [.Subscript (.Name x np) ke pos'] e X.env=pure none:=by rfl)
  (h1:(assignEach [.Subscript (.Name x np) ke pos'] X.env).map (·.2)=[assign (.Subscript (.Name x np) ke pos') X.env]:=by rfl)
  (ha:∀ v,assign (.Subscript (.Name x np) ke pos') X.env v=(do
   let ov <- holding [v] (eval (.Name x np) X.env)
   let iv <- holding [v,ov] (eval ke X.env)
   standAt pos'
   holding [v,ov,iv] (setItem ov iv v)
   release [v,ov,iv] []):=by intro _; rfl):SD Γ X (.Assign [.Subscript (.Name x np) ke pos'] e pos) (Kn i tk te):=fun H₀ =>
 impS (Uc (he H₀) (Le (wt hN hv hd hcd) (hk H₀) Vz ha) hs hw h1) fun D σ H h=>by
  obtain ⟨ρ,o,R,Z,hZ,k1,k2,k3,k4⟩:=h
  unfold Kn at hZ
  split at hZ
  ·rename_i ds es
   obtain ⟨v0,ev0,q0⟩:=R.slots i _ (yn es)
   rcases q0 with ⟨k,_⟩ | ⟨_,a,rfl,m,c⟩
   ·cases k
   obtain ⟨xs,hx,rx⟩:=c
   refine ⟨ρ,o,R,_,hZ,fun v r H1 s1 rv h1=>⟨.ref a,ev0,ρ,o,R.to s1,_,h1,fun v2 r2 H2 s2 rv2 h2=>?_⟩⟩
   obtain ⟨h0,h2⟩:=h2
   have vw:=rv2.view
   split at h2
   ·rename_i k ek
    rw [ek] at vw
    cases (show v2=_ from vw)
    split at h2
    ·rename_i j ej
     have s12:=s1.trans s2
     have hx2:=s12 _ _ hx
     have rx2:=Reps.grow (Grow.same s12) _ _ rx
     refine ⟨a,xs,k,j,rfl,rfl,hx2,by rw [rx.length]; exact ej,?_⟩
     obtain ⟨R3,g3⟩:=(R.to s12).chg (d':=.lst (ds.set j r.d)) (ho:=.lst (xs.set j v)) (yn es) ev0 m ⟨fun _ z=>(by cases z),fun _ _ z=>(by cases z)⟩ fun gr =>
      ⟨xs.set j v,zi,gr _ _ (rx2.set j ((rv.same s2).solid (vf h0)))⟩
     exact k1 _ σ _ o ((Grow.same s12).trans g3) R3 h2
    ·exact h2.elim
   ·exact h2.elim
  ·exact hZ.elim
end
noncomputable def blsD:List D->Option (List Bool)
 | []=>some []
 | .bl b :: r=>(blsD r).map (b :: ·)
 | _ :: _=>none
theorem Pv:∀ {ds:List D} {bs:List Bool},blsD ds=some bs->ds=bs.map D.bl
 | [],bs,h=>by cases h; rfl
 | d :: r,bs,h=>by
  cases d with
  | bl n =>
   cases e:blsD r with
   | none=>unfold blsD at h; rw [e] at h; cases h
   | some ms =>
    unfold blsD at h
    rw [e] at h
    cases h
    rw [Pv e]
    rfl
  | _=>cases h
theorem bw:∀ (bs:List Bool),blsD (bs.map D.bl)=some bs
 | []=>rfl
 | b :: bs=>by rw [List.map_cons,blsD,bw bs]; rfl
theorem U6 {K:W.Frag} {H:Hp} {O:List Addr}:∀ {bs:List Bool} {xs:List V},Reps K H O (bs.map D.bl) xs->xs=bs.map V.bl
 | [],_,h=>h
 | n :: bs,xs,h=>by
  obtain ⟨v,r,rfl,q,t⟩:=h
  rw [U6 t]
  cases (show v=_ from q)
  rfl
section
variable {X:Cx} {e:Expr} {es:List Expr} {t:TDs} {p pos:Pos}
noncomputable def On (g:List Bool->Bool):FT:=fun ds φ=>match ds with
 | [.lst l]=>match blsD l with
  | some bs=>φ (dv (.bl (g bs)))
  | none=>False
 | _=>False
theorem Ng {f:List V->Bool} {g:List Bool->Bool} (hf:∀ bs:List Bool,f (bs.map V.bl)=g bs):O1 X.K (rAll X.K f) (On g):=by
 intro H O ds vs φ Q ho hv h k
 unfold On at h
 split at h
 ·rename_i l
  split at h
  ·rename_i bs en
   obtain ⟨v,ws,rfl,⟨a,xs,rfl,q,r⟩,rfl⟩:=hv
   have el:=Pv en
   subst el
   have:=U6 r
   subst this
   refine ⟨a,_,rfl,.inl (SqL.of q),fun y hy=>?_,?_⟩
   ·obtain ⟨b,_,rfl⟩:=List.mem_map.mp hy
    rfl
   ·rw [hf]
    exact k _ _ H (Same.refl H) (by exact rfl) h
  ·exact h.elim
 ·exact h.elim
theorem Pl (hm:X.mg "all" = none) (ha:EA Γ X (e :: es) t) (hc:X.calm=true:=by rfl) (hg:Gl X "all":=by rfl) (he:starEach (e :: es) X.env=(false,eval e X.env) :: starEach es X.env:=by rfl) (hpl:(backTo pos (starEach es X.env)).any (·.1)=false:=by rfl):ED Γ X (.Call (.Name "all" p) (e :: es) [] pos) (dCB (On fun bs=>bs.all id) t) :=
 bu (X0 hc) (Ng fun bs=>by
  induction bs with
  | nil=>rfl
  | cons b bs ih=>rw [List.map_cons,List.all_cons,List.all_cons,ih]; cases b <;> rfl) hm (by kernel_rfl) ha hg (by decide) (by decide) he hpl
end
end DL
namespace HT
open PySem PyProof.Rows
section
variable {prog:Program} {w:World} {A:Around} {E:Value->Shared->Prop} {s:Shared}
theorem cat_tup0 {t b:Addr} {ws:List Value} {Q:Value->Shared->Prop} (ht:IsTup s.heap t #[]) (hb:IsTup s.heap b ws.toArray)
  (h1:Q (.ref b) s):wpAny (model prog w) A (binaryOp .Add (.ref t) (.ref b)) Q E s:=by
 obtain ⟨⟨cls,dd,data,sl⟩,ho,hc,n,hd⟩:=id ht
 obtain ⟨⟨cls2,dd2,data2,sl2⟩,ho2,hc2,n2,hd2⟩:=id hb
 simp only at hc hd hc2 hd2
 subst hc hd hc2 hd2
 exact concat_meets ⟨_,ho,rfl⟩ ⟨_,ho2,rfl⟩ noFill_tuple_add seq_tuple_add PySem.F.slot_tuple_add PySem.F.entry_tuple_add (PySem.F.args_tuple_add_2 _ _)
   (tuple_addW0 t b #[] ws.toArray n n2 dd dd2 sl sl2 (by simp)) ⟨ho,ho2,h1⟩
end
end HT
namespace L2
open PySem PySem.Spec PyProof.Rows
section
variable {X:Cx}
noncomputable def Gz (K:W.Frag):R2:=fun x y H Q=>∃ a b ys,x=.ref a /\ y=.ref b /\ SqT K H a [] /\ SqT K H b ys /\ Q (.ref b) H
theorem N7:OpR X (binaryOp .Add) (Gz X.K):=by
 intro pn s σ H x y v u Q I rx ry h
 obtain ⟨a,b,ys,rfl,rfl,ha,hb,q⟩:=h
 cases rx
 cases ry
 obtain ⟨its,r1,p1,_⟩:=I.tuple ha
 obtain ⟨its2,r2,p2,_⟩:=I.tuple hb
 cases r1
 exact HT.cat_tup0 p1 p2 ⟨.ref b,H,I,rfl,q⟩
end
end L2
namespace DL
open PySem PySem.Spec L2 L3
open PyProof.Rows hiding St
variable {Γ:Hp->Prop}
theorem RV.anew {K:W.Frag} {H0 H:Hp} {O:List Addr} {r:EV} {v:V} (h:RV K H0 H O r v) (p:ui r):RepN K H (fun a=>a ∉ O /\ H0 a=none) r.d v:=by
 obtain ⟨k,d⟩:=r
 cases k with
 | val=>exact Rep.toN _ _ p h
 | own=>exact p.elim
 | new=>exact h
 | fre =>
  obtain ⟨a,rfl,m,n,c⟩:=h
  cases d with
  | lst ds=>obtain ⟨xs,q,r⟩:=c; exact ⟨a,xs,rfl,q,⟨n,m⟩,Reps.toN _ _ p r⟩
  | dk ks ds=>obtain ⟨xs,q,l,nd,r⟩:=c; exact ⟨a,xs,rfl,q,⟨n,m⟩,l,nd,Reps.toN _ _ p r⟩
  | dt ks ds=>obtain ⟨xs,q,l,nd,r⟩:=c; exact ⟨a,xs,rfl,q,⟨n,m⟩,l,nd,Reps.toN _ _ p r⟩
  | _=>exact c.elim
noncomputable def dr:List EV->Prop
 | []=>True
 | r :: rs=>ui r /\ dr rs
theorem RVs.anew {K:W.Frag} {H0 H:Hp} {O:List Addr}:∀ {rs:List EV} {vs:List V},RVs K H0 H O rs vs->dr rs->x9 K H (fun a=>a ∉ O /\ H0 a=none) (rs.map EV.d) vs
 | [],_,h,_=>h
 | r :: rs,vs,h,p=>by
  obtain ⟨v,ws,e,h1,t⟩:=h
  exact ⟨v,ws,e,h1.anew p.1,RVs.anew t p.2⟩
section
variable {X:Cx} {a b e ix:Expr} {es:List Expr} {t:TDs} {ta tb te tk:TD} {pos:Pos}
noncomputable def Dl (t:TDs):TD:=fun ρ φ=>t ρ fun rs=>dr rs /\ Nat.ble rs.length 1000=true /\ φ ⟨.new,.tup (rs.map EV.d)⟩
theorem Pe {x1} (h:EA Γ X es t):ED Γ X (.Tuple es x1 pos) (Dl t):=fun H₀=>impE (gw (h H₀)) fun σ H Q q=>by
 obtain ⟨ρ,o,R,φ,hφ,k⟩:=q
 refine ⟨ρ,o,R,_,hφ,fun vs rs H1 s1 rvs h1=>⟨by rw [rvs.length]; exact c7 h1.2.1,fun p hp=>?_⟩⟩
 refine k _ ⟨.new,.tup (rs.map EV.d)⟩ _ (s1.trans (zw hp _)) ⟨p,vs,rfl,⟨SqT.of zi,zi⟩,x9.to (zw hp _) (fun _ z=>z) _ _ (rvs.anew h1.1)⟩ h1.2.2
noncomputable def Dn (ta tb:TD):TD:=fun ρ φ=>ta ρ fun x=>tb ρ fun y=>match x.d,y.d with
 | .tup p,.tup q=>ui x /\ ui y /\ p.length + q.length <= sizeLine /\ φ ⟨.new,.tup (p ++ q)⟩
 | _,_=>False
theorem jd (ha:ED Γ X a ta) (hb:ED Γ X b tb):ED Γ X (.BinOp a .Add b pos) (Dn ta tb):=fun H₀=>impE (Fv (Qf.or N7) (ha H₀) (hb H₀)) fun σ H Q q=>by
 obtain ⟨ρ,o,R,φ,hφ,k⟩:=q
 refine ⟨ρ,o,R,_,hφ,fun v1 r1 H1 s1 rv1 h1=>⟨ρ,o,R.to s1,_,h1,fun v2 r2 H2 s2 rv2 h2=>?_⟩⟩
 have n1:=fun p=>(rv1.same s2).anew p
 have n2:=fun p=>(rv2.start s1).anew p
 obtain ⟨k1,d1⟩:=r1
 obtain ⟨k2,d2⟩:=r2
 cases d1 with
 | tup p =>
  cases d2 with
  | tup q =>
   obtain ⟨p1,p2,hl,hn⟩:=h2
   obtain ⟨a1,xs,rfl,q1,r1⟩:=n1 p1
   obtain ⟨a2,ys,rfl,q2,r2⟩:=n2 p2
   have l1:=r1.length
   have l2:=r2.length
   cases p with
   | nil =>
    have e:xs=[]:=List.eq_nil_of_length_eq_zero l1
    subst e
    exact .inr ⟨a1,a2,ys,rfl,rfl,q1.1,q2.1,k _ ⟨.new,.tup q⟩ H2 (s1.trans s2) ⟨a2,ys,rfl,q2,r2⟩ hn⟩
   | cons d p =>
    refine .inl ⟨a1,a2,xs,ys,rfl,rfl,q1.1,q2.1,(fun z=>by subst z; cases l1),by rw [l1,l2]; exact hl,fun z=>?_,fun z p' hp=>?_⟩
    ·subst z
     have e:q=[]:=List.eq_nil_of_length_eq_zero l2.symm
     subst e
     rw [List.append_nil] at hn
     exact k _ ⟨.new,.tup (d :: p)⟩ H2 (s1.trans s2) ⟨a1,xs,rfl,q1,r1⟩ hn
    ·exact k _ ⟨.new,.tup (d :: p ++ q)⟩ _ ((s1.trans s2).trans (zw hp _)) ⟨p',xs ++ ys,rfl,⟨SqT.of zi,zi⟩,x9.to (zw hp _) (fun _ z=>z) _ _ (r1.append r2)⟩ hn
  | _=>exact h2.elim
 | _=>exact h2.elim
noncomputable def Cr (t:TDs) (tk:TD):TD:=fun ρ φ=>t ρ fun rs=>Nat.ble rs.length 1000=true /\ tk ρ fun kr=>match kr.d with
 | .int k=>match atI rs k with
  | some r=>φ r
  | none=>False
 | _=>False
noncomputable def popD (ds:List D):Option (List D × D):=match ds.getLast? with
 | some d=>some (ds.dropLast,d)
 | none=>none
theorem Ud (ds:List D) (d:D):popD (ds ++ [d])=some (ds,d):=by
 unfold popD
 simp
theorem J5 {ds ds':List D} {d:D} (h:popD ds=some (ds',d)):ds=ds' ++ [d]:=by
 unfold popD at h
 split at h
 ·rename_i x e
  cases h
  obtain ⟨y,hy⟩:=List.getLast?_eq_some_iff.mp e
  rw [hy]
  simp
 ·cases h
theorem dj {K:W.Frag} {H:Hp} {O:List Addr} {ds ds':List D} {d:D} {xs:List V} (r:Reps K H O ds xs) (h:popD ds=some (ds',d)):∃ y,xs[xs.length - 1]?=some y /\ Rep K H O d y /\ Reps K H O ds' xs.dropLast:=by
 have e:=J5 h
 subst e
 have l:=r.length
 rw [zLa] at l
 obtain ⟨y,ey,hy⟩:=r.get (i:=ds'.length) (d:=d) (by simp)
 refine ⟨y,by rw [l]; simpa using ey,hy,?_⟩
 have:=r.dropLast
 simpa using this
noncomputable def sPop (i j:Nat):TDS:=fun ρ Z=>match slot ρ i with
 | some ⟨.own,.lst ds⟩=>match popD ds with
  | some (ds',d)=>Z.nx (setS (setS ρ i (dO (.lst ds'))) j (dv d))
  | none=>False
 | _=>False
theorem Rn (i j:Nat) {x y:Str} {np apos cpos pos':Pos} (hN:X.N.Nodup) (hi:X.N[i]?=some x:=by rfl) (hj:X.N[j]?=some y:=by rfl) (hy:Loc X.env.scope y:=by first | exact Or.inl rfl | exact Or.inr rfl) (hv:Vis X.env.scope x:=by first | exact Or.inl rfl | exact Or.inr (Or.inl rfl) | exact Or.inr (Or.inr rfl))
  (hd:(x == ("__debug__" : Str))=false:=by decide) (hcd:(x == ("__classdict__" : Str))=false:=by decide)
  (hp:∀ {ta:TE},X.N.Nodup->PE X (.Name x np) ta->PS X (.Assign [.Name y pos'] (.Call (.Attribute (.Name x np) "pop" apos) [] [] cpos) pos) (tAsg (tBM0 X.K "list" rPop ta) (ug j)):=by
   intro ta hN h1
   exact rg hN rfl (by walk_at "o") (Ug PySem.F.plainAttrs_list PySem.F.slot_list_pop PySem.F.type_list_pop Uk h1)) :
  SD Γ X (.Assign [.Name y pos'] (.Call (.Attribute (.Name x np) "pop" apos) [] [] cpos) pos) (sPop i j):=fun H₀=>impS (hp hN (wt hi hv hd hcd)) fun D σ H h=>by
 obtain ⟨ρ,o,R,Z,hZ,k1,k2,k3,k4⟩:=h
 unfold sPop at hZ
 split at hZ
 ·rename_i ds es
  obtain ⟨v0,ev0,q0⟩:=R.slots i _ (yn es)
  rcases q0 with ⟨k,_⟩ | ⟨_,a,rfl,m,c⟩
  ·cases k
  obtain ⟨xs,hx,rx⟩:=c
  split at hZ
  ·rename_i ds' d ep
   obtain ⟨yv,ey,hyv,rd⟩:=dj rx ep
   obtain ⟨R2,g2⟩:=R.chg (d':=.lst ds') (ho:=.lst xs.dropLast) (yn es) ev0 m ⟨fun _ z=>(by cases z),fun _ _ z=>(by cases z)⟩ fun gr=>⟨xs.dropLast,zi,gr _ _ rd⟩
   refine ⟨.ref a,ev0,.inl ⟨rfl,xs,SqL.of hx⟩,a,xs,yv,rfl,rfl,hx,ey,?_⟩
   exact k1 _ _ _ o g2 (R2.setV j (Rep.grow g2 _ _ hyv)) hZ
  ·exact hZ.elim
 ·exact hZ.elim
noncomputable def Xh (i:Nat) (t:TDs):TDS:=fun ρ Z=>match slot ρ i with
 | some ⟨.own,.lst ds⟩=>match popD ds with
  | some (ds',d)=>t (setS ρ i (dO (.lst ds'))) fun rs=>sy rs=true /\ Nat.ble rs.length 100=true /\ ds'.length <= 100000 /\ slot (setS ρ i (dO (.lst ds'))) i=some (dO (.lst ds')) /\ Z.nx (setS (setS ρ i (dO (.lst ds'))) i (dO (.lst (ds' ++ [.tup (d :: rs.map EV.d)]))))
  | none=>False
 | _=>False
theorem Za (i:Nat) {x:Str} {x1} {np np2 apos apos2 cpos cpos2 tpos:Pos} (h:EA Γ X es t) (hi:X.N[i]?=some x:=by rfl) (hv:Vis X.env.scope x:=by first | exact Or.inl rfl | exact Or.inr (Or.inl rfl) | exact Or.inr (Or.inr rfl))
  (hd:(x == ("__debug__" : Str))=false:=by decide) (hcd:(x == ("__classdict__" : Str))=false:=by decide)
  (hp:∀ {ta tb:TE} {tc:TA},PE X (.Name x np) ta->PE X (.Name x np2) tb->PA X es tc->PS X (.Expr (.Call (.Attribute (.Name x np) "append" apos) [.Tuple (.Call (.Attribute (.Name x np2) "pop" apos2) [] [] cpos2 :: es) x1 tpos] [] cpos) pos)
    (Z4 (tBM X.K "list" qy ta (rq (tTup (rq (tBM0 X.K "list" rPop tb) tc)) tNil))):=by
   intro ta tb tc h1 h2 h3
   exact vo (Xm PySem.F.plainAttrs_list PySem.F.slot_list_append PySem.F.type_list_append u3 h1 (yo (gw (yo (Ug PySem.F.plainAttrs_list PySem.F.slot_list_pop PySem.F.type_list_pop Uk h2) h3)) wu))) :
  SD Γ X (.Expr (.Call (.Attribute (.Name x np) "append" apos) [.Tuple (.Call (.Attribute (.Name x np2) "pop" apos2) [] [] cpos2 :: es) x1 tpos] [] cpos) pos) (Xh i t):=fun H₀=>impS (hp (wt hi hv hd hcd) (wt hi hv hd hcd) (h H₀)) fun D σ H h=>by
 obtain ⟨ρ,o,R,Z,hZ,k1,k2,k3,k4⟩:=h
 unfold Xh at hZ
 split at hZ
 ·rename_i ds es'
  obtain ⟨v0,ev0,q0⟩:=R.slots i _ (yn es')
  rcases q0 with ⟨k,_⟩ | ⟨_,a,rfl,m,c⟩
  ·cases k
  obtain ⟨xs,hx,rx⟩:=c
  split at hZ
  ·rename_i ds' d ep
   obtain ⟨yv,ey,hyv,rd⟩:=dj rx ep
   obtain ⟨R2,g2⟩:=R.chg (d':=.lst ds') (ho:=.lst xs.dropLast) (yn es') ev0 m ⟨fun _ z=>(by cases z),fun _ _ z=>(by cases z)⟩ fun gr=>⟨xs.dropLast,zi,gr _ _ rd⟩
   have hyv2:=Rep.grow g2 _ _ hyv
   refine ⟨.ref a,ev0,.inl ⟨rfl,xs,SqL.of hx⟩,.ref a,ev0,.inl ⟨rfl,xs,SqL.of hx⟩,a,xs,yv,rfl,rfl,hx,ey,?_⟩
   refine ⟨_,o,R2,_,hZ,fun vs rs H3 s3 rvs h3=>?_⟩
   obtain ⟨hso,hle,hdl,hsl,hn⟩:=h3
   have R3:=R2.to s3
   obtain ⟨v1,ev1,q1⟩:=R3.slots i _ (yn hsl)
   rcases q1 with ⟨k,_⟩ | ⟨_,a',rfl,m',c'⟩
   ·cases k
   have ea:a'=a:=by
    rw [ev0] at ev1
    cases ev1
    rfl
   subst ea
   obtain ⟨xs',hx',rx'⟩:=c'
   have hyv3:=Rep.grow (Grow.same (O:=o.map Prod.snd) s3) _ _ hyv2
   have l3:=rvs.length
   have hle':=Nat.le_of_ble_eq_true hle
   refine ⟨by rw [zLc,l3]; exact Nat.le_trans (Nat.succ_le_succ hle') (by decide),fun p hpn=>?_⟩
   have s4:=zw hpn (.tup (yv :: vs))
   have R4:=R3.to s4
   refine ⟨a',xs',.ref p,rfl,rfl,s4 _ _ hx',by rw [rx'.length]; exact Nat.lt_of_le_of_lt hdl (by decide),?_⟩
   obtain ⟨R5,g5⟩:=R4.chg (d':=.lst (ds' ++ [.tup (d :: rs.map EV.d)])) (ho:=.lst (xs' ++ [.ref p])) (yn hsl) ev0 m' ⟨fun _ z=>(by cases z),fun _ _ z=>(by cases z)⟩ fun gr =>
    ⟨xs' ++ [.ref p],zi,gr _ _ ((Reps.grow (Grow.same s4) _ _ rx').append (Reps.one (d:=.tup (d :: rs.map EV.d)) (v:=.ref p) ⟨p,yv :: vs,rfl,⟨SqT.of zi,zi⟩,yv,vs,rfl,Rep.grow (Grow.same s4) _ _ hyv3,Reps.grow (Grow.same s4) _ _ (rvs.reps (vd hso))⟩))⟩
   exact k1 _ σ _ o (g2.trans ((Grow.same s3).trans ((Grow.same s4).trans g5))) R5 hn
  ·exact hZ.elim
 ·exact hZ.elim
noncomputable def sExt (i:Nat) (t:TDs):TDS:=fun ρ Z=>match slot ρ i with
 | some ⟨.own,.lst ds⟩=>t ρ fun rs=>sy rs=true /\ Nat.ble rs.length 1000=true /\ ds.length <= 100000 /\ Z.nx (setS ρ i (dO (.lst (ds ++ rs.map EV.d))))
 | _=>False
theorem Z8 (i:Nat) {x:Str} {np apos cpos lpos:Pos} (h:EA Γ X es t) (hi:X.N[i]?=some x:=by rfl) (hv:Vis X.env.scope x:=by first | exact Or.inl rfl | exact Or.inr (Or.inl rfl) | exact Or.inr (Or.inr rfl))
  (hd:(x == ("__debug__" : Str))=false:=by decide) (hcd:(x == ("__classdict__" : Str))=false:=by decide)
  (hp:∀ {ta:TE} {tc:TA},PE X (.Name x np) ta->PA X es tc->PS X (.Expr (.Call (.Attribute (.Name x np) "extend" apos) [.List es lpos] [] cpos) pos)
    (Z4 (tBM X.K "list" Xi ta (rq (tLst tc) tNil))):=by
   intro ta tc h1 h3
   exact vo (Xm PySem.F.plainAttrs_list PySem.F.slot_list_extend PySem.F.type_list_extend Zj h1 (yo (Zg h3) wu))) :
  SD Γ X (.Expr (.Call (.Attribute (.Name x np) "extend" apos) [.List es lpos] [] cpos) pos) (sExt i t):=fun H₀=>impS (hp (wt hi hv hd hcd) (h H₀)) fun D σ H h=>by
 obtain ⟨ρ,o,R,Z,hZ,k1,k2,k3,k4⟩:=h
 unfold sExt at hZ
 split at hZ
 ·rename_i ds es'
  obtain ⟨v0,ev0,q0⟩:=R.slots i _ (yn es')
  rcases q0 with ⟨k,_⟩ | ⟨_,a,rfl,m,c⟩
  ·cases k
  obtain ⟨xs,hx,rx⟩:=c
  refine ⟨.ref a,ev0,.inl ⟨rfl,xs,SqL.of hx⟩,?_⟩
  refine ⟨ρ,o,R,_,hZ,fun vs rs H1 s1 rvs h1=>?_⟩
  obtain ⟨hso,hle,hl,hn⟩:=h1
  have l1:=rvs.length
  have hle':=Nat.le_of_ble_eq_true hle
  refine ⟨by rw [l1]; exact c7 hle,fun p hpn=>?_⟩
  have s2:=zw hpn (.lst vs)
  have s12:=s1.trans s2
  have R1:=R.to s12
  have rx1:=Reps.grow (Grow.same s12) _ _ rx
  refine ⟨a,p,xs,vs,rfl,rfl,s12 _ _ hx,zi,?_,?_⟩
  ·rw [rx.length,l1]
   exact Nat.le_trans (Nat.add_le_add hl hle') (by decide)
  ·obtain ⟨R2,g2⟩:=R1.chg (d':=.lst (ds ++ rs.map EV.d)) (ho:=.lst (xs ++ vs)) (yn es') ev0 m ⟨fun _ z=>(by cases z),fun _ _ z=>(by cases z)⟩ fun gr=>⟨xs ++ vs,zi,gr _ _ (rx1.append (Reps.grow (Grow.same s2) _ _ (rvs.reps (vd hso))))⟩
   exact k1 _ σ _ o ((Grow.same s12).trans g2) R2 hn
 ·exact hZ.elim
noncomputable def sAug (i:Nat) (te:TD):TDS:=fun ρ Z=>match slot ρ i with
 | some ⟨.val,.int a⟩=>te ρ fun r=>match r.d with
  | .int b=>Z.nx (setS ρ i (dv (.int (a + b))))
  | _=>False
 | _=>False
theorem Gm (i:Nat) {x:Str} {pos':Pos} (hN:X.N.Nodup) (he:ED Γ X e te) (hi:X.N[i]?=some x:=by rfl) (hx:Loc X.env.scope x:=by first | exact Or.inl rfl | exact Or.inr rfl)
  (hf:X.fn x=true \/ X.env.scope.names.lookup x=some .local:=by first | exact .inl rfl | exact .inr rfl | assumption):SD Γ X (.AugAssign (.Name x pos') .Add e pos) (sAug i te):=fun H₀=>impS (Fo hN hi hx (he H₀) D6 hf) fun D σ H h=>by
 obtain ⟨ρ,o,R,Z,hZ,k1,k2,k3,k4⟩:=h
 unfold sAug at hZ
 split at hZ
 ·rename_i a es'
  obtain ⟨v0,ev0,q0⟩:=R.slots i _ (yn es')
  rcases q0 with ⟨_,q0⟩ | ⟨k,_⟩
  ·cases (show v0=_ from q0)
   refine ⟨.int a,ev0,ρ,o,R,_,hZ,fun v r H1 s1 rv h1=>?_⟩
   have vw:=rv.view
   split at h1
   ·rename_i b eb
    rw [eb] at vw
    cases (show v=_ from vw)
    exact ⟨a,b,rfl,rfl,k1 _ _ _ o (Grow.same s1) ((R.to s1).setV i (d:=.int (a + b)) (by exact rfl)) h1⟩
   ·exact h1.elim
  ·cases k
 ·exact hZ.elim
end
end DL
namespace DL
open PySem PySem.Spec L2 L3
open PyProof.Rows hiding St
noncomputable def g1 (g:D->(EV->Prop)->Prop):FT:=fun ds φ=>match ds with
 | [d]=>g d φ
 | _=>False
noncomputable def g2 (g:D->D->(EV->Prop)->Prop):FT:=fun ds φ=>match ds with
 | [d,e]=>g d e φ
 | _=>False
noncomputable def g3 (g:D->D->D->(EV->Prop)->Prop):FT:=fun ds φ=>match ds with
 | [d,e,f]=>g d e f φ
 | _=>False
theorem De {g:D->(EV->Prop)->Prop} {ds:List D} {φ:EV->Prop} (h:g1 g ds φ):∃ d,ds=[d] /\ g d φ:=by
 unfold g1 at h
 split at h
 ·exact ⟨_,rfl,h⟩
 ·exact h.elim
noncomputable def Oh:FT:=fun ds φ=>match ds with
 | [.scr ns,.int k]=>0 <= k /\ φ (dv (.int (ns.getD k.toNat 0)))
 | _=>False
theorem Og {ds:List D} {φ:EV->Prop} (h:Oh ds φ):∃ (ns:List Int) (k:Nat),ds=[.scr ns,.int k] /\ φ (dv (.int (ns.getD k 0))):=by
 unfold Oh at h
 split at h
 ·rename_i ns k
  obtain ⟨h0,h⟩:=h
  exact ⟨ns,k.toNat,by rw [Int.toNat_of_nonneg h0],h⟩
 ·exact h.elim
theorem y8 {t u:TDS} {ρ:DE} {Z:DZ} (J:DE->Prop) (h1:t ρ { Z with nx:=J }) (h2:∀ ρ2,J ρ2->u ρ2 Z):sSeq (sCut t) u ρ Z:=⟨J,h1,h2⟩
theorem Mr {i:Nat} {ρ:DE} {ds:List D} {φ:Bool->Prop} (e:slot ρ i=some (dO (.lst ds))) (h:φ (!ds.isEmpty)):tTru (Sr i) ρ φ:=by
 unfold tTru Sr
 rw [e]
 exact h
end DL
namespace L2
open PySem PySem.Spec PyProof.Rows
theorem um:entryFor table "dict.update.loop" = some Builtin.«dict.update.loop»:=entryFor_of_tree (by kernel_rfl)
theorem wc:plainId "dict.update.loop" = true:=by decide +kernel
theorem ji:typeLookup (.type "list") "keys" = pure none:=by rw [typeLookup_type,builtinLookup_eq_fast]; kernel_rfl
section
variable {prog:Program} {w:World} {A:Around} {E:Value->Shared->Prop} {s:Shared}
theorem Qs {a:Addr} {xs:Array Value} {Q:Option Value->Shared->Prop} (hl:PlainL s.heap a xs) (hA:A.handled=none)
  (h:∀ h' tk,(∀ b o,s.heap.get? b=some o->h'.get? b=some o)->Q none { s with heap:=h',toks:=tk }):wpAny (model prog w) A (getAttr? (.ref a) "keys") Q E s:=by
 obtain ⟨o,k,hx,hc,hd,hdat⟩:=hl
 obtain ⟨c,dct,dat,sl⟩:=o
 simp only at hc hdat hd
 subst hc hdat hd
 obtain ⟨hp,g,d,tk,os⟩:=s
 have hT:∀ tk',(⟨hp,g,d,tk',os⟩:Shared).TypeIs (.ref a) "list":=fun _=>⟨_,hx,rfl⟩
 have f1:=sub_AttributeError
 have f3:=F.slot_list_getattribute.lookup
 have f4:=F.slot_list_getattribute.bind (.ref a)
 have f5:=am_list_getattr_none
 unfold getAttr? getAttrBy? getAttrBy
 repeat (any_goals (first | assumption | exact hT _ | ((with_reducible show wpAny _ _ (call (Value.builtin "list.__getattribute__") _ _) _ _ _); refine call_meets F.slot_list_getattribute (hT _) am_entry_list_getattribute (F.args_list_getattribute_2 _ _) (meets_getattribute_miss_list a xs k sl "keys" _ ji (by decide +kernel) (by size_fits)) ⟨hx,hA,fun h' tk' e hx'=>?_⟩) | wp_step))
 obtain ⟨t',u',he⟩:=hx'.there
 show wpAny _ _ (getattributeRaised _ _ _ _ _ _ _) _ _ _
 unfold getattributeRaised
 repeat (any_goals (first | assumption | wp_step))
 exact h _ _ hx'.keeps
end
section
variable {prog:Program} {w:World} {K:Type} [DecidableEq K] {knd:KeyKind prog w K} {A:Around} {s:Shared} {R:Result->Shared->Prop}
noncomputable def T2 (knd:KeyKind prog w K) (h:Heap) (v:Value) (kx:K × Value):Prop:=∃ b o n key,v=.ref b /\ h.get? b=some o /\ o.cls=.type "tuple" /\ o.data=.seq #[key,kx.2] n /\ knd.is kx.1 key=true
theorem gk {kvs:List (K × Value)} {k:K} {x:Value} (h:k ∉ kvs.map (·.1)):stored kvs k x=kvs ++ [(k,x)]:=by
 unfold stored
 rw [if_neg]
 intro z
 rw [List.any_eq_true] at z
 obtain ⟨p,hp,e⟩:=z
 exact h (List.mem_map.mpr ⟨p,hp,by simpa using e⟩)
theorem O5 (hh:A.handled=none) (d it l:Addr) (hdi:d ≠ it) (hdl:d ≠ l) (hli:l ≠ it) (its:List Value) (more:List (K × Value)) (hlen:its.length=more.length) (hnd:(more.map (·.1)).Nodup) (hsz:more.length <= sizeLine) :
  ∀ (k i:Nat) (s:Shared),its.length=i + k->s.heap.IsListIter it l i->s.heap.IsList l its.toArray->s.heap.DictOf knd d (more.take i) ->
  (∀ (j:Nat) v kx,its[j]?=some v->more[j]?=some kx->T2 knd s.heap v kx) ->
  (∀ h' tk,h'.DictOf knd d more->(∀ b o,b ≠ d->b ≠ it->s.heap.get? b=some o->h'.get? b=some o)->R (.ok (.ret .none)) { s with heap:=h',toks:=tk }) ->
  codeAny (model prog w) A (.builtin "dict.update.loop" ⟨[.ref d,.ref it,rawInt (i:Int),.none],[]⟩) R s:=by
 intro k
 induction k with
 | zero =>
  intro i s hk hi hl hd hp hR
  refine codeAny_builtin um ?_
  rw [Around.under_plainId wc _]
  have W:=Walks.list (prog:=prog) (w:=w) (A:=A.in1) hh it l hli its.toArray
  show wpAny _ A.in1 (pyNext (.ref it) >>= _) _ _ s
  refine wpAny_bind (W.done s _ _ ⟨by simpa [hk] using hi,hl⟩ fun h' tk hk'=>?_)
  show wpAny _ A.in1 (Builtin.Dict.addKeywords d [] >>= _) _ _ _
  refine wpAny_bind (wpAny_pure (wpAny_pure ?_))
  refine hR h' tk ?_ fun b o _ hb e=>hk' b o (by simpa using hb) e
  rw [List.take_of_length_le (by omega)] at hd
  obtain ⟨o,es,ep,ho,r⟩:=hd
  exact ⟨o,es,ep,hk' d o (by simpa using hdi) ho,r⟩
 | succ k ih =>
  intro i s hk hi hl hd hp hR
  refine codeAny_builtin um ?_
  rw [Around.under_plainId wc _]
  have W:=Walks.list (prog:=prog) (w:=w) (A:=A.in1) hh it l hli its.toArray
  show wpAny _ A.in1 (pyNext (.ref it) >>= _) _ _ s
  refine wpAny_bind (W.item i s _ _ (by simp; omega) ⟨hi,hl⟩ fun v h' tk hv hst' hk'=>?_)
  have hv':its[i]?=some v:=by simpa using hv
  have him:i < more.length:=by omega
  obtain ⟨kx,ekx⟩:∃ kx,more[i]?=some kx:=⟨more[i],List.getElem?_eq_getElem him⟩
  have hd':h'.DictOf knd d (more.take i):=by
   obtain ⟨o,es,ep,ho,r⟩:=hd
   exact ⟨o,es,ep,hk' d o (by simpa using hdi) ho,r⟩
  have hp':∀ (j:Nat) v kx,its[j]?=some v->more[j]?=some kx->T2 knd h' v kx:=fun j v kx h1 h2=>by
   obtain ⟨b,o,n,key,e1,e2,e3,e4,e5⟩:=hp j v kx h1 h2
   refine ⟨b,o,n,key,e1,hk' b o ?_ e2,e3,e4,e5⟩
   intro z
   have:b=it:=by simpa using z
   subst this
   obtain ⟨o',ho',hc',_⟩:=hi
   rw [ho'] at e2
   cases e2
   rw [hc'] at e3
   exact absurd e3 (by decide)
  obtain ⟨b,o,n,key,rfl,hb,hbc,hbd,hkey⟩:=hp' i v kx hv' ekx
  have hT:({ s with heap:=h',toks:=tk }:Shared).TypeIs (.ref b) "tuple":=⟨o,hb,hbc⟩
  refine wpAny_bind (wpAny_holding ?_)
  refine wpAny_bind (wpAny_tryCatch ?_)
  show wpAny _ A.in1 (typeOf (.ref b) >>= _) _ _ _
  refine wpAny_bind (wpAny_typeOf hT ?_)
  show wpAny _ A.in1 (seqItems? (.ref b) >>= _) _ _ _
  refine wpAny_bind (wpAny_seqItems hb hbd (wpAny_pure ?_))
  show wpAny _ A.in1 (holding [key,kx.2] (dictSet d key kx.2)) _ _ _
  have hnew:kx.1 ∉ (more.take i).map (·.1):=by
   have e:more.take (i + 1)=more.take i ++ [kx]:=by rw [List.take_succ,ekx]; rfl
   have h4:((more.take (i + 1)).map (·.1)).Nodup:=hnd.sublist ((List.take_sublist _ _).map _)
   rw [e,zMa,List.nodup_append] at h4
   intro z
   exact h4.2.2 _ z kx.1 (by simp) rfl
  refine wpAny_holding (wpAny_dictSet_pairs (hsz:=by rw [List.length_take]; omega) hkey hd' fun h2 dd hs=>?_)
  rw [gk hnew,show more.take i ++ [(kx.1,kx.2)]=more.take (i + 1) by rw [List.take_succ,ekx]; rfl] at dd
  refine wpAny_pure ⟨plainId_quiet wc _,?_⟩
  have keep:∀ b o,b ≠ d->h'.get? b=some o->h2.get? b=some o:=fun b o hb e=>(hs.2 b hb).trans e
  refine ih (i + 1) _ (by omega) ?_ ?_ dd ?_ fun h3 tk3 d3 k3=>?_
  ·obtain ⟨o',ho',r'⟩:=hst'.1
   exact ⟨o',keep _ _ (Ne.symm hdi) ho',r'⟩
  ·obtain ⟨o',ho',r'⟩:=hst'.2
   exact ⟨o',keep _ _ (Ne.symm hdl) ho',r'⟩
  ·intro j v kx h1 h2'
   obtain ⟨b,o,n,key,e1,e2,e3,e4,e5⟩:=hp' j v kx h1 h2'
   refine ⟨b,o,n,key,e1,keep b o ?_ e2,e3,e4,e5⟩
   intro z
   subst z
   obtain ⟨o',es,ep,ho',hc',hdat,_⟩:=hd'
   rw [ho'] at e2
   cases e2
   rw [hdat] at e4
   cases e4
  ·exact hR h3 tk3 d3 fun b o h1 h2' e=>k3 b o h1 h2' (keep b o h1 (hk' b o (by simpa using h2') e))
theorem jg {E:Value->Shared->Prop} {l:Addr} {its:List Value} {more:List (K × Value)} {Q:Value->Shared->Prop} (hh:A.handled=none) (hl:PlainL s.heap l its.toArray) (hlen:its.length=more.length) (hnd:(more.map (·.1)).Nodup) (hsz:more.length <= sizeLine)
  (hp:∀ (j:Nat) v kx,its[j]?=some v->more[j]?=some kx->T2 knd s.heap v kx)
  (h:∀ h' tk,h'.DictOf knd s.heap.objs.size more->(∀ b o,s.heap.get? b=some o->h'.get? b=some o)->Q (.ref s.heap.objs.size) { s with heap:=h',toks:=tk }) :
  wpAny (model prog w) A (call (.type "dict") [.ref l]) Q E s:=by
 refine callType_codes (Q₁:=fun obj s₁=>obj=.ref s.heap.objs.size /\ s₁={ s with heap:=s.heap.push { cls:=.type "dict", data:=.dict #[] } }) F.kt_called_dict (F.kt_typeCall_dict_1 _) F.entry_dict_init (kt_code_dict_new _ ⟨rfl,rfl⟩) ?_
 rintro obj s₁ ⟨rfl,rfl⟩
 have hnew:(s.heap.push { cls:=.type "dict", data:=.dict #[] }).DictOf knd s.heap.objs.size []:=Heap.DictOf.new s.heap
 have k1:∀ b o,s.heap.get? b=some o->(s.heap.push { cls:=.type "dict", data:=.dict #[] }).get? b=some o:=fun b o e=>Heap.get?_push_of_some _ e
 have hl1:=hl.keeps k1
 have hls:l < s.heap.objs.size:=by obtain ⟨o,n,e,_⟩:=hl; exact Heap.lt_size e
 refine ⟨hnew.typeIs,F.args_dict_init_2 _ _,?_⟩
 unfold Builtin.«dict.__init__»
 refine wpAny_bind ?_
 unfold Builtin.Dict.selfAndRest
 refine wpAny_bind (wpAny_notOrdered_dict hnew.typeIs ?_)
 show wpAny _ _ (pure (s.heap.objs.size,[Value.ref l])) _ _ _
 refine wpAny_pure ?_
 show wpAny _ _ (Builtin.Dict.updateFrom "dict.__init__" s.heap.objs.size (.ref l) [] .none) _ _ _
 unfold Builtin.Dict.updateFrom
 refine wpAny_bind (wpAny_typeOf hl1.isList.typeIs ?_)
 rw [if_pos (by decide)]
 refine wpAny_bind (Qs hl1 hh fun h2 tk2 k2=>?_)
 rw [if_pos (by rfl)]
 refine wpAny_bind (wpAny_rule ?_)
 have hl2:=(hl1.keeps k2).isList
 have hlt:l < h2.objs.size:=by obtain ⟨o,e,_⟩:=hl2; exact Heap.lt_size e
 refine wpAny_bind (wpAny_pyIter_list hl2 ?_)
 have hdlt:s.heap.objs.size < h2.objs.size:=by
  obtain ⟨o,es,ep,ho,_⟩:=hnew
  exact Heap.lt_size (k2 _ _ ho)
 refine wpAny_pure ⟨plainId_quiet wc _,?_⟩
 refine O5 (knd:=knd) (A:=A.in1) hh s.heap.objs.size h2.objs.size l (Nat.ne_of_lt hdlt) (Nat.ne_of_gt hls) (Nat.ne_of_lt hlt) its more hlen hnd hsz its.length 0 _ (by omega) ?_ ?_ ?_ ?_ fun h3 tk3 d3 k3=>?_
 ·exact ⟨_,Heap.get?_push_size _ rfl,rfl,rfl⟩
 ·exact hl2.push _
 ·obtain ⟨o,es,ep,ho,r⟩:=hnew
  exact ⟨o,es,ep,Heap.get?_push_of_some _ (k2 _ _ ho),r⟩
 ·intro j v kx h1 h2'
  obtain ⟨b,o,n,key,e1,e2,e3,e4,e5⟩:=hp j v kx h1 h2'
  exact ⟨b,o,n,key,e1,Heap.get?_push_of_some _ (k2 _ _ (k1 _ _ e2)),e3,e4,e5⟩
 ·refine ⟨rfl,h h3 tk3 d3 fun b o e=>k3 b o ?_ ?_ (Heap.get?_push_of_some _ (k2 _ _ (k1 _ _ e)))⟩
  ·exact Nat.ne_of_lt (Heap.lt_size e)
  ·exact Nat.ne_of_lt (Nat.lt_trans (Heap.lt_size e) hdlt)
end
section
variable {X:Cx}
noncomputable def Pz (K:W.Frag) (H:Hp):List V->List (Key × V)->Prop:=Paired fun p kv=>∃ b,p=V.ref b /\ SqT K H b [kV kv.1,kv.2]
theorem Su (hc:X.calm=true):uv X (.type "dict") (fun xs H Q=>∃ a ps kvs,xs=[.ref a] /\ SqL X.K H a ps /\ Pz X.K H ps kvs /\ (kvs.map (·.1)).Nodup /\ ∀ p,H p=none->Q (.ref p) (upd H p (.dK kvs))):=by
 intro pn s σ H xs us Q I r h
 obtain ⟨a,ps,kvs,rfl,ha,hp,hn,q⟩:=h
 obtain ⟨u,rfl,ru⟩:=Z1 r
 cases ru
 obtain ⟨its,rv,pl,hz⟩:=I.list ha
 have hlen:ps.length=kvs.length:=hp.length
 have hli:=rv.length
 have ex:∃ more:List (Key × Value),KV kvs more /\ ∀ (j:Nat) v kx,its[j]?=some v->more[j]?=some kx->T2 (yg X.prog X.w) s.heap v kx:=by
  clear hn q hz pl hlen hli ha
  induction rv generalizing kvs with
  | nil=>cases hp; exact ⟨[],.nil,fun j v kx e=>by simp at e⟩
  | cons r1 r2 ih =>
   cases hp with
   | cons h t =>
    obtain ⟨more,k1,k2⟩:=ih _ t
    obtain ⟨b,rfl,sq⟩:=h
    cases r1
    obtain ⟨ts,rt,⟨o,e1,e2,n,e3⟩,_⟩:=I.tuple sq
    cases rt with
    | cons t1 rt =>
     cases rt with
     | cons t2 rt =>
      cases rt
      rename_i kk key x
      refine ⟨(_,x) :: more,.cons ⟨rfl,t2⟩ k1,fun j v kx h1 h2=>?_⟩
      cases j with
      | zero =>
       simp at h1 h2
       subst h1 h2
       exact ⟨b,o,n,key,rfl,e1,e2,e3,Jv t1⟩
      | succ j=>exact k2 j v kx (by simpa using h1) (by simpa using h2)
 obtain ⟨more,k1,k2⟩:=ex
 have hml:kvs.length=more.length:=k1.length
 have hkeys:more.map (·.1)=kvs.map (·.1):=by
  clear hn q hp hlen k2 hml
  induction k1 with
  | nil=>rfl
  | cons h t ih=>rw [List.map_cons,List.map_cons,ih,h.1]
 have hb:=I.big
 refine jg (knd:=yg X.prog X.w) (I.ok.hd hc) pl (by omega) (by rw [hkeys]; exact hn) (by omega) k2 fun h' tk hd keep=>?_
 refine ⟨.ref s.heap.objs.size,_,I.laid (t':=tk) (a:=s.heap.objs.size) (o:=.dK kvs) keep (Nat.le_refl _) ?_,rfl,q _ (I.hok.fresh (Nat.le_refl _))⟩
 exact Pn (by omega) (by simpa using (Nat.ne_of_gt hb)) k1 hd
end
end L2
namespace DL
open PySem PySem.Spec L2 L3
open PyProof.Rows hiding St
variable {Γ:Hp->Prop}
section
variable {X:Cx} {e ke:Expr} {es:List Expr} {t:TDs} {te tk:TD} {p p2 pos pos2:Pos}
noncomputable def kD:Key->D
 | .inl i=>.int i
 | .inr x=>.str x
noncomputable def Qe (ks:List Key) (ds:List D):List D:=(ks.zip ds).map fun q=>.tup [kD q.1,q.2]
noncomputable def sDictP:FT:=fun xs φ=>match xs with
 | [.lst l]=>∃ ks ds,l=Qe ks ds /\ ks.length=ds.length /\ ks.Nodup /\ φ (df (.dk ks ds))
 | _=>False
theorem Gw {K:W.Frag} {H:Hp} {O:List Addr} {k:Key} {v:V} (h:Rep K H O (kD k) v):v=kV k:=by
 cases k with
 | inl i=>exact h
 | inr x=>exact h
theorem gn {K:W.Frag} {H:Hp} {O:List Addr}:∀ (ks:List Key) (ds:List D) (ps:List V),ks.length=ds.length->Reps K H O (Qe ks ds) ps->∃ xs,Pz K H ps (ks.zip xs) /\ Reps K H O ds xs
 | [],[],ps,_,h=>by
  cases (show ps=[] from h)
  exact ⟨[],.nil,rfl⟩
 | [],_ :: _,_,h,_=>by cases h
 | _ :: _,[],_,h,_=>by cases h
 | k :: ks,d :: ds,ps,hl,h=>by
  obtain ⟨v,ws,rfl,⟨a,zs,rfl,sq,r⟩,hr⟩:=h
  obtain ⟨v1,w1,rfl,r1,v2,w2,rfl,r2,rfl⟩:=r
  cases Gw r1
  obtain ⟨xs,h1,h2⟩:=gn ks ds ws (by simpa using hl) hr
  exact ⟨v2 :: xs,.cons ⟨a,rfl,sq.1⟩ h1,v2,xs,rfl,r2,h2⟩
theorem t5 {α β:Type}:∀ (ks:List α) (xs:List β),ks.length=xs.length->(ks.zip xs).map (·.1)=ks
 | [],_,_=>rfl
 | k :: ks,[],h=>by cases h
 | k :: ks,x :: xs,h=>by
  rw [List.zip_cons_cons,List.map_cons,t5 ks xs (by simpa using h)]
theorem Me (hm:X.mg "dict" = none) (ha:EA Γ X (e :: es) t) (hc:X.calm=true:=by rfl) (hg:Gl X "dict":=by rfl) (he:starEach (e :: es) X.env=(false,eval e X.env) :: starEach es X.env:=by rfl) (hpl:(backTo pos (starEach es X.env)).any (·.1)=false:=by rfl):ED Γ X (.Call (.Name "dict" p) (e :: es) [] pos) (dCB sDictP t) :=
 jc (Su hc) (fun H O ds vs φ Q ho hv h k=>by
  unfold sDictP at h
  split at h
  ·obtain ⟨ks,ds,rfl,hl,nd,h⟩:=h
   obtain ⟨v,ws,rfl,⟨a,xs,rfl,q,r⟩,rfl⟩:=hv
   obtain ⟨zs,h1,h2⟩:=gn ks ds xs hl r
   have hz:ks.length=zs.length:=by rw [hl,h2.length]
   exact ⟨a,xs,_,rfl,SqL.of q,h1,by rw [t5 ks zs hz]; exact nd,fun p hp=>k _ (df (.dk _ _)) _ (zw hp _) ⟨p,rfl,hp,ho p hp,zs,zi,hl,nd,Reps.grow (cz hp) _ _ h2⟩ h⟩
  ·exact h.elim) hm boot_dict' ha hg (by decide) (by decide) he hpl
end
end DL
namespace L2
open PySem PySem.Spec PyProof.Rows
section
variable {X:Cx} {tg:Expr} {pn:List (Addr × Obj)} {σ:St} {H:Hp} {s:Shared} {a:Addr} {ob:Obj} {kvs:List (Key × V)}
end
noncomputable def Fp {α:Type} (xs:List α) (lo hi st:Option Int):List α :=
 let b:=sliceBounds lo hi st xs.length
 (sliceRange b.1 b.2.1 b.2.2).filterMap fun i=>xs[i]?
section
variable {X:Cx} {e:Expr} {te:TE} {lo hi:Option Expr} {st:Expr} {tl th ts:TO} {pos p2:Pos}
noncomputable def Oa (K:W.Frag) (te:TE) (tl th ts:TO):TE:=fun σ H Q=>te σ H fun x H1=>tl σ H1 fun l H2=>th σ H2 fun u H3=>ts σ H3 fun k H4=>∃ a xs,x=.ref a /\ SqL K H4 a xs /\ k ≠ some 0 /\ ∀ p,H4 p=none->Q (.ref p) (upd H4 p (.lst (Fp xs l u k)))
end
end L2
namespace DL
open PySem PySem.Spec L2 L3
open PyProof.Rows hiding St
variable {Γ:Hp->Prop}
noncomputable abbrev TK:=List Key
noncomputable instance decMemTK (k:TK) (ks:List TK):Decidable (k ∈ ks):=decidable_of_iff (ks.any (fun x=>decide (x=k))=true) (by simp)
end DL
namespace L2
open PySem PySem.Spec PySem.W PyProof.Rows
noncomputable def RawD (h:Heap) (d:Addr) (rows:Array DictEntry) (ep:Nat):Prop:=∃ o,h.get? d=some o /\ o.ExactDict /\ o.data=.dict rows ep
theorem RawD.lt {h:Heap} {d:Addr} {rows:Array DictEntry} {ep:Nat} (x:RawD h d rows ep):d < h.objs.size:=let ⟨_,g,_⟩:=x; Heap.lt_size g
section
variable {n:Nat} {cmp:Nat->Nat->(Bool->Shared->Prop)->Shared->Prop} {s:Shared}
noncomputable abbrev POrd (n:Nat) (p:Array Nat):Prop:=p.Perm (List.toArray (List.range n))
theorem POrd.lt {p:Array Nat} (h:POrd n p) (hn:0 < n) (i:Nat):p.getD i 0 < n:=by
 by_cases hi:i < p.size
 ·have e:p.getD i 0=p[i]:=by simp [Array.getD,hi]
  rw [e]
  have m:p[i] ∈ List.toArray (List.range n):=h.mem_iff.mp (Array.getElem_mem hi)
  simpa using m
 ·have e:p.getD i 0=0:=by simp [Array.getD,hi]
  omega
end
theorem wr {α:Type}:∀ l:List α,(l.zip l).map (fun x=>x.2)=l
 | []=>rfl
 | a :: l=>by rw [List.zip_cons_cons,List.map_cons,wr l]
noncomputable def Ci:Key->Option Int
 | .inl i=>some i
 | .inr _=>none
section
variable {n:Nat} {lt:Nat->Nat->Bool} {cmp:Nat->Nat->(Bool->Shared->Prop)->Shared->Prop} {s:Shared}
theorem POrd.size {p:Array Nat} (h:POrd n p):p.size=n:=by
 have:=h.size_eq
 simpa using this
end
end L2
namespace DL
open PySem PySem.Spec L2 L3
open PyProof.Rows hiding St
variable {Γ:Hp->Prop}
noncomputable def zK (k:TK):List Int:=k.filterMap Ci
end DL
namespace L2
open PySem PySem.Spec PyProof.Rows
section
variable {prog:Program} {w:World} {A:Around} {E:Value->Shared->Prop} {s:Shared}
theorem Ux {J l:Addr} {its:Array Value} (ne:l ≠ J):∀ (n i:Nat) (s:Shared) (Q:List Value->Shared->Prop),s.heap.IsListIter J l i->s.heap.IsList l its->i + n <= its.size ->
  (∀ h',h'.IsListIter J l (i + n)->h'.IsList l its->Heap.SameBut J s.heap h'->Q ((its.toList.drop i).take n) { s with heap:=h' })->wpAny (model prog w) A (draw (.ref J) n) Q E s
 | 0,i,s,Q,y,hl,_,q=>by
  show wpAny _ _ (pure []) Q E s
  apply wpAny_pure
  have:=q s.heap y hl (Heap.SameBut.refl ..)
  simpa using this
 | n + 1,i,s,Q,y,hl,le,q=>by
  have lt:i < its.size:=by omega
  show wpAny _ _ (pyNext (.ref J) >>= _) Q E s
  apply wpAny_bind
  refine wpAny_pyNext_list_item y hl (x:=its[i]) (by simp [lt]) fun h1 y1 s1=>?_
  have hl1:h1.IsList l its:=hl.at fun o e=>s1.extBut l o ne e
  apply wpAny_bind; apply wpAny_holding
  refine Ux ne n (i + 1) _ _ y1 hl1 (by omega) fun h2 y2 hl2 s2=>wpAny_pure (?_:_)
  have e0:its.toList.drop i=its[i] :: its.toList.drop (i + 1):=by simp [List.drop_eq_getElem_cons,lt]
  have:=q h2 (by rw [show i + (n + 1)=i + 1 + n by omega]; exact y2) hl2 (s1.trans s2)
  rw [e0,List.take_succ_cons] at this
  exact this
theorem T6 {env:Env} {elts:List Expr} {x1} {pos:Pos} {l:Addr} {its:Array Value} {Q:Unit->Shared->Prop} (hh:A.handled=none) (hl:s.heap.IsList l its) (hn:(assignEach elts env).length=its.size) (hs:(assignEach elts env).findIdx? (·.1)=none)
  (q:∀ h',Heap.ExtBut s.heap.objs.size s.heap h'->wpAny (model prog w) A (assignInOrder ((assignEach elts env).map (·.2)) its.toList) Q E { s with heap:=h' }):wpAny (model prog w) A (assign (.Tuple elts x1 pos) env (.ref l)) Q E s:=by
 have ne:l ≠ s.heap.objs.size:=by obtain ⟨o,e,_⟩:=hl; exact Nat.ne_of_lt (Heap.lt_size e)
 rw [assign_Tuple]
 apply wpAny_bind; apply wpAny_standAt
 unfold unpack
 rw [hn,hs]
 apply wpAny_bind; apply wpAny_holding
 unfold unpackItems
 apply wpAny_bind
 unfold notIterableAtAll
 apply wpAny_bind
 refine wpAny_specialOf hl.typeIs PySem.F.slot_list_iter.lookup (?_:_)
 apply wpAny_pure
 simp only [Bool.false_eq_true,if_false]
 apply wpAny_bind; apply wpAny_holding
 refine wpAny_pyIter_list hl (?_:_)
 apply wpAny_bind; apply wpAny_holding
 refine Ux ne its.size 0 _ _ ⟨_,Heap.get?_push_size _ rfl,rfl,rfl⟩ (hl.push _) (by omega) fun h1 y1 hl1 s1=>?_
 rw [show List.take its.size (List.drop 0 its.toList)=its.toList by rw [List.drop_zero]; exact List.take_of_length_le (by simp)]
 rw [if_neg (show ¬ _ by simp)]
 apply wpAny_bind; apply wpAny_holding
 refine wpAny_pyNext_list_end hh y1 hl1 (by simp) fun h2 e2=>?_
 simp only [Option.isSome_none,Bool.false_eq_true,if_false]
 refine wpAny_pure (q h2 fun b o hb e=>e2 b o hb (s1.extBut b o hb (Heap.get?_push_of_some _ e)))
end
section
variable {X:Cx}
noncomputable def gLst (K:W.Frag) (n:Nat) (t:TGs):TG:=fun v σ H Q=>∃ a xs,v=.ref a /\ SqL K H a xs /\ xs.length=n /\ t xs σ H Q
theorem Ja {K0:W.Frag} {es:List Expr} {k:Nat} {t:TGs} {n:Nat} {pos:Pos} (hK:X.K=K0) (hc:X.calm=true) (h:PGs X es t) (hn:(assignEach es X.env).length=n:=by rfl) (hst:(assignEach es X.env).findIdx? (·.1)=none:=by rfl):PG X (.Tuple es k pos) (gLst K0 n t):=by
 subst hK
 intro pn s σ H v u Q I r hw
 obtain ⟨a,xs,e1,hq,hl,hw⟩:=hw
 subst e1
 cases r
 obtain ⟨its,rv,ht,hz⟩:=I.list hq
 refine T6 (I.ok.hd hc) ht.isList (by simp [hn,<- hl,rv.length]) hst fun h' hx=>?_
 have I1:Inv X pn σ H { s with heap:=h' }:=I.kept (t':=s.toks) fun b o e=>hx b o (Nat.ne_of_lt (Heap.lt_size e)) e
 exact h pn _ σ H xs _ Q I1 (by simpa using rv) hw
end
end L2
namespace DL
open PySem PySem.Spec L2 L3
open PyProof.Rows hiding St
variable {Γ:Hp->Prop}
section
variable {X:Cx} {σ:St} {scope:Scope} {T F:List Str} {js:List Nat} {tg iter elt:Expr} {ifs:List Expr} {pos:Pos} {ti:TID} {g2:TG} {g:TGD} {tc:TDb} {te:TD}
noncomputable def Pq (ti:TID) (n:Nat) (js:List Nat) (g:TGD) (tc:TDb) (te:TD):TD:=fun ρ φ=>ti ρ fun ds=>∃ P:Nat->List D->Prop,ds.length <= 100000 /\ P 0 [] /\
 (∀ (i:Nat) (d:D) (es:List D),ds[i]?=some d->es.length <= i->P i es->g d (ρ0 n js ρ) fun ρ'=>tc ρ' fun c=>(c=true->te ρ' fun r=>(match r.k with | .own=>False | _=>True) /\ P (i + 1) (es ++ [r.d])) /\ (c=false->P (i + 1) es)) /\ ∀ es,P ds.length es->φ (df (.lst es))
theorem Ts {H₀:Hp} (nd:js.Nodup) (hl:gf X.K g2 g):∀ σ H Q,si X.K H₀ (Pq ti T.length js g tc te) σ H Q->Of (Jq X.K H₀ ti) T js g2 (Zm X.K H₀ tc) (si X.K H₀ te) σ H Q:=fun σ H Q q=>by
  obtain ⟨ρ,o,R,φ,hφ,k⟩:=q
  refine ⟨ρ,o,R,_,hφ,fun J ds P H1 s1 I hP ⟨PP,hlen,P0,turn,fin⟩ Da hDa=>?_⟩
  have R1:=R.to s1
  have gD:∀ {H':Hp},Same H1 H'->Grow (o.map Prod.snd) (Da :: o.map Prod.snd) H1 H':=fun s=>⟨fun b u h nb=>⟨s b u h,fun z=>(List.mem_cons.mp z).elim (fun e=>zm h hDa e) nb⟩,fun b xs h=>s b _ h,fun b ob u h=>s b _ h⟩
  refine ⟨fun i m ys H'=>m=ds.length - i /\ i <= ds.length /\ Same H1 H' /\ H' Da=some (.lst ys) /\ ∃ es,es.length <= i /\ PP i es /\ Reps X.K H' (Da :: o.map Prod.snd) es ys,
   ⟨_,rfl,Nat.zero_le _,zw hDa _,zi,[],Nat.le_refl _,P0,rfl⟩,?_⟩
  rintro i m ys H' ⟨rfl,hi',s2,hD',es,le,pe,rp⟩
  refine ⟨hD',?_⟩
  have hP':=I.keep _ _ _ _ hP (gD s2)
  by_cases hlt:i < ds.length
  ·have ed:ds[i]?=some ds[i]:=by simp [hlt]
   obtain ⟨j1,j2⟩:=I.go H' _ i _ hP' ed
   refine .inr ⟨j1,fun zs H2=>Same H1 H2 /\ H2 Da=some (.lst zs) /\ ∃ es,es.length <= i + 1 /\ PP (i + 1) es /\ Reps X.K H2 (Da :: o.map Prod.snd) es zs,fun zs H2 ⟨a1,a2,a3⟩=>⟨_,(by omega:ds.length - (i + 1) < ds.length - i),rfl,hlt,a1,a2,a3⟩,fun x H2 y=>?_⟩
   obtain ⟨s3,rx⟩:=j2 x H2 y
   have s13:=s2.trans s3
   have hD2:=s3 _ _ hD'
   have RB:=gp (n:=T.length) R1 nd hDa s13 hD2 T rfl
   have hO:((T.length + js.length,Da) :: o.map fun p=>(ixO T.length js p.1,p.2)).map Prod.snd=Da :: o.map Prod.snd:=by
    rw [List.map_cons,List.map_map]
    rfl
   have rpl:ys.length <= 100000:=by
    rw [rp.length]
    omega
   refine hl H₀ H2 (st0 T js σ) (ρ0 T.length js ρ) _ _ x _ _ RB (by rw [hO]; exact rx) (turn i _ es ed le pe) fun ρ' σ' R' q'=>?_
   refine ⟨ρ',_,R',_,q',fun c H3 s4 h4=>?_⟩
   have hD3:=s4 _ _ hD2
   cases c with
   | false =>
    exact iteF ⟨s13.trans s4,hD3,es,Nat.le_succ_of_le le,h4.2 rfl,Reps.grow (Grow.same (s3.trans s4)) _ _ rp⟩
   | true =>
    refine iteT ⟨ρ',_,R'.to s4,_,h4.1 rfl,fun v r H4 s5 rv h5=>?_⟩
    have hD4:=s5 _ _ hD3
    have rd:=rv.solid (vf h5.1)
    rw [hO] at rd
    have ne:∀ b u,H1 b=some u->b ≠ Da:=fun b u h=>zm h hDa
    have gu:Grow (Da :: o.map Prod.snd) (Da :: o.map Prod.snd) H4 (upd H4 Da (.lst (ys ++ [v]))) :=
     ⟨fun b u h n=>⟨by rw [y0 (fun z=>n (List.mem_cons.mpr (.inl z)))]; exact h,n⟩,fun b xs h=>by rw [y0 (fun z=>by rw [z,hD4] at h; cases h)]; exact h,fun b ob u h=>by rw [y0 (fun z=>by rw [z,hD4] at h; cases h)]; exact h⟩
    refine ⟨hD4,Nat.lt_of_le_of_lt rpl (by decide),⟨fun b u h=>?_,zi,es ++ [r.d],by rw [zLa]; exact Nat.succ_le_succ le,h5.2,?_⟩⟩
    ·rw [y0 (ne b u h)]
     exact s5 _ _ (s4 _ _ (s13 b u h))
    ·exact Reps.grow gu _ _ ((Reps.grow (Grow.same (s3.trans (s4.trans s5))) _ _ rp).append (Reps.one rd))
  ·have e:i=ds.length:=by omega
   subst e
   refine .inl ⟨I.stop H' _ hP',?_⟩
   exact k (.ref Da) (df (.lst es)) H' (s1.trans s2) ⟨Da,rfl,s1.free hDa,R.ofree (s1.free hDa),ys,hD',rp⟩ (fin es pe)
theorem Mf (hi:EI Γ X tg iter ti) (S:y9 X.env.scope scope T F) (hjs:Paired (fun x j=>X.N[j]?=some x) F js) (nd:js.Nodup)
  (hg:∀ cl C fp s H,PG (yq X (T ++ F) scope cl C fp s H) tg g2) (hk:bz T.length g2) (hl:gf X.K g2 g)
  (ht:∀ cl C fp s H,EIf Γ (yq X (T ++ F) scope cl C fp s H) ifs tc) (he:∀ cl C fp s H,ED Γ (yq X (T ++ F) scope cl C fp s H) elt te)
  (hc:X.calm=true:=by rfl) (hs:∀ x,foldedSetIterable iter X.env x=pure x:=by intro _; rfl):ED Γ X (.ListComp elt [⟨tg,iter,ifs,0⟩] scope pos) (Pq ti T.length js g tc te):=fun H₀ =>
 impE (Qb (tc:=Zm X.K H₀.1 tc) (te:=si X.K H₀.1 te) hc (hi H₀) S hjs hg hk (fun cl C fp s H=>ht cl C fp s H H₀) (fun cl C fp s H=>he cl C fp s H H₀) hs) (Ts nd hl)
theorem Pp {ti:TID} {n:Nat} {js:List Nat} {g:TGD} {tc:TDb} {te:TD} {ρ:DE} {φ:EV->Prop} (ds:List D) (h:∀ ψ:List D->Prop,ψ ds->ti ρ ψ) (P:Nat->List D->Prop) (hl:ds.length <= 100000) (h0:P 0 [])
  (ht:∀ (i:Nat) (d:D) (es:List D),ds[i]?=some d->es.length <= i->P i es->g d (ρ0 n js ρ) fun ρ'=>tc ρ' fun c=>(c=true->te ρ' fun r=>(match r.k with | .own=>False | _=>True) /\ P (i + 1) (es ++ [r.d])) /\ (c=false->P (i + 1) es)) (hφ:∀ es,P ds.length es->φ (df (.lst es))):Pq ti n js g tc te ρ φ:=h _ ⟨P,hl,h0,ht,hφ⟩
end
end DL
namespace L2
open PySem PySem.Spec PyProof.Rows
theorem tu:∀ {ts:List Str} {us:List Value},Vals (ts.map V.str) us->∃ l:List (Str × Tok),us=strValues l /\ l.map (·.1)=ts
 | [],_,.nil=>⟨[],rfl,rfl⟩
 | t :: ts,_,.cons r q=>by
  obtain ⟨k,rfl⟩:=r
  obtain ⟨l,rfl,e⟩:=tu q
  exact ⟨(t,k) :: l,rfl,by rw [List.map_cons,e]⟩
theorem Y5 (n:Nat):∀ (ts:List Str) (a:Nat),ts.foldl (fun acc (t:Str)=>acc + t.length + n) a=a + (ts.map fun t=>t.length + n).sum
 | [],a=>by simp
 | t :: ts,a=>by
  rw [List.foldl_cons,Y5 n ts,List.map_cons,List.sum_cons]
  omega
section
variable {X:Cx}
theorem Jm:MtR X "str.join" (fun x xs H Q=>∃ sep p ts,x=.str sep /\ xs=[.ref p] /\ (SqL X.K H p (ts.map V.str) \/ SqT X.K H p (ts.map V.str)) /\ (ts.map fun t=>t.length + sep.length).sum <= sizeLine /\ Q (.str (Str.join sep ts)) H):=by
 intro pn s σ H x xs v us Q I rx rs h
 obtain ⟨sep,p,ts,rfl,rfl,hq,hb,q⟩:=h
 obtain ⟨t,rfl⟩:=rx
 obtain ⟨u,rfl,ru⟩:=Z1 rs
 cases ru
 have fin:∀ l:List (Str × Tok),l.map (·.1)=ts->(joinMade sep l).post (fun v s'=>EP X pn σ Q v s') s:=fun l el=>by
  have lg:(Builtin.Str.glued sep ts).length <= sizeLine:=by
   rw [size_glued]
   refine Nat.le_trans ?_ hb
   have e:(ts.map fun t=>t.length + sep.length).sum=(ts.map (·.length)).sum + ts.length * sep.length:=by
    clear hb q hq el
    induction ts with
    | nil=>simp
    | cons t ts ih=>simp [ih,Nat.add_mul]; omega
   rw [e]
   exact Nat.add_le_add_left (Nat.mul_le_mul_right _ (Nat.sub_le _ _)) _
  have two:EP X pn σ Q (.str (Builtin.Str.glued sep ts) s.toks) { s with toks:=s.toks + 1 }:=⟨.str (Str.join sep ts),H,I.tok _,⟨s.toks,by rw [PySem.StrLaws.glued_eq_join]⟩,q⟩
  match l,el with
  | [],el=>subst el; exact ⟨lg,two⟩
  | [p],el=>subst el; exact ⟨.str p.1,H,I,⟨p.2,rfl⟩,q⟩
  | p :: r :: l,el=>subst el; exact ⟨lg,two⟩
 have hl:∀ l:List (Str × Tok),l.map (·.1)=ts->Builtin.Str.tooLong ((l.map (·.1)).toArray.foldl (· + ·.length + sep.length) 0)=false:=fun l el=>by
  rw [el]
  unfold Builtin.Str.tooLong
  simp only [List.foldl_toArray]
  rw [Y5]
  simp
  omega
 rcases hq with hq | hq
 ·obtain ⟨its,rv,pl,hz⟩:=I.list hq
  obtain ⟨l,rfl,el⟩:=tu rv
  exact call_meets PySem.F.slot_str_join (typeIs_str s sep t) PySem.F.entry_str_join (PySem.F.args_str_join_2 _ _) (meets_str_join_list sep t p l (hl l el)) ⟨pl.isList,fin l el⟩
 ·obtain ⟨its,rv,pl,hz⟩:=I.tuple hq
  obtain ⟨l,rfl,el⟩:=tu rv
  obtain ⟨o,g,c,n,d⟩:=pl
  exact call_meets PySem.F.slot_str_join (typeIs_str s sep t) PySem.F.entry_str_join (PySem.F.args_str_join_2 _ _) (meets_str_join_tuple sep t p l (hl l el)) ⟨⟨o,n,g,c,d⟩,fin l el⟩
end
end L2
namespace DL
open PySem PySem.Spec L2 L3
open PyProof.Rows hiding St
variable {Γ:Hp->Prop}
theorem se {K:W.Frag} {H:Hp} {O:List Addr}:∀ {ns:List Str} {xs:List V},Reps K H O (ns.map D.str) xs->xs=ns.map V.str
 | [],_,h=>h
 | n :: ns,xs,h=>by
  obtain ⟨v,r,rfl,q,t⟩:=h
  cases (show v=_ from q)
  rw [se t]
  rfl
section
variable {X:Cx} {o e:Expr} {td te:TD} {apos cpos:Pos}
noncomputable def Lx (td te:TD):TD:=fun ρ φ=>td ρ fun x=>match x.d with
 | .str sep=>te ρ fun y=>(match y.d with
  | .lst ds=>∃ ts:List Str,ds=ts.map D.str /\ (ts.map fun t=>t.length + sep.length).sum <= sizeLine /\ φ (dv (.str (Str.join sep ts)))
  | .tup ds=>∃ ts:List Str,ds=ts.map D.str /\ (ts.map fun t=>t.length + sep.length).sum <= sizeLine /\ φ (dv (.str (Str.join sep ts)))
  | _=>False)
 | _=>False
theorem Md (ho:ED Γ X o td) (he:ED Γ X e te) (hbase:attributeBase o "join" X.env (eval o X.env)=eval o X.env:=by rfl)
  (hfew:((backTo cpos (starEach [e] X.env)).all (fun x=>!x.1) && (backToKw cpos (keywordEach [] X.env)).all (fun x=>x.1.isSome) && decide (([e]:List Expr).length + ([]:List Keyword).length + (if ([]:List Keyword).isEmpty then 0 else 1) < 30))=true:=by rfl)
  (hline:(apos.endLine == cpos.line)=true:=by rfl) (hs:starEach [e] X.env=(false,eval e X.env) :: starEach [] X.env:=by rfl) (hpl:(backTo cpos (starEach [] X.env)).any (·.1)=false:=by rfl) :
  ED Γ X (.Call (.Attribute o "join" apos) [e] [] cpos) (Lx td te):=fun H₀ =>
 impE (Xm PySem.F.plainAttrs_str PySem.F.slot_str_join PySem.F.type_str_join Jm (ho H₀) (yo (he H₀) wu hs) hbase hfew hline hs hpl) fun σ H Q q=>by
  obtain ⟨ρ,oo,R,φ,hφ,kk⟩:=q
  refine ⟨ρ,oo,R,_,hφ,fun v r H1 s1 rv h1=>?_⟩
  obtain ⟨kd,d⟩:=r
  cases d with
  | str sep =>
   cases (show v=_ from rv.view)
   refine ⟨rfl,ρ,oo,R.to s1,_,h1,fun v2 r2 H2 s2 rv2 h2=>?_⟩
   obtain ⟨kd2,d2⟩:=r2
   cases d2 with
   | lst ds =>
    obtain ⟨ts,rfl,hb,h2⟩:=h2
    obtain ⟨a,xs,rfl,q,rp⟩:=rv2.view
    cases se rp
    exact ⟨sep,a,ts,rfl,rfl,.inl (SqL.of q),hb,kk _ (dv (.str (Str.join sep ts))) H2 (s1.trans s2) (by exact rfl) h2⟩
   | tup ds =>
    obtain ⟨ts,rfl,hb,h2⟩:=h2
    obtain ⟨a,xs,rfl,q,rp⟩:=rv2.view
    cases se rp
    exact ⟨sep,a,ts,rfl,rfl,.inr q.1,hb,kk _ (dv (.str (Str.join sep ts))) H2 (s1.trans s2) (by exact rfl) h2⟩
   | _=>exact h2.elim
  | _=>exact h1.elim
end
end DL
namespace LQ
open PySem PySem.Spec L2 L3
open PyProof.Rows hiding St
noncomputable def dd (l:List Str) (k:Str):List Str:=if k ∈ l then l else l ++ [k]
noncomputable def many (l:List Str):Nat:=(l.foldl dd []).length
section
variable {X:Cx}
end
theorem vi:entryFor table "dict.update.loop" = some Builtin.«dict.update.loop»:=entryFor_of_tree (by kernel_rfl)
theorem xg:plainId "dict.update.loop" = true:=by decide +kernel
end LQ
namespace LQ
open PySem PySem.Spec PyProof.Rows
section
variable {P:Program} {w:World} {A:Around} {E:Value->Shared->Prop} {s:Shared}
structure ZAt (g:Heap) (z ti to i1 i2 l1 l2:Addr) (f:Value) (k:Nat):Prop where
 zz:IsZip g z ti to f
 its:IsPair g ti (.ref i1) (.ref i2)
 out:∃ a b,IsPair g to a b
 one:g.IsTupleIter i1 l1 k
 two:g.IsListIter i2 l2 k
structure ZNe (z ti to i1 i2:Addr):Prop where
 ab:ti ≠ z
 ac:to ≠ z
 ad:i1 ≠ z
 ae:i2 ≠ z
 bc:ti ≠ to
 bd:ti ≠ i1
 be:ti ≠ i2
 cd:to ≠ i1
 ce:to ≠ i2
 de:i1 ≠ i2
end
end LQ
namespace LQ
open PySem PySem.Spec L2 L3
open PyProof.Rows hiding St
end LQ
namespace L2
open PySem PySem.Spec PyProof.Rows
section
variable {X:Cx} {o e:Expr} {apos cpos:Pos} {td te:TE}
theorem Li {a b:List (Key × V)} {x y:List (Key × Value)} (h:KV a x) (g:KV b y):KV (a ++ b) (x ++ y):=by
 induction h with
 | nil=>exact g
 | cons h t ih=>exact .cons h ih
theorem Nm {a:List (Key × V)} {b:List (Key × Value)} (h:KV a b):b.map (·.1)=a.map (·.1):=by
 induction h with
 | nil=>rfl
 | cons h t ih=>rw [List.map_cons,List.map_cons,ih,h.1]
noncomputable def Gi (td te:TE):TE:=fun σ H Q=>td σ H fun x H1=>∃ a kvs0,x=.ref a /\ H1 a=some (.dK kvs0) /\ te σ H1 fun y H2=>∃ b kvs more,y=.ref b /\ a ≠ b /\ H2 a=some (.dK kvs) /\ H2 b=some (.dK more) /\ kvs.length + more.length <= sizeLine /\ ((kvs ++ more).map (·.1)).Nodup /\ Q .non (upd H2 a (.dK (kvs ++ more)))
theorem Jd (ho:PE X o td) (he:PE X e te) (m:M1 X o "update" apos e cpos):PE X (.Call (.Attribute o "update" apos) [e] [] cpos) (Gi td te):=by
 intro pn s σ H Q I h
 refine wpAny_Call_method m.base m.few m.line PySem.F.plainAttrs_dict PySem.F.slot_dict_update PySem.F.type_dict_update (thn (ho pn s σ H _ I h) fun u s1 ⟨x,H1,I1,rx,a,kvs0,ex,d,q1⟩=>?_)
 subst ex
 obtain rfl:u=Value.ref a:=rx
 obtain ⟨t1,t2,_⟩:=D5 I1 (.inl ⟨_,.inl d⟩)
 refine ⟨t1,t2,?_⟩
 rw [m.trees]
 refine Calls.callWith_builtin rfl (Calls.evalArgs_plain (Calls.spliced_cons (thn (he pn s1 σ H1 _ I1 q1) fun iv s2 ⟨y,H2,I2,ry,b,kvs,more,ey,hne,ha,hb,hl,hnd,q2⟩=>Calls.spliced_nil ?_)))
 subst ey
 obtain rfl:iv=Value.ref b:=ry
 obtain ⟨z1,hd1,ks,r1,d1⟩:=Dk I2.hok ha
 obtain ⟨z2,hd2,ms,r2,d2⟩:=Dk I2.hok hb
 refine call_meetsIn PySem.F.slot_dict_update d1.typeIs PySem.F.entry_dict_update (PySem.F.args_dict_update_2 _ _) (meets_dict_update (yg X.prog X.w) a b hne hd2) ⟨ks,ms,d1,d2,by rw [<- r1.length,<- r2.length]; exact hl,fun h' dd do' sb=>?_⟩
 have e:merged ks ms=ks ++ ms:=merged_append_of_fresh ks ms (by rw [Nm (Li r1 r2)]; exact hnd)
 rw [e] at dd
 have he':∃ q,h'.get? a=some q:=let ⟨q,_,_,hq,_⟩:=dd; ⟨q,hq⟩
 exact ⟨.non,_,Hs (t':=s2.toks) I2 (by rw [ha]; exact True.intro) sb he' (Pn (by rw [zLa]; exact hl) hd1 (Li r1 r2) dd),rfl,q2⟩
end
end L2
namespace DL
open PySem PySem.Spec L2 L3
open PyProof.Rows hiding St
variable {Γ:Hp->Prop}
section
variable {X:Cx} {e:Expr} {te:TD} {x:Str} {np apos cpos pos:Pos}
theorem X7 {α β:Type}:∀ (a:List α) (x:List β) (b:List α) (y:List β),a.length=x.length->(a ++ b).zip (x ++ y)=a.zip x ++ b.zip y
 | [],[],_,_,_=>rfl
 | _ :: _,[],_,_,h=>by cases h
 | [],_ :: _,_,_,h=>by cases h
 | a :: as,x :: xs,b,y,h=>by
  show (a,x) :: (as ++ b).zip (xs ++ y)=(a,x) :: (as.zip xs ++ b.zip y)
  rw [X7 as xs b y (by simpa using h)]
end
theorem Zb {K:W.Frag} {H:Hp} {O:List Addr}:∀ {ns:List Str} {xs:List V},Reps K H O (ns.map D.str) xs->xs=ns.map V.str
 | [],_,h=>h
 | n :: ns,xs,h=>by
  obtain ⟨v,r,rfl,q,t⟩:=h
  cases (show v=_ from q)
  rw [Zb t]
  rfl
end DL
namespace L2
open PySem PySem.Spec PySem.W PyProof.Rows
noncomputable def Cg (D:Addr) (i n ep:Nat) (x0 x1 o1 o2:Value):Obj:={ cls:=.type "dict_itemiterator", dict:=none,data:=.fields #[x0,x1,.ref D,.int i 0,.int n 0,.int ep 0,o1,o2],slots:=#[] }
noncomputable def RawJ (h:Heap) (J D:Addr) (i n ep:Nat):Prop:=∃ x0 x1 o1 o2,h.get? J=some (Cg D i n ep x0 x1 o1 o2) /\ ((x0=.none /\ x1=.bool false) \/ ∃ (b:Addr) (f:Bool) (ob:Obj),x0=rawInt b /\ x1=.bool f /\ h.get? b=some ob /\ b ≠ J)
noncomputable def C8 (e:DictEntry):Obj:={ cls:=.type "tuple", data:=.seq #[e.key,e.val] }
theorem RawJ.lt {h:Heap} {J D:Addr} {i n ep:Nat} (y:RawJ h J D i n ep):J < h.objs.size:=let ⟨_,_,_,_,e,_⟩:=y; Heap.lt_size e
noncomputable def O0 (h:Heap) (rows:Array DictEntry) (J:Addr) (as:List Addr):Prop:=(∀ a ∈ as,J < a) /\ as.Nodup /\ ∀ (j:Nat) a,as[j]?=some a->∃ e,rows[j]?=some e /\ h.get? a=some (C8 e)
theorem O0.lt {h:Heap} {rows:Array DictEntry} {J a:Addr} {as:List Addr} (p:O0 h rows J as) (m:a ∈ as):a < h.objs.size:=by
 obtain ⟨j,hj⟩:=List.getElem?_of_mem m
 obtain ⟨e,_,g⟩:=p.2.2 j a hj
 exact Heap.lt_size g
end L2
namespace L3
open PySem PySem.Spec L2
open PyProof.Rows hiding St
section
variable {P:Program} {w:World} {A:Around} {E:Value->Shared->Prop} {s:Shared}
theorem Mp {α:Type} {M:Model} {A:Around} {a:Addr} {k:Option Obj->Sem α} {Q:α->Shared->Prop} {E:Value->Shared->Prop} {s:Shared} (h:wpAny M A (k (s.heap.get? a)) Q E s):wpAny M A (Sem.loadIfAlive a k) Q E s:=fun Γ p hΓ=>by
 rw [Sem.wp_loadIfAlive]
 exact h Γ p hΓ
noncomputable def ZipF (h:Heap) (z ti to a:Addr) (fb:Bool):Prop:=h.get? z=some { cls:=.type "zip", dict:=none,data:=.fields #[rawInt a,.bool fb,.bool false,.ref ti,.ref to],slots:=#[] }
theorem P4 {z ti to a:Addr} {fb:Bool} {o:Obj} {Q:Bool->Shared->Prop} (hz:ZipF s.heap z ti to a fb) (ha:s.heap.get? a=some o)
  (hQ:∀ g,ZipF g z ti to a true->Heap.SameBut z s.heap g->Q false { s with heap:=g }):wpAny (model P w) A (Builtin.SmallTypes.ownedTupleIsFree (.ref z)) Q E s:=by
 unfold Builtin.SmallTypes.ownedTupleIsFree
 refine wpAny_bind (wpAny_field hz rfl (x:=rawInt a) rfl ?_)
 show wpAny _ _ (Sem.loadIfAlive (Int.toNat (a:Int)) _) _ _ _
 refine Mp ?_
 rw [Int.toNat_natCast,ha]
 show wpAny _ _ (field (.ref z) 1 >>= _) _ _ _
 refine wpAny_bind (wpAny_field hz rfl (x:=.bool fb) rfl ?_)
 cases fb with
 | true=>exact wpAny_pure (hQ s.heap hz (Heap.SameBut.refl _ _))
 | false =>
  show wpAny _ _ (setField (.ref z) 1 (.bool true) >>= _) _ _ _
  refine wpAny_bind (wpAny_setField_rec hz (by simp) fun g z1 s1=>?_)
  exact wpAny_pure (hQ g z1 s1)
theorem Sw {b1 b2:Bool} {z ti to i1 i2 l1 l2 a:Addr} {fb:Bool} {o:Obj} {k:Nat} {xs ys:Array Value} {x y:Value} {Q:Value->Shared->Prop} (n1:i1 ≠ z) (n2:i2 ≠ z) (n12:i1 ≠ i2) (nt:ti ≠ z) (nti1:ti ≠ i1) (l1z:l1 ≠ z) (l2z:l2 ≠ z) (l21:l2 ≠ i1)
  (hz:ZipF s.heap z ti to a fb) (ha:s.heap.get? a=some o) (hti:IsPair s.heap ti (.ref i1) (.ref i2)) (h1:ItAt b1 s.heap i1 l1 k) (h2:ItAt b2 s.heap i2 l2 k) (t1:SqAt b1 s.heap l1 xs) (t2:SqAt b2 s.heap l2 ys) (hx:xs[k]?=some x) (hy:ys[k]?=some y)
  (hQ:∀ g,ZipF g z ti to a true->ItAt b1 g i1 l1 (k + 1)->ItAt b2 g i2 l2 (k + 1)->IsPair g s.heap.objs.size x y->g.objs.size=s.heap.objs.size + 1->(∀ c o,c ≠ z->c ≠ i1->c ≠ i2->s.heap.get? c=some o->g.get? c=some o)->Q (.ref s.heap.objs.size) { s with heap:=g }) :
  wpAny (model P w) A (Builtin.«zip.__next__» ⟨[.ref z],[]⟩) (fun fin s'=>∃ v,fin=.done (.ret v) /\ Q v s') E s:=by
 show wpAny _ _ (field (.ref z) 2 >>= _) _ _ _
 refine wpAny_bind (wpAny_field hz rfl (x:=.bool false) rfl ?_)
 show wpAny _ _ (field (.ref z) 3 >>= _) _ _ _
 refine wpAny_bind (wpAny_field hz rfl (x:=.ref ti) rfl ?_)
 refine wpAny_bind (wpAny_seqItems hti rfl ?_)
 show wpAny _ _ (Builtin.SmallTypes.ownedTupleIsFree (.ref z) >>= _) _ _ _
 refine wpAny_bind (P4 hz ha fun g1 z1 s1=>?_)
 simp only [Bool.false_eq_true,if_false]
 refine wpAny_bind ?_
 rw [<- Array.forIn_toList]
 simp only [List.forIn_cons,List.forIn_nil]
 refine wpAny_bind (wpAny_bind (wpAny_holding ?_))
 show wpAny _ _ (Builtin.SmallTypes.nextOf (.ref i1) >>= _) _ _ _
 refine wpAny_bind (vg (h1.at fun o e=>s1.extBut _ o n1 e) (t1.at fun o e=>s1.extBut _ o l1z e) hx fun g2 p2 s2=>wpAny_pure (wpAny_pure ?_))
 refine wpAny_bind (wpAny_bind (wpAny_holding ?_))
 show wpAny _ _ (Builtin.SmallTypes.nextOf (.ref i2) >>= _) _ _ _
 refine wpAny_bind (vg (h2.at fun o e=>s2.extBut _ o n12.symm (s1.extBut _ o n2 e)) (t2.at fun o e=>s2.extBut _ o l21 (s1.extBut _ o l2z e)) hy fun g3 p3 s3=>wpAny_pure (wpAny_pure (wpAny_pure ?_)))
 show wpAny _ _ (newTuple [x,y] >>= _) _ _ _
 refine wpAny_bind (wpAny_newTuple ?_)
 have sz:g3.objs.size=s.heap.objs.size:=by rw [s3.1,s2.1,s1.1]
 refine wpAny_pure ⟨_,rfl,?_⟩
 show Q (.ref g3.objs.size) _
 rw [sz]
 have up:∀ c o,c ≠ z->c ≠ i1->c ≠ i2->s.heap.get? c=some o->(g3.push { cls:=.type "tuple", data:=.seq #[x,y] }).get? c=some o:=fun c o c1 c2 c3 e=>Heap.get?_push_of_some _ (s3.extBut _ _ c3 (s2.extBut _ _ c2 (s1.extBut _ _ c1 e)))
 refine hQ _ (Heap.get?_push_of_some _ (s3.extBut _ _ n2.symm (s2.extBut _ _ n1.symm z1))) ((p2.at fun o e=>s3.extBut _ o n12 e).at fun o e=>Heap.get?_push_of_some _ e) (p3.at fun o e=>Heap.get?_push_of_some _ e) ?_ (by rw [Heap.size_push,sz]) up
 have:=Heap.get?_push_size g3 (o:=({ cls:=.type "tuple", data:=.seq #[x,y] }:Obj)) rfl
 rw [sz] at this
 exact this
theorem O4 {b1 b2:Bool} {z ti to i1 i2 l1 l2 a:Addr} {fb:Bool} {o:Obj} {k:Nat} {xs:Array Value} {Q:Fin->Shared->Prop} (hh:A.handled=none) (n1:i1 ≠ z) (l1z:l1 ≠ z)
  (hz:ZipF s.heap z ti to a fb) (ha:s.heap.get? a=some o) (hti:IsPair s.heap ti (.ref i1) (.ref i2)) (h1:ItAt b1 s.heap i1 l1 k) (t1:SqAt b1 s.heap l1 xs) (hx:xs[k]?=none)
  (hE:∀ g e,(∀ c o,c ≠ z->c ≠ i1->s.heap.get? c=some o->g.get? c=some o)->(∃ o,g.get? e=some o /\ o.cls=.type "StopIteration")->E (.ref e) { s with heap:=g }) :
  wpAny (model P w) A (Builtin.«zip.__next__» ⟨[.ref z],[]⟩) Q E s:=by
 show wpAny _ _ (field (.ref z) 2 >>= _) _ _ _
 refine wpAny_bind (wpAny_field hz rfl (x:=.bool false) rfl ?_)
 show wpAny _ _ (field (.ref z) 3 >>= _) _ _ _
 refine wpAny_bind (wpAny_field hz rfl (x:=.ref ti) rfl ?_)
 refine wpAny_bind (wpAny_seqItems hti rfl ?_)
 show wpAny _ _ (Builtin.SmallTypes.ownedTupleIsFree (.ref z) >>= _) _ _ _
 refine wpAny_bind (P4 hz ha fun g1 z1 s1=>?_)
 simp only [Bool.false_eq_true,if_false]
 refine wpAny_bind ?_
 rw [<- Array.forIn_toList]
 simp only [List.forIn_cons,List.forIn_nil]
 refine wpAny_bind (wpAny_bind (wpAny_holding ?_))
 show wpAny _ _ (Builtin.SmallTypes.nextOf (.ref i1) >>= _) _ _ _
 refine wpAny_bind (kf hh (h1.at fun o e=>s1.extBut _ o n1 e) (t1.at fun o e=>s1.extBut _ o l1z e) hx fun g2 e k2 he=>?_)
 exact hE g2 e (fun c o c1 c2 q=>k2 c o c2 (s1.extBut _ _ c1 q)) he
theorem Ti {b1 b2:Bool} {z ti to i1 i2 l1 l2 a:Addr} {fb:Bool} {o:Obj} {k:Nat} {xs ys:Array Value} {x y:Value} {Q:Option Value->Shared->Prop} (n1:i1 ≠ z) (n2:i2 ≠ z) (n12:i1 ≠ i2) (nt:ti ≠ z) (nti1:ti ≠ i1) (l1z:l1 ≠ z) (l2z:l2 ≠ z) (l21:l2 ≠ i1)
  (hz:ZipF s.heap z ti to a fb) (ha:s.heap.get? a=some o) (hti:IsPair s.heap ti (.ref i1) (.ref i2)) (h1:ItAt b1 s.heap i1 l1 k) (h2:ItAt b2 s.heap i2 l2 k) (t1:SqAt b1 s.heap l1 xs) (t2:SqAt b2 s.heap l2 ys) (hx:xs[k]?=some x) (hy:ys[k]?=some y)
  (hQ:∀ g,ZipF g z ti to a true->ItAt b1 g i1 l1 (k + 1)->ItAt b2 g i2 l2 (k + 1)->IsPair g s.heap.objs.size x y->g.objs.size=s.heap.objs.size + 1->(∀ c o,c ≠ z->c ≠ i1->c ≠ i2->s.heap.get? c=some o->g.get? c=some o)->Q (some (.ref s.heap.objs.size)) { s with heap:=g }) :
  wpAny (model P w) A (pyNext (.ref z)) Q E s:=by
 have ty:s.TypeIs (.ref z) "zip":=⟨_,hz,rfl⟩
 unfold pyNext
 exact wpAny_bind (wpAny_attempt (wpAny_callSpecial?_slot (name:=Str.ofString "__next__") ty F.slot_zip_next (wpAny_call_entry F.slot_zip_next ty F.entry_zip_next (Sw n1 n2 n12 nt nti1 l1z l2z l21 hz ha hti h1 h2 t1 t2 hx hy fun g q1 q2 q3 q4 q5 q6=>wpAny_pure (hQ g q1 q2 q3 q4 q5 q6)) (F.args_zip_next_1 _))))
theorem Qj {b1:Bool} {z ti to i1 i2 l1 a:Addr} {fb:Bool} {o:Obj} {k:Nat} {xs:Array Value} {Q:Option Value->Shared->Prop} (hh:A.handled=none) (n1:i1 ≠ z) (l1z:l1 ≠ z)
  (hz:ZipF s.heap z ti to a fb) (ha:s.heap.get? a=some o) (hti:IsPair s.heap ti (.ref i1) (.ref i2)) (h1:ItAt b1 s.heap i1 l1 k) (t1:SqAt b1 s.heap l1 xs) (hx:xs[k]?=none)
  (hQ:∀ g,(∀ c o,c ≠ z->c ≠ i1->s.heap.get? c=some o->g.get? c=some o)->Q none { s with heap:=g }):wpAny (model P w) A (pyNext (.ref z)) Q E s:=by
 have ty:s.TypeIs (.ref z) "zip":=⟨_,hz,rfl⟩
 unfold pyNext
 refine wpAny_bind (wpAny_attempt (wpAny_callSpecial?_slot (name:=Str.ofString "__next__") ty F.slot_zip_next (wpAny_call_entry F.slot_zip_next ty F.entry_zip_next (O4 (b2:=b1) (l2:=l1) hh n1 l1z hz ha hti h1 t1 hx fun g e kp he=>?_) (F.args_zip_next_1 _))))
 obtain ⟨o,ho,hc⟩:=he
 refine wpAny_bind (wpAny_isInstance (T:="StopIteration") (b:=true) ⟨o,ho,hc⟩ isSubtype_stop ?_)
 exact wpAny_pure (hQ _ kp)
end
noncomputable def PairsZ (h:Heap) (xs ys:Array Value) (J:Addr) (as:List Addr):Prop:=(∀ a ∈ as,J < a) /\ as.Nodup /\ ∀ (j:Nat) a,as[j]?=some a->∃ x y,xs[j]?=some x /\ ys[j]?=some y /\ IsPair h a x y
theorem PairsZ.lt {h:Heap} {xs ys:Array Value} {J a:Addr} {as:List Addr} (p:PairsZ h xs ys J as) (m:a ∈ as):a < h.objs.size:=by
 obtain ⟨j,hj⟩:=List.getElem?_of_mem m
 obtain ⟨x,y,_,_,g⟩:=p.2.2 j a hj
 exact Heap.lt_size g
theorem PairsZ.alive {h:Heap} {xs ys:Array Value} {J a:Addr} {as:List Addr} (p:PairsZ h xs ys J as) (m:a ∈ as):∃ o,h.get? a=some o:=by
 obtain ⟨j,hj⟩:=List.getElem?_of_mem m
 obtain ⟨x,y,_,_,g⟩:=p.2.2 j a hj
 exact ⟨_,g⟩
theorem PairsZ.to {h k:Heap} {xs ys:Array Value} {J:Addr} {as:List Addr} (p:PairsZ h xs ys J as) (f:∀ a o,a ∈ as->h.get? a=some o->k.get? a=some o):PairsZ k xs ys J as :=
 ⟨p.1,p.2.1,fun j a e=>let ⟨x,y,e1,e2,g⟩:=p.2.2 j a e; ⟨x,y,e1,e2,f a _ (List.mem_of_getElem? e) g⟩⟩
theorem PairsZ.snoc {h:Heap} {xs ys:Array Value} {J a:Addr} {as:List Addr} {x y:Value} (p:PairsZ h xs ys J as) (ha:J < a) (nm:a ∉ as) (ex:xs[as.length]?=some x) (ey:ys[as.length]?=some y) (g:IsPair h a x y):PairsZ h xs ys J (as ++ [a]):=by
 refine ⟨fun b hb=>?_,?_,fun j b hj=>?_⟩
 ·rcases List.mem_append.mp hb with m | m
  ·exact p.1 b m
  ·rw [List.mem_singleton.mp m]; exact ha
 ·rw [List.nodup_append]
  refine ⟨p.2.1,by simp,fun x hx y hy z=>?_⟩
  rw [List.mem_singleton.mp hy] at z
  subst z
  exact nm hx
 ·by_cases hl:j < as.length
  ·rw [List.getElem?_append_left hl] at hj
   exact p.2.2 j b hj
  ·have:j=as.length:=by
    have:=(List.getElem?_eq_some_iff.mp hj).1
    simp at this
    omega
   subst this
   have eb:a=b:=by simpa using hj
   subst eb
   exact ⟨x,y,ex,ey,g⟩
noncomputable def ZS (b1 b2:Bool) (z ti to i1 i2 l1 l2:Addr) (as:List Addr) (i:Nat) (h:Heap):Prop :=
 (i=0 /\ ZAt b1 b2 h z ti to i1 i2 l1 l2 .none 0) \/ (∃ a fb,a ∈ as /\ ZipF h z ti to a fb /\ IsPair h ti (.ref i1) (.ref i2) /\ ItAt b1 h i1 l1 i /\ ItAt b2 h i2 l2 i)
theorem ZS.to {b1 b2:Bool} {z ti to i1 i2 l1 l2:Addr} {as:List Addr} {i:Nat} {h g:Heap} (Z:ZS b1 b2 z ti to i1 i2 l1 l2 as i h) (k:∀ c o,(c=z \/ c=ti \/ c=to \/ c=i1 \/ c=i2)->h.get? c=some o->g.get? c=some o):ZS b1 b2 z ti to i1 i2 l1 l2 as i g:=by
 rcases Z with ⟨e,Z⟩ | ⟨a,fb,m,z1,t1,p1,p2⟩
 ·obtain ⟨zz,its,⟨a,b,out⟩,one,two⟩:=Z
  exact .inl ⟨e,k _ _ (.inl rfl) zz,k _ _ (.inr (.inl rfl)) its,⟨a,b,k _ _ (.inr (.inr (.inl rfl))) out⟩,one.at fun o e=>k _ o (.inr (.inr (.inr (.inl rfl)))) e,two.at fun o e=>k _ o (.inr (.inr (.inr (.inr rfl)))) e⟩
 ·exact .inr ⟨a,fb,m,k _ _ (.inl rfl) z1,k _ _ (.inr (.inl rfl)) t1,p1.at fun o e=>k _ o (.inr (.inr (.inr (.inl rfl)))) e,p2.at fun o e=>k _ o (.inr (.inr (.inr (.inr rfl)))) e⟩
section
variable {P:Program} {w:World} {A:Around} {E:Value->Shared->Prop} {s:Shared} {b1 b2:Bool} {z ti to i1 i2 l1 l2 S:Addr} {xs ys:Array Value}
theorem K3 {as:List Addr} {i:Nat} {x y:Value} {Q:Option Value->Shared->Prop} (D:ZNe z ti to i1 i2) (d1:ZOff z to i1 i2 l1) (d2:ZOff z to i1 i2 l2) (Z:ZS b1 b2 z ti to i1 i2 l1 l2 as i s.heap) (pa:PairsZ s.heap xs ys S as) (t1:SqAt b1 s.heap l1 xs) (t2:SqAt b2 s.heap l2 ys) (hx:xs[i]?=some x) (hy:ys[i]?=some y)
  (hQ:∀ g,ZS b1 b2 z ti to i1 i2 l1 l2 (as ++ [s.heap.objs.size]) (i + 1) g->IsPair g s.heap.objs.size x y->(∀ c o,ZOff z to i1 i2 c->s.heap.get? c=some o->g.get? c=some o)->Q (some (.ref s.heap.objs.size)) { s with heap:=g }) :
  wpAny (model P w) A (pyNext (.ref z)) Q E s:=by
 rcases Z with ⟨rfl,Z⟩ | ⟨a,fb,m,z1,ht,p1,p2⟩
 ·refine Zi D d1 d2 Z t1 t2 hx hy fun g Z' pr kp=>hQ g (.inr ⟨s.heap.objs.size,false,List.mem_append_right _ (List.mem_singleton.mpr rfl),Z'.zz,Z'.its,Z'.one,Z'.two⟩) pr kp
 ·obtain ⟨o,ho⟩:=pa.alive m
  refine Ti D.ad D.ae D.de D.ab D.bd d1.1 d2.1 d2.2.2.1 z1 ho ht p1 p2 t1 t2 hx hy fun g q1 q2 q3 q4 q5 q6=>hQ g (.inr ⟨a,true,List.mem_append_left _ m,q1,q6 _ _ D.ab D.bd D.be ht,q2,q3⟩) q4 fun c o q e=>q6 c o q.1 q.2.2.1 q.2.2.2 e
theorem Hz {as:List Addr} {i:Nat} {Q:Option Value->Shared->Prop} (hh:A.handled=none) (D:ZNe z ti to i1 i2) (d1:ZOff z to i1 i2 l1) (d2:ZOff z to i1 i2 l2) (Z:ZS b1 b2 z ti to i1 i2 l1 l2 as i s.heap) (pa:PairsZ s.heap xs ys S as) (t1:SqAt b1 s.heap l1 xs) (t2:SqAt b2 s.heap l2 ys) (hx:xs[i]?=none)
  (hQ:∀ g,(∀ c o,ZOff z to i1 i2 c->s.heap.get? c=some o->g.get? c=some o)->Q none { s with heap:=g }):wpAny (model P w) A (pyNext (.ref z)) Q E s:=by
 rcases Z with ⟨rfl,Z⟩ | ⟨a,fb,m,z1,ht,p1,p2⟩
 ·exact Uj hh D d1 d2 Z t1 t2 (.inl hx) hQ
 ·obtain ⟨o,ho⟩:=pa.alive m
  exact Qj hh D.ad d1.1 z1 ho ht p1 t1 hx fun g k=>hQ g fun c o q e=>k c o q.1 q.2.2.1 e
end
section
variable {X:Cx} {pn:List (Addr × Obj)} {σ:St} {H2:Hp} {s2:Shared} {scope:Scope} {T F:List Str} {cl:List (Str × Addr)} {fp:List Addr} {js:List Nat} {tg iter elt:Expr} {ifs:List Expr} {pos:Pos}
 {g:TG} {tc:TT} {te:TE} {J:It} {it:Addr} {tn:Nat->Heap->Prop} {E:Value->Shared->Prop} {RR:Value->Addr->Result->Shared->Prop}
end
end L3
namespace DL
open PySem PySem.Spec L2 L3
open PyProof.Rows hiding St
structure Gt (H H':Hp):Prop where
 tups:∀ b xs,H b=some (.tup xs)->H' b=some (.tup xs)
 frzs:∀ b o u,H b=some (.frz o u)->H' b=some (.frz o u)
theorem Gt.trans {H H1 H2:Hp} (a:Gt H H1) (b:Gt H1 H2):Gt H H2:=⟨fun c xs h=>b.tups c xs (a.tups c xs h),fun c o u h=>b.frzs c o u (a.frzs c o u h)⟩
theorem Gt.same {H H':Hp} (s:Same H H'):Gt H H':=⟨fun b xs h=>s b _ h,fun b o u h=>s b _ h⟩
section
variable {K:W.Frag} {H H':Hp} {O O':List Addr}
theorem Rl {a:Addr} {xs:List V} (g:Gt H H') (h:SqR K H a xs):SqR K H' a xs:=by
 refine ⟨?_,g.tups _ _ h.2⟩
 rcases h.1 with (h | ⟨o,h⟩) | h
 ·exact .inl (.inl (g.tups _ _ h))
 ·exact .inl (.inr ⟨o,g.frzs _ _ _ h⟩)
 ·exact .inr h
theorem L7 {a:Addr} {ns:List Int} (g:Gt H H') (h:Scr K H a ns):Scr K H' a ns:=by
 rcases h with ⟨o,h⟩ | h
 ·exact .inl ⟨o,g.frzs _ _ _ h⟩
 ·exact .inr h
theorem Dj {a:Addr} {rs:List (List Int × Int)} (g:Gt H H') (h:Dz H a rs):Dz H' a rs:=⟨let ⟨o,q⟩:=h.1; ⟨o,g.frzs _ _ _ q⟩,h.2⟩
mutual
theorem Rep.keep (g:Gt H H'):∀ (d:D) (v:V),zh d->Rep K H O d v->Rep K H' O' d v
 | .non,_,_,h=>h
 | .bl _,_,_,h=>h
 | .int _,_,_,h=>h
 | .str _,_,_,h=>h
 | .ty _,_,_,h=>h
 | .cn _,_,_,h=>h
 | .tup ds,v,p,h=>by
  obtain ⟨a,xs,e,q,r⟩:=h
  exact ⟨a,xs,e,Rl g q,Reps.keep g ds xs p r⟩
 | .scr ns,v,_,h=>by
  obtain ⟨a,e,q⟩:=h
  exact ⟨a,e,L7 g q⟩
 | .dz rs,v,_,h=>by
  obtain ⟨a,e,q⟩:=h
  exact ⟨a,e,Dj g q⟩
 | .exc _,_,p,_=>p.elim
 | .fd _,_,p,_=>p.elim
 | .lst ds,v,p,h=>p.elim
 | .dk ks ds,v,p,h=>p.elim
 | .dt ks ds,v,p,h=>p.elim
 | .ob C ns ds,v,p,h=>p.elim
theorem Reps.keep (g:Gt H H'):∀ (ds:List D) (xs:List V),zu ds->Reps K H O ds xs->Reps K H' O' ds xs
 | [],_,_,h=>h
 | d :: ds,xs,p,h=>by
  obtain ⟨v,r,e,q,t⟩:=h
  exact ⟨v,r,e,Rep.keep g d v p.1 q,Reps.keep g ds r p.2 t⟩
end
end
mutual
noncomputable def Ft (K:W.Frag) (H:Hp):D->V->List Addr->Prop
 | .lst ds,v,A=>∃ a xs B,v=.ref a /\ H a=some (.lst xs) /\ A=a :: B /\ Fts K H ds xs B
 | .dk ks ds,v,A=>∃ a xs B,v=.ref a /\ H a=some (.dK (ks.zip xs)) /\ ks.length=ds.length /\ ks.Nodup /\ A=a :: B /\ Fts K H ds xs B
 | .tup ds,v,A=>∃ a xs,v=.ref a /\ SqR K H a xs /\ Fts K H ds xs A
 | .non,v,A=>A=[] /\ v=.non
 | .bl b,v,A=>A=[] /\ v=.bl b
 | .int i,v,A=>A=[] /\ v=.int i
 | .str x,v,A=>A=[] /\ v=.str x
 | .ty n,v,A=>A=[] /\ v=.ty n
 | .cn c,v,A=>A=[] /\ CRep K c v
 | .scr ns,v,A=>A=[] /\ ∃ a,v=.ref a /\ Scr K H a ns
 | .dz rs,v,A=>A=[] /\ ∃ a,v=.ref a /\ Dz H a rs
 | .exc _,_,_=>False
 | .fd _,_,_=>False
 | .dt _ _,_,_=>False
 | .ob C ns ds,v,A=>∃ a dx xs B,v=.ref a /\ H a=some (.ins C dx (ns.zip xs)) /\ ns.length=ds.length /\ ns.Nodup /\ A=a :: B /\ Fts K H ds xs B
noncomputable def Fts (K:W.Frag) (H:Hp):List D->List V->List Addr->Prop
 | [],xs,A=>xs=[] /\ A=[]
 | d :: ds,xs,A=>∃ v r B C,xs=v :: r /\ A=B ++ C /\ Ft K H d v B /\ Fts K H ds r C
end
section
variable {K:W.Frag} {H H':Hp} {O:List Addr}
mutual
theorem Ft.keep (g:Gt H H'):∀ (d:D) (v:V) (A:List Addr),(∀ a ∈ A,∀ u,H a=some u->H' a=some u)->Ft K H d v A->Ft K H' d v A
 | .lst ds,v,A,k,h=>by
  obtain ⟨a,xs,B,e,q,rfl,r⟩:=h
  exact ⟨a,xs,B,e,k a List.mem_cons_self _ q,rfl,Fts.keep g ds xs B (fun b hb=>k b (List.mem_cons_of_mem _ hb)) r⟩
 | .dk ks ds,v,A,k,h=>by
  obtain ⟨a,xs,B,e,q,l,n,rfl,r⟩:=h
  exact ⟨a,xs,B,e,k a List.mem_cons_self _ q,l,n,rfl,Fts.keep g ds xs B (fun b hb=>k b (List.mem_cons_of_mem _ hb)) r⟩
 | .tup ds,v,A,k,h=>by
  obtain ⟨a,xs,e,q,r⟩:=h
  exact ⟨a,xs,e,Rl g q,Fts.keep g ds xs A k r⟩
 | .non,_,_,_,h=>h
 | .bl _,_,_,_,h=>h
 | .int _,_,_,_,h=>h
 | .str _,_,_,_,h=>h
 | .ty _,_,_,_,h=>h
 | .cn _,_,_,_,h=>h
 | .scr ns,v,A,_,h=>by
  obtain ⟨e,a,e2,q⟩:=h
  exact ⟨e,a,e2,L7 g q⟩
 | .dz rs,v,A,_,h=>by
  obtain ⟨e,a,e2,q⟩:=h
  exact ⟨e,a,e2,Dj g q⟩
 | .exc _,_,_,_,h=>h.elim
 | .fd _,_,_,_,h=>h.elim
 | .dt _ _,_,_,_,h=>h.elim
 | .ob C ns ds,v,A,k,h=>by
  obtain ⟨a,dx,xs,B,e,q,l,n,rfl,r⟩:=h
  exact ⟨a,dx,xs,B,e,k a List.mem_cons_self _ q,l,n,rfl,Fts.keep g ds xs B (fun b hb=>k b (List.mem_cons_of_mem _ hb)) r⟩
theorem Fts.keep (g:Gt H H'):∀ (ds:List D) (xs:List V) (A:List Addr),(∀ a ∈ A,∀ u,H a=some u->H' a=some u)->Fts K H ds xs A->Fts K H' ds xs A
 | [],_,_,_,h=>h
 | d :: ds,xs,A,k,h=>by
  obtain ⟨v,r,B,C,e,rfl,q,t⟩:=h
  exact ⟨v,r,B,C,e,rfl,Ft.keep g d v B (fun b hb=>k b (List.mem_append_left _ hb)) q,Fts.keep g ds r C (fun b hb=>k b (List.mem_append_right _ hb)) t⟩
end
mutual
theorem Ft.rep:∀ (d:D) (v:V) (A:List Addr),(∀ a ∈ A,a ∉ O)->Ft K H d v A->Rep K H O d v
 | .lst ds,v,A,k,h=>by
  obtain ⟨a,xs,B,e,q,rfl,r⟩:=h
  exact ⟨a,xs,e,q,k a List.mem_cons_self,Fts.reps ds xs B (fun b hb=>k b (List.mem_cons_of_mem _ hb)) r⟩
 | .dk ks ds,v,A,k,h=>by
  obtain ⟨a,xs,B,e,q,l,n,rfl,r⟩:=h
  exact ⟨a,xs,e,q,k a List.mem_cons_self,l,n,Fts.reps ds xs B (fun b hb=>k b (List.mem_cons_of_mem _ hb)) r⟩
 | .tup ds,v,A,k,h=>by
  obtain ⟨a,xs,e,q,r⟩:=h
  exact ⟨a,xs,e,q,Fts.reps ds xs A k r⟩
 | .non,_,_,_,h=>h.2
 | .bl _,_,_,_,h=>h.2
 | .int _,_,_,_,h=>h.2
 | .str _,_,_,_,h=>h.2
 | .ty _,_,_,_,h=>h.2
 | .cn _,_,_,_,h=>h.2
 | .scr ns,v,A,_,h=>h.2
 | .dz rs,v,A,_,h=>h.2
 | .exc _,_,_,_,h=>h.elim
 | .fd _,_,_,_,h=>h.elim
 | .dt _ _,_,_,_,h=>h.elim
 | .ob C ns ds,v,A,k,h=>by
  obtain ⟨a,dx,xs,B,e,q,l,n,rfl,r⟩:=h
  exact ⟨a,dx,xs,e,q,k a List.mem_cons_self,l,n,Fts.reps ds xs B (fun b hb=>k b (List.mem_cons_of_mem _ hb)) r⟩
theorem Fts.reps:∀ (ds:List D) (xs:List V) (A:List Addr),(∀ a ∈ A,a ∉ O)->Fts K H ds xs A->Reps K H O ds xs
 | [],_,_,_,h=>h.1
 | d :: ds,xs,A,k,h=>by
  obtain ⟨v,r,B,C,e,rfl,q,t⟩:=h
  exact ⟨v,r,e,Ft.rep d v B (fun b hb=>k b (List.mem_append_left _ hb)) q,Fts.reps ds r C (fun b hb=>k b (List.mem_append_right _ hb)) t⟩
end
mutual
theorem Ft.dom:∀ (d:D) (v:V) (A:List Addr),Ft K H d v A->∀ a ∈ A,∃ u,H a=some u /\ (∀ xs,u ≠ .tup xs) /\ ∀ ob w,u ≠ .frz ob w
 | .lst ds,v,A,h=>by
  obtain ⟨a,xs,B,e,q,rfl,r⟩:=h
  intro b hb
  rcases List.mem_cons.mp hb with rfl | hb
  ·exact ⟨_,q,(fun _ z=>by cases z),fun _ _ z=>by cases z⟩
  ·exact Fts.dom ds xs B r b hb
 | .dk ks ds,v,A,h=>by
  obtain ⟨a,xs,B,e,q,l,n,rfl,r⟩:=h
  intro b hb
  rcases List.mem_cons.mp hb with rfl | hb
  ·exact ⟨_,q,(fun _ z=>by cases z),fun _ _ z=>by cases z⟩
  ·exact Fts.dom ds xs B r b hb
 | .tup ds,v,A,h=>by
  obtain ⟨a,xs,e,q,r⟩:=h
  exact Fts.dom ds xs A r
 | .non,_,_,h=>by obtain ⟨rfl,_⟩:=h; intro a ha; cases ha
 | .bl _,_,_,h=>by obtain ⟨rfl,_⟩:=h; intro a ha; cases ha
 | .int _,_,_,h=>by obtain ⟨rfl,_⟩:=h; intro a ha; cases ha
 | .str _,_,_,h=>by obtain ⟨rfl,_⟩:=h; intro a ha; cases ha
 | .ty _,_,_,h=>by obtain ⟨rfl,_⟩:=h; intro a ha; cases ha
 | .cn _,_,_,h=>by obtain ⟨rfl,_⟩:=h; intro a ha; cases ha
 | .scr _,_,_,h=>by obtain ⟨rfl,_⟩:=h; intro a ha; cases ha
 | .dz _,_,_,h=>by obtain ⟨rfl,_⟩:=h; intro a ha; cases ha
 | .exc _,_,_,h=>h.elim
 | .fd _,_,_,h=>h.elim
 | .dt _ _,_,_,h=>h.elim
 | .ob C ns ds,v,A,h=>by
  obtain ⟨a,dx,xs,B,e,q,l,n,rfl,r⟩:=h
  intro b hb
  rcases List.mem_cons.mp hb with rfl | hb
  ·exact ⟨_,q,(fun _ z=>by cases z),fun _ _ z=>by cases z⟩
  ·exact Fts.dom ds xs B r b hb
theorem Fts.dom:∀ (ds:List D) (xs:List V) (A:List Addr),Fts K H ds xs A->∀ a ∈ A,∃ u,H a=some u /\ (∀ xs,u ≠ .tup xs) /\ ∀ ob w,u ≠ .frz ob w
 | [],_,_,h=>by obtain ⟨_,rfl⟩:=h; intro a ha; cases ha
 | d :: ds,xs,A,h=>by
  obtain ⟨v,r,B,C,e,rfl,q,t⟩:=h
  intro b hb
  rcases List.mem_append.mp hb with hb | hb
  ·exact Ft.dom d v B q b hb
  ·exact Fts.dom ds r C t b hb
end
mutual
theorem Rep.ft:∀ (d:D) (v:V),zh d->Rep K H O d v->Ft K H d v []
 | .non,_,_,h=>⟨rfl,h⟩
 | .bl _,_,_,h=>⟨rfl,h⟩
 | .int _,_,_,h=>⟨rfl,h⟩
 | .str _,_,_,h=>⟨rfl,h⟩
 | .ty _,_,_,h=>⟨rfl,h⟩
 | .cn _,_,_,h=>⟨rfl,h⟩
 | .tup ds,v,p,h=>by
  obtain ⟨a,xs,e,q,r⟩:=h
  exact ⟨a,xs,e,q,Reps.fts ds xs p r⟩
 | .scr ns,v,_,h=>⟨rfl,h⟩
 | .dz rs,v,_,h=>⟨rfl,h⟩
 | .exc _,_,p,_=>p.elim
 | .fd _,_,p,_=>p.elim
 | .lst ds,v,p,h=>p.elim
 | .dk ks ds,v,p,h=>p.elim
 | .dt ks ds,v,p,h=>p.elim
 | .ob C ns ds,v,p,h=>p.elim
theorem Reps.fts:∀ (ds:List D) (xs:List V),zu ds->Reps K H O ds xs->Fts K H ds xs []
 | [],_,_,h=>⟨h,rfl⟩
 | d :: ds,xs,p,h=>by
  obtain ⟨v,r,e,q,t⟩:=h
  exact ⟨v,r,[],[],e,rfl,Rep.ft d v p.1 q,Reps.fts ds r p.2 t⟩
end
end
noncomputable def hid:Nat->DE->DE
 | _,[]=>[]
 | 0,_ :: ρ=>none :: ρ
 | l + 1,x :: ρ=>x :: hid l ρ
theorem vh:∀ (l:Nat) (ρ:DE),hid l ρ=ρ.set l none
 | _,[]=>by cases ‹Nat› <;> rfl
 | 0,_ :: _=>rfl
 | l + 1,x :: ρ=>by rw [hid,vh l ρ,List.set_cons_succ]
theorem ut {l i:Nat} {ρ:DE} {r:EV} (h:(hid l ρ)[i]?=some (some r)):i ≠ l /\ ρ[i]?=some (some r):=by
 rw [vh] at h
 by_cases e:i=l
 ·subst e
  rcases Nat.lt_or_ge i ρ.length with z | z
  ·rw [List.getElem?_set_self z] at h; cases h
  ·rw [List.getElem?_eq_none (by rw [List.length_set]; exact z)] at h; cases h
 ·rw [List.getElem?_set_ne (Ne.symm e)] at h
  exact ⟨e,h⟩
theorem Qw {l i:Nat} {ρ:DE} (h:i ≠ l):(hid l ρ)[i]?=ρ[i]?:=by
 rw [vh,List.getElem?_set_ne (Ne.symm h)]
theorem cy (l:Nat) (ρ:DE) (x:EV):hid l (setS ρ l x)=hid l ρ:=by
 rw [vh,vh,xq,List.set_set]
theorem uf {l j:Nat} (ρ:DE) (x:EV) (h:j ≠ l):hid l (setS ρ j x)=setS (hid l ρ) j x:=by
 rw [vh,vh,xq,xq,List.set_comm _ _ h]
noncomputable def tg (l:Nat) (A:List Addr):List (Nat × Addr):=A.map fun a=>(l,a)
theorem Gd (l:Nat) (A:List Addr):(tg l A).map Prod.snd=A:=by
 unfold tg
 rw [List.map_map]
 exact List.map_id A
theorem xf (o:List (Nat × Addr)) (l:Nat) (A:List Addr):(o ++ tg l A).map Prod.snd=o.map Prod.snd ++ A:=by
 rw [zMa,Gd]
structure ST (K:W.Frag) (H₀ H:Hp) (σ:St) (ρ:DE) (o:List (Nat × Addr)) (l:Nat) (A:List Addr) (d:D) (v:V):Prop where
 Q:REnv K H₀ H σ (hid l ρ) (o ++ tg l A)
 hd:ρ[l]?=some (some (dv d))
 hv:σ[l]?=some (some v)
 ft:Ft K H d v A
section
variable {K:W.Frag} {H₀ H H':Hp} {σ:St} {ρ:DE} {o:List (Nat × Addr)} {l:Nat} {A A':List Addr} {d d':D} {v:V}
theorem ST.lt (S:ST K H₀ H σ ρ o l A d v):l < ρ.length:=(List.getElem?_eq_some_iff.mp S.hd).1
theorem ST.ndA (S:ST K H₀ H σ ρ o l A d v):A.Nodup:=by
 have:=S.Q.nda
 rw [xf] at this
 exact (List.nodup_append.mp this).2.1
theorem ST.dis (S:ST K H₀ H σ ρ o l A d v):∀ a ∈ A,a ∉ o.map Prod.snd:=fun a ha hb=>by
 have:=S.Q.nda
 rw [xf] at this
 exact (List.nodup_append.mp this).2.2 a hb a ha rfl
theorem ST.frA (S:ST K H₀ H σ ρ o l A d v):∀ a ∈ A,H₀ a=none:=fun a ha=>S.Q.fresh (l,a) (List.mem_append_right _ (List.mem_map.mpr ⟨a,ha,rfl⟩))
theorem Eg {i l:Nat} {a:Addr} (h:(i,a) ∈ o ++ tg l A) (hi:i ≠ l):(i,a) ∈ o:=by
 rcases List.mem_append.mp h with h | h
 ·exact h
 ·obtain ⟨b,_,e⟩:=List.mem_map.mp h
  cases e
  exact absurd rfl hi
theorem ST.R (S:ST K H₀ H σ ρ o l A d v):REnv K H₀ H σ ρ o where
 same:=S.Q.same
 fresh:=fun p hp=>S.Q.fresh p (List.mem_append_left _ hp)
 trk:=fun p hp=>S.Q.trk p (List.mem_append_left _ hp)
 mtb:=fun p hp=>S.Q.mtb p (List.mem_append_left _ hp)
 nda:=by
  have:=S.Q.nda
  rw [xf] at this
  exact (List.nodup_append.mp this).1
 len:=by
  have:=S.Q.len
  rw [vh,List.length_set] at this
  exact this
 slots:=fun i r e=>by
  by_cases hi:i=l
  ·subst hi
   rw [S.hd] at e
   cases e
   exact ⟨v,S.hv,.inl ⟨rfl,Ft.rep _ _ _ S.dis S.ft⟩⟩
  ·obtain ⟨w,ew,q⟩:=S.Q.slots i r (by rw [Qw hi]; exact e)
   rw [xf] at q
   have sub:∀ a ∈ o.map Prod.snd,a ∈ o.map Prod.snd ++ A:=fun a ha=>List.mem_append_left _ ha
   refine ⟨w,ew,?_⟩
   rcases q with ⟨k,q⟩ | ⟨k,a,e1,m,c⟩
   ·exact .inl ⟨k,Rep.sub sub _ _ q⟩
   ·exact .inr ⟨k,a,e1,Eg m hi,c.sub sub⟩
theorem ST.to (S:ST K H₀ H σ ρ o l A d v) (s:Same H H'):ST K H₀ H' σ ρ o l A d v :=
 ⟨S.Q.to s,S.hd,S.hv,Ft.keep (Gt.same s) _ _ _ (fun a _ u h=>s a u h) S.ft⟩
theorem Grow.gt {O O':List Addr} (g:Grow O O' H H'):Gt H H':=⟨g.tups,g.frzs⟩
theorem ST.chg (S:ST K H₀ H σ ρ o l A d v) (g:Grow A A' H H') (ft:Ft K H' d' v A') (nd:A'.Nodup) (fr:∀ a ∈ A',a ∈ A \/ H a=none) :
  ST K H₀ H' σ (setS ρ l (dv d')) o l A' d' v:=by
 have hl:=S.lt
 have gO:Grow ((o ++ tg l A).map Prod.snd) ((o ++ tg l A').map Prod.snd) H H':=by
  rw [xf,xf]
  exact ⟨fun b u h n=>⟨(g.keep b u h fun z=>n (List.mem_append_right _ z)).1,fun z=>(List.mem_append.mp z).elim (fun z=>n (List.mem_append_left _ z)) (g.keep b u h fun z=>n (List.mem_append_right _ z)).2⟩,g.tups,g.frzs⟩
 have ko:∀ p ∈ o,p.2 ∉ A:=fun p hp z=>S.dis _ z (List.mem_map.mpr ⟨p,hp,rfl⟩)
 refine ⟨⟨fun b u h=>?_,fun p hp=>?_,fun p hp=>?_,fun p hp=>?_,?_,fun i r e=>?_,?_⟩,?_,S.hv,ft⟩
 ·refine (g.keep b u (S.Q.same b u h) fun z=>?_).1
  rw [S.frA b z] at h
  cases h
 ·rcases List.mem_append.mp hp with hp | hp
  ·exact S.Q.fresh p (List.mem_append_left _ hp)
  ·obtain ⟨a,ha,rfl⟩:=List.mem_map.mp hp
   rcases fr a ha with h | h
   ·exact S.frA a h
   ·exact S.Q.same.free h
 ·rcases List.mem_append.mp hp with hp | hp
  ·obtain ⟨u,e⟩:=S.Q.trk p (List.mem_append_left _ hp)
   exact ⟨u,(g.keep _ _ e (ko p hp)).1⟩
  ·obtain ⟨a,ha,rfl⟩:=List.mem_map.mp hp
   obtain ⟨u,hu,_⟩:=Ft.dom _ _ _ ft a ha
   exact ⟨u,hu⟩
 ·rcases List.mem_append.mp hp with hp | hp
  ·obtain ⟨u,e⟩:=S.Q.trk p (List.mem_append_left _ hp)
   obtain ⟨m1,m2⟩:=S.Q.mtb p (List.mem_append_left _ hp)
   have e':=(g.keep _ _ e (ko p hp)).1
   refine ⟨fun xs z=>?_,fun ob w z=>?_⟩
   ·rw [e'] at z; rw [<- e] at z; exact m1 xs z
   ·rw [e'] at z; rw [<- e] at z; exact m2 ob w z
  ·obtain ⟨a,ha,rfl⟩:=List.mem_map.mp hp
   obtain ⟨u,hu,n1,n2⟩:=Ft.dom _ _ _ ft a ha
   refine ⟨fun xs z=>?_,fun ob w z=>?_⟩
   ·rw [hu] at z; cases z; exact n1 _ rfl
   ·rw [hu] at z; cases z; exact n2 _ _ rfl
 ·rw [xf,List.nodup_append]
  refine ⟨S.R.nda,nd,fun a ha b hb e=>?_⟩
  subst e
  rcases fr a hb with h | h
  ·exact S.dis a h ha
  ·exact S.R.ofree h ha
 ·rw [cy] at e
  obtain ⟨hi,_⟩:=ut e
  obtain ⟨w,ew,q⟩:=S.Q.slots i r e
  refine ⟨w,ew,?_⟩
  rcases q with ⟨k,q⟩ | ⟨k,a,e1,m,c⟩
  ·exact .inl ⟨k,Rep.grow gO _ _ q⟩
  ·have m':=Eg m hi
   exact .inr ⟨k,a,e1,List.mem_append_left _ m',c.grow (fun u h=>(g.keep _ _ h (ko _ m')).1) gO⟩
 ·rw [cy]; exact S.Q.len
 ·rw [xq,List.getElem?_set_self hl]
theorem REnv.putX (R:REnv K H₀ H σ ρ o) (s:Same H H') (i:Nat) {r:EV} {v:V} (h:RV K H H' (o.map Prod.snd) r v) (hk:r.k ≠ .own) :
  ∃ pre,REnv K H₀ H' (σ.set i (some v)) (setS ρ i r.sto) (pre ++ o):=by
 obtain ⟨k,d⟩:=r
 cases k with
 | val=>exact ⟨[],(R.to s).setV i h⟩
 | own=>exact absurd rfl hk
 | fre =>
  obtain ⟨a,rfl,m,n,c⟩:=h
  exact ⟨[(i,a)],(R.setO s i m c).1⟩
 | new=>exact ⟨[],(R.to s).setV i (RepN.rep (fun a z=>z.1) _ _ h)⟩
theorem ST.set (S:ST K H₀ H σ ρ o l A d v) (s:Same H H') {j:Nat} {r:EV} {w:V} (hj:j ≠ l) (h:RV K H H' ((o ++ tg l A).map Prod.snd) r w) (hk:r.k ≠ .own) :
  ∃ o',ST K H₀ H' (σ.set j (some w)) (setS ρ j r.sto) o' l A d v:=by
 obtain ⟨pre,R'⟩:=S.Q.putX s j h hk
 refine ⟨pre ++ o,⟨?_,?_,?_,(S.to s).ft⟩⟩
 ·rw [uf _ _ hj,List.append_assoc]; exact R'
 ·rw [xq,List.getElem?_set_ne hj]; exact S.hd
 ·rw [List.getElem?_set_ne hj]; exact S.hv
theorem ST.setP (S:ST K H₀ H σ ρ o l A d v) {j:Nat} {e:D} {w:V} (hj:j ≠ l) (pe:zh e) (h:Rep K H [] e w):ST K H₀ H (σ.set j (some w)) (setS ρ j (dv e)) o l A d v:=by
 refine ⟨?_,?_,?_,S.ft⟩
 ·rw [uf _ _ hj]; exact S.Q.setV j (Rep.pure _ _ pe h)
 ·rw [xq,List.getElem?_set_ne hj]; exact S.hd
 ·rw [List.getElem?_set_ne hj]; exact S.hv
end
noncomputable abbrev TQ:=DE->(D->DE->Prop)->Prop
noncomputable abbrev TQs:=DE->(List D->DE->Prop)->Prop
noncomputable abbrev TQb:=DE->(Bool->DE->Prop)->Prop
structure QZ where
 nx:DE->Prop
 rt:D->DE->Prop
 bk:DE->Prop:=fun _=>False
 ct:DE->Prop:=fun _=>False
noncomputable abbrev TQS:=DE->QZ->Prop
noncomputable def Jp (K:W.Frag) (H₀:Hp) (l:Nat) (t:TQ):TE:=fun σ H Q=>∃ ρ o A d v,ST K H₀ H σ ρ o l A d v /\ ∃ φ,t ρ φ /\ ∀ u e ρ' H' A' d',Grow A A' H H'->ST K H₀ H' σ ρ' o l A' d' v->zh e->Rep K H' [] e u->φ e ρ'->Q u H'
noncomputable def Eh (K:W.Frag) (H₀:Hp) (l:Nat) (t:TQb):TT:=fun σ H Q=>∃ ρ o A d v,ST K H₀ H σ ρ o l A d v /\ ∃ φ,t ρ φ /\ ∀ b ρ' H' A' d',Grow A A' H H'->ST K H₀ H' σ ρ' o l A' d' v->φ b ρ'->Q b H'
noncomputable def Qp (K:W.Frag) (H₀:Hp) (l:Nat) (t:TQs):TA:=fun σ H Q=>∃ ρ o A d v,ST K H₀ H σ ρ o l A d v /\ ∃ φ,t ρ φ /\ ∀ us es ρ' H' A' d',Grow A A' H H'->ST K H₀ H' σ ρ' o l A' d' v->Reps K H' (o.map Prod.snd ++ A') es us->φ es ρ'->Q us H'
noncomputable def Um (K:W.Frag) (H₀:Hp) (l:Nat) (t:TQS):TS:=fun Dz σ H=>∃ ρ o A d v,ST K H₀ H σ ρ o l A d v /\ ∃ Z,t ρ Z /\
 (∀ ρ' σ' H' o' A' d',ST K H₀ H' σ' ρ' o' l A' d' v->Z.nx ρ'->Dz.nx σ' H') /\
 (∀ ρ' σ' H' o' A' d',ST K H₀ H' σ' ρ' o' l A' d' v->Z.bk ρ'->Dz.bk σ' H') /\
 (∀ ρ' σ' H' o' A' d',ST K H₀ H' σ' ρ' o' l A' d' v->Z.ct ρ'->Dz.ct σ' H') /\
 (∀ u e ρ' σ' H' o' A' d',ST K H₀ H' σ' ρ' o' l A' d' v->zh e->Rep K H' [] e u->Z.rt e ρ'->Dz.rt u H')
noncomputable def EQ (G:Hp->Prop) (l:Nat) (X:Cx) (e:Expr) (t:TQ):Prop:=∀ H₀:{H:Hp // G H},PE X e (Jp X.K H₀.1 l t)
noncomputable def QT (G:Hp->Prop) (l:Nat) (X:Cx) (e:Expr) (t:TQb):Prop:=∀ H₀:{H:Hp // G H},PT X e (Eh X.K H₀.1 l t)
noncomputable def QA (G:Hp->Prop) (l:Nat) (X:Cx) (es:List Expr) (t:TQs):Prop:=∀ H₀:{H:Hp // G H},PA X es (Qp X.K H₀.1 l t)
noncomputable def QS (G:Hp->Prop) (l:Nat) (X:Cx) (st:Stmt) (t:TQS):Prop:=∀ H₀:{H:Hp // G H},PS X st (Um X.K H₀.1 l t)
noncomputable def QSs (G:Hp->Prop) (l:Nat) (X:Cx) (st:List Stmt) (t:TQS):Prop:=∀ H₀:{H:Hp // G H},PSs X st (Um X.K H₀.1 l t)
theorem xc:∀ {ρ:DE} {i:Nat} {r:EV},ρ[i]?=some (some r)->slot ρ i=some r
 | [],_,_,h=>by cases h
 | _ :: _,0,_,h=>Option.some.inj h
 | _ :: ρ,i + 1,r,h=>xc (ρ:=ρ) (i:=i) (by simpa using h)
variable {Γ:Hp->Prop} {l:Nat}
section
variable {X:Cx} {e:Expr} {es:List Expr} {pos:Pos}
noncomputable def qE (te:TD):TQ:=fun ρ φ=>te ρ fun r=>zh r.d /\ φ r.d ρ
theorem t8 {te:TD} (h:ED Γ X e te):EQ Γ l X e (qE te):=fun H₀=>impE (h H₀) fun σ H Q q=>by
 obtain ⟨ρ,o,A,d,v,S,φ,hφ,k⟩:=q
 exact ⟨ρ,o,S.R,_,hφ,fun u r H1 s1 rv h1=>k u r.d ρ H1 A d (Grow.same s1) (S.to s1) h1.1 rv.view.rep0 h1.2⟩
noncomputable def qT (tc:TDb):TQb:=fun ρ φ=>tc ρ fun b=>φ b ρ
theorem xm {tc:TDb} (h:ET Γ X e tc):QT Γ l X e (qT tc):=fun H₀=>impT (h H₀) fun σ H Q q=>by
 obtain ⟨ρ,o,A,d,v,S,φ,hφ,k⟩:=q
 exact ⟨ρ,o,S.R,_,hφ,fun b H1 s1 h1=>k b ρ H1 A d (Grow.same s1) (S.to s1) h1⟩
noncomputable def qB (te:TQ):TQb:=fun ρ φ=>te ρ fun d ρ1=>match d with
 | .bl b=>φ b ρ1
 | _=>False
theorem gq {te:TQ} (h:EQ Γ l X e te) (he:∀ whole,isTrue e X.env whole=(do let v <- whole; standAt e.pos; holding [v] (truthy v)):=by intro _; rfl):QT Γ l X e (qB te):=fun H₀=>impT (Fl (h H₀) he) fun σ H Q q=>by
 obtain ⟨ρ,o,A,d,v,S,φ,hφ,k⟩:=q
 refine ⟨ρ,o,A,d,v,S,_,hφ,fun u r ρ1 H1 A1 d1 g S1 pr rr h1=>?_⟩
 cases r with
 | bl b =>
  cases (show u=_ from rr)
  exact ⟨b,rfl,k b ρ1 H1 A1 d1 g S1 h1⟩
 | _=>exact h1.elim
theorem Grow.add {H H':Hp} {O A A':List Addr} (g:Grow A A' H H'):Grow (O ++ A) (O ++ A') H H' :=
 ⟨fun b u h n=>⟨(g.keep b u h fun z=>n (List.mem_append_right _ z)).1,fun z=>(List.mem_append.mp z).elim (fun z=>n (List.mem_append_left _ z)) (g.keep b u h fun z=>n (List.mem_append_right _ z)).2⟩,g.tups,g.frzs⟩
noncomputable def Kw:TQs:=fun ρ φ=>φ [] ρ
theorem y3:QA Γ l X [] Kw:=fun H₀=>impA wu fun σ H Q q=>by
 obtain ⟨ρ,o,A,d,v,S,φ,hφ,k⟩:=q
 exact k [] [] ρ H A d Grow.refl S rfl hφ
noncomputable def La (te:TQ) (tr:TQs):TQs:=fun ρ φ=>te ρ fun d ρ1=>tr ρ1 fun ds ρ2=>φ (d :: ds) ρ2
theorem k7 {te:TQ} {tr:TQs} (he:EQ Γ l X e te) (hr:QA Γ l X es tr) (hs:starEach (e :: es) X.env=(false,eval e X.env) :: starEach es X.env:=by rfl):QA Γ l X (e :: es) (La te tr):=fun H₀=>impA (yo (he H₀) (hr H₀) hs) fun σ H Q q=>by
 obtain ⟨ρ,o,A,d,v,S,φ,hφ,k⟩:=q
 refine ⟨ρ,o,A,d,v,S,_,hφ,fun u r ρ1 H1 A1 d1 g1 S1 pr rr h1=>⟨ρ1,o,A1,d1,v,S1,_,h1,fun us rs ρ2 H2 A2 d2 g2 S2 rrs h2=>?_⟩⟩
 exact k (u :: us) (r :: rs) ρ2 H2 A2 d2 (g1.trans g2) S2 ⟨u,us,rfl,Rep.keep g2.gt _ _ pr rr,rrs⟩ h2
noncomputable def Q5 (te:TD) (tr:TQs):TQs:=fun ρ φ=>te (hid l ρ) fun r=>(match r.k with | .own=>False | _=>True) /\ tr ρ fun ds ρ2=>φ (r.d :: ds) ρ2
theorem zd {te:TD} {tr:TQs} (he:ED Γ X e te) (hr:QA Γ l X es tr) (hs:starEach (e :: es) X.env=(false,eval e X.env) :: starEach es X.env:=by rfl):QA Γ l X (e :: es) (Q5 (l:=l) te tr):=fun H₀=>impA (yo (he H₀) (hr H₀) hs) fun σ H Q q=>by
 obtain ⟨ρ,o,A,d,v,S,φ,hφ,k⟩:=q
 refine ⟨hid l ρ,_,S.Q,_,hφ,fun u r H1 s1 rv h1=>⟨ρ,o,A,d,v,S.to s1,_,h1.2,fun us rs ρ2 H2 A2 d2 g2 S2 rrs h2=>?_⟩⟩
 have rr:=rv.solid (vf h1.1)
 rw [xf] at rr
 exact k (u :: us) (r.d :: rs) ρ2 H2 A2 d2 ((Grow.same s1).trans g2) S2 ⟨u,us,rfl,Rep.grow g2.add _ _ rr,rrs⟩ h2
end
section
variable {X:Cx} {e c:Expr} {st:Stmt} {rest a b:List Stmt} {pos:Pos} {t u:TQS}
noncomputable def qNil:TQS:=fun ρ Z=>Z.nx ρ
noncomputable def qSeq (t u:TQS):TQS:=fun ρ Z=>t ρ { Z with nx:=fun ρ'=>u ρ' Z }
noncomputable def qRet (te:TQ):TQS:=fun ρ Z=>te ρ Z.rt
noncomputable def Fe (te:TQ):TQS:=fun ρ Z=>te ρ fun _ ρ1=>Z.nx ρ1
noncomputable def qIf (tc:TQb) (t u:TQS):TQS:=fun ρ Z=>tc ρ fun b ρ1=>(b=true->t ρ1 Z) /\ (b=false->u ρ1 Z)
noncomputable def qSet (l j:Nat) (te:TD):TQS:=fun ρ Z=>te (hid l ρ) fun r=>(match r.k with | .own=>False | _=>True) /\ Z.nx (setS ρ j r.sto)
noncomputable def Fa (j:Nat) (te:TQ):TQS:=fun ρ Z=>te ρ fun d ρ1=>Z.nx (setS ρ1 j (dv d))
theorem wm:QSs Γ l X [] qNil:=fun H₀=>Yj Xj fun Dz σ H h=>by
 obtain ⟨ρ,o,A,d,v,S,Z,hZ,k1,k2,k3,k4⟩:=h
 exact k1 ρ σ H o A d S hZ
theorem zj (h:QS Γ l X st t):QSs Γ l X [st] t:=fun H₀=>k8 (h H₀)
theorem zo (h:QS Γ l X st t) (hr:QSs Γ l X rest u):QSs Γ l X (st :: rest) (qSeq t u):=fun H₀=>Yj (xx (h H₀) (hr H₀)) fun Dz σ H h=>by
 obtain ⟨ρ,o,A,d,v,S,Z,hZ,k1,k2,k3,k4⟩:=h
 exact ⟨ρ,o,A,d,v,S,_,hZ,fun ρ' σ' H' o' A' d' S' h'=>⟨ρ',o',A',d',v,S',Z,h',k1,k2,k3,k4⟩,k2,k3,k4⟩
theorem ve {te:TQ} (h:EQ Γ l X e te):QS Γ l X (.Return (some e) pos) (qRet te):=fun H₀=>impS (Ub (h H₀)) fun Dz σ H h=>by
 obtain ⟨ρ,o,A,d,v,S,Z,hZ,k1,k2,k3,k4⟩:=h
 exact ⟨ρ,o,A,d,v,S,_,hZ,fun u r ρ1 H1 A1 d1 g S1 pr rr h1=>k4 u r ρ1 σ H1 o A1 d1 S1 pr rr h1⟩
noncomputable def Fc:TQS:=fun ρ Z=>Z.rt .non ρ
theorem Ku:QS Γ l X (.Return none pos) Fc:=fun H₀=>impS J3 fun Dz σ H h=>by
 obtain ⟨ρ,o,A,d,v,S,Z,hZ,k1,k2,k3,k4⟩:=h
 exact k4 .non .non ρ σ H o A d S trivial rfl hZ
theorem yi {te:TQ} (h:EQ Γ l X e te) (hs:swapsWith e none pos.line X.env=pure false:=by rfl):QS Γ l X (.Expr e pos) (Fe te):=fun H₀=>impS (vo (h H₀) hs) fun Dz σ H h=>by
 obtain ⟨ρ,o,A,d,v,S,Z,hZ,k1,k2,k3,k4⟩:=h
 exact ⟨ρ,o,A,d,v,S,_,hZ,fun u r ρ1 H1 A1 d1 g S1 pr rr h1=>k1 ρ1 σ H1 o A1 d1 S1 h1⟩
theorem xb {tc:TQb} (hc:QT Γ l X c tc) (ha:QSs Γ l X a t) (hb:QSs Γ l X b u):QS Γ l X (.If c a b pos) (qIf tc t u):=fun H₀=>impS (J4 (hc H₀) (ha H₀) (hb H₀)) fun Dz σ H h=>by
 obtain ⟨ρ,o,A,d,v,S,Z,hZ,k1,k2,k3,k4⟩:=h
 refine ⟨ρ,o,A,d,v,S,_,hZ,fun b ρ1 H1 A1 d1 g S1 h1=>?_⟩
 cases b with
 | true=>rw [if_pos rfl]; exact ⟨ρ1,o,A1,d1,v,S1,Z,h1.1 rfl,k1,k2,k3,k4⟩
 | false=>rw [if_neg (by decide)]; exact ⟨ρ1,o,A1,d1,v,S1,Z,h1.2 rfl,k1,k2,k3,k4⟩
theorem qz (j:Nat) {x:Str} {pos':Pos} {te:TD} (hj:j ≠ l) (hN:X.N.Nodup) (he:ED Γ X e te) (hi:X.N[j]?=some x:=by rfl) (hx:Loc X.env.scope x:=by first | exact Or.inl rfl | exact Or.inr rfl) (hs:swapsWith e (some (.Name x pos')) pos.line X.env=pure false:=by rfl)
  (hf:X.fn x=true \/ X.env.scope.names.lookup x=some .local:=by first | exact .inl rfl | exact .inr rfl | assumption):QS Γ l X (.Assign [.Name x pos'] e pos) (qSet l j te):=fun H₀=>impS (rg hN hi hx (he H₀) hs hf) fun Dz σ H h=>by
 obtain ⟨ρ,o,A,d,v,S,Z,hZ,k1,k2,k3,k4⟩:=h
 refine ⟨hid l ρ,_,S.Q,_,hZ,fun w r H1 s1 rv h1=>?_⟩
 obtain ⟨o',S'⟩:=S.set s1 hj rv (vf h1.1)
 exact k1 _ _ H1 o' A d S' h1.2
theorem xt (j:Nat) {x:Str} {pos':Pos} {te:TQ} (hj:j ≠ l) (hN:X.N.Nodup) (he:EQ Γ l X e te) (hi:X.N[j]?=some x:=by rfl) (hx:Loc X.env.scope x:=by first | exact Or.inl rfl | exact Or.inr rfl) (hs:swapsWith e (some (.Name x pos')) pos.line X.env=pure false:=by rfl)
  (hf:X.fn x=true \/ X.env.scope.names.lookup x=some .local:=by first | exact .inl rfl | exact .inr rfl | assumption):QS Γ l X (.Assign [.Name x pos'] e pos) (Fa j te):=fun H₀=>impS (rg hN hi hx (he H₀) hs hf) fun Dz σ H h=>by
 obtain ⟨ρ,o,A,d,v,S,Z,hZ,k1,k2,k3,k4⟩:=h
 refine ⟨ρ,o,A,d,v,S,_,hZ,fun w r ρ1 H1 A1 d1 g S1 pr rr h1=>?_⟩
 exact k1 _ _ H1 o A1 d1 (S1.setP hj pr rr) h1
end
noncomputable abbrev FTQ:=D->List D->(D->D->Prop)->Prop
noncomputable def spQ (K:W.Frag) (n:Nat) (T:FTQ):Sp:=fun vs H Q _=>∃ d ds v ws A φ,vs=v :: ws /\ ds.length + 1=n /\ Ft K H d v A /\ A.Nodup /\ Reps K H A ds ws /\ T d ds φ /\
 ∀ u r d' H' A',Grow A A' H H'->Ft K H' d' v A'->A'.Nodup->(∀ a ∈ A',a ∈ A \/ H a=none)->zh r->Rep K H' [] r u->φ r d'->Q u H'
structure FQ (P:Program) (w:World) (K:W.Frag) (mg:Str->Option Value) (base:Heap) (k:Nat) (x:Str) (ps:List Str) (T:FTQ):Prop where
 ex:∃ f fd,FnOk P w K mg base CX0 k f fd ps (spQ K ps.length T) /\ wz K fd ps [] /\ W.keepIn K (.ref f)=true /\ mg x=some (.ref f)
noncomputable def Ff (l n:Nat) (T:FTQ) (t:TQs):TQ:=fun ρ φ=>t ρ fun ds ρ1=>match slot ρ1 l with
 | some ⟨.val,d⟩=>Nat.beq (ds.length + 1) n=true /\ T d ds fun r d'=>φ r (setS ρ1 l (dv d'))
 | _=>False
section
variable {X:Cx} {x y:Str} {ps:List Str} {T:FTQ} {k:Nat} {es:List Expr} {t:TQs} {p np pos:Pos}
theorem Tu {H₀:Hp}:∀ σ H Q,Jp X.K H₀ l (Ff l ps.length T t) σ H Q->Ke (spQ X.K ps.length T) [] E0 (rq (tVar l) (Qp X.K H₀ l t)) σ H Q:=fun σ H Q q=>by
 obtain ⟨ρ,o,A,d,v,S,φ,hφ,kk⟩:=q
 refine ⟨v,S.hv,ρ,o,A,d,v,S,_,hφ,fun us rs ρ1 H1 A1 d1 g1 S1 rrs h1=>?_⟩
 have es1:slot ρ1 l=some (dv d1):=xc S1.hd
 rw [es1] at h1
 show spQ X.K ps.length T ((v :: us) ++ []) H1 Q E0
 rw [List.append_nil]
 refine ⟨d1,rs,v,us,A1,_,rfl,Nat.eq_of_beq_eq_true h1.1,S1.ft,S1.ndA,Reps.sub (fun a ha=>List.mem_append_right _ ha) _ _ rrs,h1.2,fun u r d' H' A' g ft nd fr pr rr h2=>?_⟩
 exact kk u r _ H' A' d' (g1.trans g) (S1.chg g ft nd fr) pr rr h2
theorem xk (F:FQ X.prog X.w X.K X.mg X.base k x ps T) (hr:Room k X.A) (ha:QA Γ l X es t) (hN:X.N[l]?=some y:=by rfl) (hv:Vis X.env.scope y:=by first | exact Or.inl rfl | exact Or.inr (Or.inl rfl) | exact Or.inr (Or.inr rfl)) (hd:(y == ("__debug__" : Str))=false:=by decide) (hcd:(y == ("__classdict__" : Str))=false:=by decide)
  (hg:Gl X x:=by rfl) (hdb:(x == ("__debug__" : Str))=false:=by decide) (hs:starEach (.Name y np :: es) X.env=(false,eval (.Name y np) X.env) :: starEach es X.env:=by rfl) (hpl:(backTo pos (starEach es X.env)).any (·.1)=false:=by rfl) :
  EQ Γ l X (.Call (.Name x p) (.Name y np :: es) [] pos) (Ff l ps.length T t):=fun H₀=>by
 obtain ⟨f,fd,ok,b,kp,m⟩:=F.ex
 exact impE (Qd ok hr hg m kp b .nil Xn (yo (wt hN hv hd hcd) (ha H₀) hs) hdb hs hpl) Tu
end
section
variable {P:Program} {w:World} {K:W.Frag} {mg:Str->Option Value} {base:Heap}
noncomputable def xj (A:List Addr) (H:Hp):Hp:=fun b=>if b ∈ A then none else H b
theorem ub {A:List Addr} {H:Hp} {b:Addr} (h:b ∈ A):xj A H b=none:=if_pos h
theorem ye {A:List Addr} {H:Hp} {b:Addr} (h:b ∉ A):xj A H b=H b:=if_neg h
theorem vz (A:List Addr) (H:Hp):Same (xj A H) H:=fun b u h=>by
 by_cases hb:b ∈ A
 ·rw [ub hb] at h; cases h
 ·rw [ye hb] at h; exact h
theorem Va {x qual:Str} {st:Stmt} {f:Addr} {fd:FuncData} {N ps:List Str} {k:Nat} {T:FTQ} (F:Fun K x qual st f fd) (S:zn N ps (zb st)) (b:wz K fd ps []) (m:mg x=some (.ref f))
  (qY:∀ (qZ:Value) (A:Around) (outer:List Env) (s:Shared) (H:Hp) (E:XK) (d:D) (ds:List D) (φ:D->D->Prop),Room k (A.deeper (envOfC qual (zb st) s.heap.objs.size f qZ))->ds.length + 1=ps.length->T d ds φ ->
   ∃ t,QSs (fun _=>True) 0 (cxOf CX0 P w K mg base N qual (zb st) f qZ A outer s H E).nox (yc st) t /\ t (xh N.length (d :: ds)) { nx:=fun ρ=>∃ d',slot ρ 0=some (dv d') /\ φ .non d',rt:=fun r ρ=>∃ d',slot ρ 0=some (dv d') /\ φ r d' }):FQ P w K mg base (k + 1) x ps T:=by
 refine ⟨f,fd,F.ok S (fun vs H Q E h=>?_) (fun qZ A outer s H vs Q E hr h=>?_),b,F.kp,m⟩
 ·obtain ⟨d,ds,v,ws,A,φ,rfl,hl,_,_,r,_⟩:=h
  rw [zLc,r.length,hl]
 ·obtain ⟨d,ds,v,ws,Af,φ,rfl,hl,ft,nd,r,hT,kk⟩:=h
  obtain ⟨t,ht,hq⟩:=qY qZ A outer s H E d ds φ hr hl hT
  have R0:=ud (N:=N) (ds:=d :: ds) (vs:=v :: ws) (H:=H) ⟨v,ws,rfl,Ft.rep _ _ _ (fun a _ z=>by cases z) ft,Reps.sub (fun a ha=>by cases ha) _ _ r⟩
  have s0:=vz Af H
  have S0:ST K (xj Af H) H (L2.start N (v :: ws)) (xh N.length (d :: ds)) [] 0 Af d v:=by
   refine ⟨⟨s0,fun p hp=>?_,fun p hp=>?_,fun p hp=>?_,?_,fun i q e=>?_,?_⟩,rfl,rfl,ft⟩
   ·obtain ⟨a,ha,rfl⟩:=List.mem_map.mp (show p ∈ tg 0 Af from hp)
    exact ub ha
   ·obtain ⟨a,ha,rfl⟩:=List.mem_map.mp (show p ∈ tg 0 Af from hp)
    obtain ⟨u,hu,_⟩:=Ft.dom _ _ _ ft a ha
    exact ⟨u,hu⟩
   ·obtain ⟨a,ha,rfl⟩:=List.mem_map.mp (show p ∈ tg 0 Af from hp)
    obtain ⟨u,hu,n1,n2⟩:=Ft.dom _ _ _ ft a ha
    refine ⟨fun xs z=>?_,fun ob w z=>?_⟩
    ·rw [hu] at z; cases z; exact n1 _ rfl
    ·rw [hu] at z; cases z; exact n2 _ _ rfl
   ·rw [xf]; exact nd
   ·obtain ⟨hi,e⟩:=ut e
    rw [xf]
    cases i with
    | zero=>exact absurd rfl hi
    | succ i =>
     have e':((ds.map fun d=>some (dv d)) ++ List.replicate (N.length - (d :: ds).length) none)[i]?=some (some q):=e
     rcases Nat.lt_or_ge i ds.length with hi | hi
     ·rw [List.getElem?_append_left (by simpa using hi),List.getElem?_map] at e'
      have ed:ds[i]?=some ds[i]:=by simp [hi]
      rw [ed] at e'
      have e2:some (dv ds[i])=some q:=Option.some.inj e'
      cases e2
      obtain ⟨u,eu,ru⟩:=r.get ed
      refine ⟨u,?_,.inl ⟨rfl,ru⟩⟩
      unfold L2.start
      show ((ws.map some) ++ _)[i]?=_
      rw [List.getElem?_append_left (by rw [zLm,r.length]; exact hi),List.getElem?_map,eu]
      rfl
     ·rw [List.getElem?_append_right (by simpa using hi),List.getElem?_replicate] at e'
      split at e' <;> cases e'
   ·rw [vh,List.length_set]; exact R0.len
  have fin:∀ u e d' ρ' σ' H' o' A' d2,ST K (xj Af H) H' σ' ρ' o' 0 A' d2 v->zh e->Rep K H' [] e u->slot ρ' 0=some (dv d')->φ e d'->Q u H':=fun u e d' ρ' σ' H' o' A' d2 S' pe re es h=>by
   have e2:some (dv d2)=some (dv d'):=by
    rw [<- es]
    exact (xc S'.hd).symm
   cases e2
   have kp:∀ b x,H b=some x->b ∉ Af->H' b=some x:=fun b x hb hn=>S'.Q.same b x (by rw [ye hn]; exact hb)
   refine kk u e d' H' A' ⟨fun b x hb hn=>⟨kp b x hb hn,fun z=>?_⟩,fun b xs hb=>kp b _ hb fun z=>?_,fun b ob w hb=>kp b _ hb fun z=>?_⟩ S'.ft S'.ndA (fun a ha=>?_) pe re h
   ·have:=S'.frA b z
    rw [ye hn,hb] at this
    cases this
   ·obtain ⟨w,hw,n1,_⟩:=Ft.dom _ _ _ ft b z
    rw [hb] at hw
    cases hw
    exact n1 _ rfl
   ·obtain ⟨w',hw,_,n2⟩:=Ft.dom _ _ _ ft b z
    rw [hb] at hw
    cases hw
    exact n2 _ _ rfl
   ·have:=S'.frA a ha
    by_cases hA:a ∈ Af
    ·exact .inl hA
    ·rw [ye hA] at this
     exact .inr this
  refine ⟨Um K (xj Af H) 0 t,ht ⟨xj Af H,trivial⟩,xh N.length (d :: ds),[],Af,d,v,S0,_,hq,fun ρ' σ' H' o' A' d2 S' ⟨d',es,h'⟩=>?_,fun _ _ _ _ _ _ _ q=>q.elim,fun _ _ _ _ _ _ _ q=>q.elim,fun u e ρ' σ' H' o' A' d2 S' pe re ⟨d',es,h'⟩=>fin u e d' ρ' σ' H' o' A' d2 S' pe re es h'⟩
  exact fin .non .non d' ρ' σ' H' o' A' d2 S' trivial rfl es h'
end
end DL
namespace DL
open PySem PySem.Spec L2 L3
open PyProof.Rows hiding St
variable {Γ:Hp->Prop} {l:Nat}
section
variable {K:W.Frag} {H₀ H H':Hp} {σ:St} {ρ:DE} {o:List (Nat × Addr)} {l:Nat} {A A':List Addr} {d d':D} {v:V}
theorem O6 {a:Addr} {xs ys:List V} (h:H a=some (.lst xs)):Grow [a] [a] H (upd H a (.lst ys)) :=
 ⟨fun b u hb n=>⟨by rw [y0 (fun z=>n (by rw [z]; exact List.mem_cons_self))]; exact hb,n⟩,fun b zs hb=>by rw [y0 (fun z=>by rw [z,h] at hb; cases hb)]; exact hb,fun b ob u hb=>by rw [y0 (fun z=>by rw [z,h] at hb; cases hb)]; exact hb⟩
end
noncomputable def Ei (K:W.Frag) (H₀:Hp) (l:Nat) (t:TQs):TE:=fun σ H Q=>∃ ρ o A d v,ST K H₀ H σ ρ o l A d v /\ ∃ φ,t ρ φ /\
 ∀ a xs es ρ' H' A' d',Grow A A' H H'->ST K H₀ H' σ ρ' o l A' d' v->H' a=some (.lst xs)->a ∉ A'->a ∉ o.map Prod.snd->zu es->Reps K H' [] es xs->φ es ρ'->Q (.ref a) H'
noncomputable def QL (G:Hp->Prop) (l:Nat) (X:Cx) (e:Expr) (t:TQs):Prop:=∀ H₀:{H:Hp // G H},PE X e (Ei X.K H₀.1 l t)
section
variable {X:Cx} {e:Expr} {te:TD} {st:Stmt} {t u:TQS} {pos:Pos}
noncomputable def qCut (t:TQS):TQS:=fun ρ Z=>∃ J:DE->Prop,t ρ { Z with nx:=J } /\ ∀ ρ',J ρ'->Z.nx ρ'
theorem y4 (h:QS Γ l X st t):QS Γ l X st (qCut t):=fun H₀=>impS (h H₀) fun Dz σ H h=>by
 obtain ⟨ρ,o,A,d,v,S,Z,⟨J,hZ,hJ⟩,k1,k2,k3,k4⟩:=h
 exact ⟨ρ,o,A,d,v,S,_,hZ,fun ρ2 σ2 H2 o2 A2 d2 S2 q2=>k1 ρ2 σ2 H2 o2 A2 d2 S2 (hJ ρ2 q2),k2,k3,k4⟩
theorem zg {ρ:DE} {Z:QZ} (J:DE->Prop) (h1:t ρ { Z with nx:=J }) (h2:∀ ρ2,J ρ2->u ρ2 Z):qSeq (qCut t) u ρ Z:=⟨J,h1,h2⟩
end
end DL
namespace DL
open PySem PySem.Spec L2 L3
open PyProof.Rows hiding St
section
variable {K:W.Frag} {H H':Hp}
theorem Fts.length:∀ {ds:List D} {xs:List V} {A:List Addr},Fts K H ds xs A->xs.length=ds.length
 | [],_,_,h=>by rw [h.1]; rfl
 | d :: ds,xs,A,h=>by
  obtain ⟨v,r,B,C,rfl,_,_,t⟩:=h
  simp [Fts.length t]
theorem Fts.foc:∀ {ds:List D} {xs:List V} {A:List Addr} {i:Nat} {d:D},Fts K H ds xs A->ds[i]?=some d->∃ w A1 B C,xs[i]?=some w /\ A=B ++ A1 ++ C /\ Ft K H d w A1 /\
  ∀ H' e A1',Gt H H'->(∀ a ∈ B ++ C,∀ u,H a=some u->H' a=some u)->Ft K H' e w A1'->Fts K H' (ds.set i e) xs (B ++ A1' ++ C)
 | [],_,_,_,_,_,e=>by simp at e
 | d0 :: ds,xs,A,0,d,h,e=>by
  obtain ⟨v,r,B,C,rfl,rfl,q,t⟩:=h
  cases (show d0=d from by simpa using e)
  refine ⟨v,B,[],C,rfl,rfl,q,fun H' e A1' g k f=>⟨v,r,A1',C,rfl,rfl,f,Fts.keep g _ _ _ (fun a ha=>k a ha) t⟩⟩
 | d0 :: ds,xs,A,i + 1,d,h,e=>by
  obtain ⟨v,r,B,C,rfl,rfl,q,t⟩:=h
  obtain ⟨w,A1,B',C',ew,rfl,f,k⟩:=Fts.foc (i:=i) t (by simpa using e)
  refine ⟨w,A1,B ++ B',C',by simpa using ew,by simp,f,fun H' e A1' g kk f'=>⟨v,r,B,B' ++ A1' ++ C',rfl,by simp,Ft.keep g _ _ _ (fun a ha=>kk a (by simp [ha])) q,k H' e A1' g (fun a ha=>kk a (by simp at ha ⊢; rcases ha with ha | ha <;> simp [ha])) f'⟩⟩
theorem Fts.put:∀ {ds:List D} {xs:List V} {A:List Addr} (i:Nat) {e:D} {u:V},Fts K H ds xs A->Ft K H e u []->∃ A',A'.Sublist A /\ Fts K H (ds.set i e) (xs.set i u) A'
 | [],_,_,_,_,_,h,_=>⟨_,List.Sublist.refl _,by obtain ⟨rfl,rfl⟩:=h; exact ⟨rfl,rfl⟩⟩
 | d :: ds,xs,A,0,e,u,h,f=>by
  obtain ⟨v,r,B,C,rfl,rfl,q,t⟩:=h
  exact ⟨C,List.sublist_append_right _ _,u,r,[],C,rfl,rfl,f,t⟩
 | d :: ds,xs,A,i + 1,e,u,h,f=>by
  obtain ⟨v,r,B,C,rfl,rfl,q,t⟩:=h
  obtain ⟨C',s,t'⟩:=Fts.put i t f
  exact ⟨B ++ C',List.Sublist.append (List.Sublist.refl _) s,v,_,B,C',rfl,rfl,q,t'⟩
theorem Fts.app:∀ {ds es:List D} {xs ys:List V} {A B:List Addr},Fts K H ds xs A->Fts K H es ys B->Fts K H (ds ++ es) (xs ++ ys) (A ++ B)
 | [],_,_,_,_,_,h,f=>by obtain ⟨rfl,rfl⟩:=h; exact f
 | d :: ds,es,xs,ys,A,B',h,f=>by
  obtain ⟨v,r,B,C,rfl,rfl,q,t⟩:=h
  exact ⟨v,r ++ ys,B,C ++ B',rfl,by simp,q,Fts.app t f⟩
mutual
theorem Ft.repN {P:Addr->Prop}:∀ (d:D) (v:V) (A:List Addr),(∀ a ∈ A,P a)->Ft K H d v A->RepN K H P d v
 | .lst ds,v,A,k,h=>by
  obtain ⟨a,xs,B,e,q,rfl,r⟩:=h
  exact ⟨a,xs,e,q,k a List.mem_cons_self,Fts.repNs ds xs B (fun b hb=>k b (List.mem_cons_of_mem _ hb)) r⟩
 | .dk ks ds,v,A,k,h=>by
  obtain ⟨a,xs,B,e,q,l,n,rfl,r⟩:=h
  exact ⟨a,xs,e,q,k a List.mem_cons_self,l,n,Fts.repNs ds xs B (fun b hb=>k b (List.mem_cons_of_mem _ hb)) r⟩
 | .tup ds,v,A,k,h=>by
  obtain ⟨a,xs,e,q,r⟩:=h
  exact ⟨a,xs,e,q,Fts.repNs ds xs A k r⟩
 | .non,_,_,_,h=>h.2
 | .bl _,_,_,_,h=>h.2
 | .int _,_,_,_,h=>h.2
 | .str _,_,_,_,h=>h.2
 | .ty _,_,_,_,h=>h.2
 | .cn _,_,_,_,h=>h.2
 | .scr ns,v,A,_,h=>h.2
 | .dz rs,v,A,_,h=>h.2
 | .exc _,_,_,_,h=>h.elim
 | .fd _,_,_,_,h=>h.elim
 | .dt _ _,_,_,_,h=>h.elim
 | .ob C ns ds,v,A,k,h=>by
  obtain ⟨a,dx,xs,B,e,q,l,n,rfl,r⟩:=h
  exact ⟨a,dx,xs,e,q,k a List.mem_cons_self,l,n,Fts.repNs ds xs B (fun b hb=>k b (List.mem_cons_of_mem _ hb)) r⟩
theorem Fts.repNs {P:Addr->Prop}:∀ (ds:List D) (xs:List V) (A:List Addr),(∀ a ∈ A,P a)->Fts K H ds xs A->x9 K H P ds xs
 | [],_,_,_,h=>h.1
 | d :: ds,xs,A,k,h=>by
  obtain ⟨v,r,B,C,e,rfl,q,t⟩:=h
  exact ⟨v,r,e,Ft.repN d v B (fun b hb=>k b (List.mem_append_left _ hb)) q,Fts.repNs ds r C (fun b hb=>k b (List.mem_append_right _ hb)) t⟩
end
end
section
variable {K:W.Frag} {H₀ H H1:Hp} {σ:St} {ρ:DE} {o:List (Nat × Addr)} {l:Nat} {A:List Addr} {d:D} {v:V}
theorem ST.letgo (S:ST K H₀ H σ ρ o l A d v) {i:Nat} (hi:i ≠ l) (w:V):ST K H₀ H (σ.set i (some w)) (hid i ρ) o l A d v:=by
 refine ⟨⟨S.Q.same,S.Q.fresh,S.Q.trk,S.Q.mtb,S.Q.nda,fun j r e=>?_,?_⟩,?_,?_,S.ft⟩
 ·obtain ⟨hj,e⟩:=ut e
  obtain ⟨hj2,e⟩:=ut e
  obtain ⟨u,eu,q⟩:=S.Q.slots j r (by rw [Qw hj]; exact e)
  exact ⟨u,by rw [List.getElem?_set_ne (Ne.symm hj2)]; exact eu,q⟩
 ·rw [List.length_set,S.Q.len]
  simp only [vh,List.length_set]
 ·rw [Qw (Ne.symm hi)]; exact S.hd
 ·rw [List.getElem?_set_ne hi]; exact S.hv
end
noncomputable abbrev TP:=DE->(List Nat->Prop)->Prop
variable {Γ:Hp->Prop} {l:Nat}
section
variable {X:Cx} {x:Str} {e ke:Expr} {es:List Expr} {te tk:TD} {np apos cpos pos pos':Pos}
noncomputable def Jg:TP:=fun _ φ=>φ []
noncomputable abbrev TF:=DE->(D->Prop)->Prop
noncomputable abbrev TFs:=DE->(List D->Prop)->Prop
noncomputable def Cf (K:W.Frag) (H₀:Hp) (l:Nat) (t:TF):TE:=fun σ H Q=>∃ ρ o A d v,ST K H₀ H σ ρ o l A d v /\ ∃ φ,t ρ φ /\ ∀ u e B H',Same H H'->Ft K H' e u B->B.Nodup->(∀ b ∈ B,H b=none)->φ e->Q u H'
noncomputable def Ek (K:W.Frag) (H₀:Hp) (l:Nat) (t:TFs):TA:=fun σ H Q=>∃ ρ o A d v,ST K H₀ H σ ρ o l A d v /\ ∃ φ,t ρ φ /\ ∀ us es B H',Same H H'->Fts K H' es us B->B.Nodup->(∀ b ∈ B,H b=none)->φ es->Q us H'
noncomputable def EF (G:Hp->Prop) (l:Nat) (X:Cx) (e:Expr) (t:TF):Prop:=∀ H₀:{H:Hp // G H},PE X e (Cf X.K H₀.1 l t)
noncomputable def EFs (G:Hp->Prop) (l:Nat) (X:Cx) (es:List Expr) (t:TFs):Prop:=∀ H₀:{H:Hp // G H},PA X es (Ek X.K H₀.1 l t)
noncomputable def frs:EV->Prop
 | ⟨.fre,.lst ds⟩=>zu ds
 | ⟨.new,.lst ds⟩=>zu ds
 | ⟨_,d⟩=>zh d
theorem D7 {K:W.Frag} {H H':Hp} {O:List Addr} {r:EV} {v:V} (h:RV K H H' O r v) (p:frs r):∃ B,Ft K H' r.d v B /\ B.Nodup /\ ∀ b ∈ B,H b=none:=by
 have gen:zh r.d->∃ B,Ft K H' r.d v B /\ B.Nodup /\ ∀ b ∈ B,H b=none:=fun pd=>⟨[],Rep.ft _ _ pd h.view.rep0,List.nodup_nil,fun b hb=>by cases hb⟩
 obtain ⟨k,d⟩:=r
 unfold frs at p
 split at p
 ·rename_i ds eq
  cases eq
  obtain ⟨a,rfl,m,n,xs,hx,rr⟩:=h
  exact ⟨[a],⟨a,xs,[],rfl,hx,rfl,Reps.fts _ _ p rr⟩,by simp,fun b hb=>by rw [List.mem_singleton.mp hb]; exact m⟩
 ·rename_i ds eq
  cases eq
  obtain ⟨a,xs,rfl,hx,pa,rr⟩:=h
  exact ⟨[a],⟨a,xs,[],rfl,hx,rfl,Reps.fts (O:=[]) _ _ p (x9.reps (fun _ _ z=>by cases z) _ _ rr)⟩,by simp,fun b hb=>by rw [List.mem_singleton.mp hb]; exact pa.2⟩
 ·rename_i k' d' _ _ eq
  cases eq
  exact gen p
noncomputable def fNil:TFs:=fun _ φ=>φ []
theorem Hq:EFs Γ l X [] fNil:=fun H₀=>impA wu fun σ H Q q=>by
 obtain ⟨ρ,o,A,d,v,S,φ,hφ,k⟩:=q
 exact k [] [] [] H (Same.refl H) ⟨rfl,rfl⟩ List.nodup_nil (fun b hb=>by cases hb) hφ
noncomputable def Hk (te:TF) (tr:TFs):TFs:=fun ρ φ=>te ρ fun d=>tr ρ fun ds=>φ (d :: ds)
theorem Uu {te:TF} {tr:TFs} (he:EF Γ l X e te) (hr:EFs Γ l X es tr) (hs:starEach (e :: es) X.env=(false,eval e X.env) :: starEach es X.env:=by rfl):EFs Γ l X (e :: es) (Hk te tr):=fun H₀=>impA (yo (he H₀) (hr H₀) hs) fun σ H Q q=>by
 obtain ⟨ρ,o,A,d,v,S,φ,hφ,k⟩:=q
 refine ⟨ρ,o,A,d,v,S,_,hφ,fun u e1 B1 H1 s1 f1 n1 fr1 h1=>⟨ρ,o,A,d,v,S.to s1,_,h1,fun us es1 B2 H2 s2 f2 n2 fr2 h2=>?_⟩⟩
 have f1':Ft X.K H2 e1 u B1:=Ft.keep (Gt.same s2) _ _ _ (fun a _ x hx=>s2 _ _ hx) f1
 refine k (u :: us) (e1 :: es1) (B1 ++ B2) H2 (s1.trans s2) ⟨u,us,B1,B2,rfl,rfl,f1',f2⟩ ?_ (fun b hb=>?_) h2
 ·rw [List.nodup_append]
  refine ⟨n1,n2,fun a ha b hb e=>?_⟩
  subst e
  obtain ⟨x,hx,_⟩:=Ft.dom _ _ _ f1 a ha
  rw [fr2 a hb] at hx
  cases hx
 ·rcases List.mem_append.mp hb with hb | hb
  ·exact fr1 b hb
  ·exact s1.free (fr2 b hb)
end
noncomputable def Ul (K:W.Frag) (H₀:Hp) (l:Nat) (t:TQS):TS:=fun Dz σ H=>∃ ρ o A d v,ST K H₀ H σ ρ o l A d v /\ ∃ Z,t ρ Z /\
 (∀ ρ' σ' H' o' A' d',ST K H₀ H' σ' ρ' o' l A' d' v->Z.nx ρ'->Dz.nx σ' H') /\
 (∀ u e ρ' H',Same H₀ H'->RepN K H' (fun a=>H₀ a=none) e u->Z.rt e ρ'->Dz.rt u H')
noncomputable def RS (G:Hp->Prop) (l:Nat) (X:Cx) (st:Stmt) (t:TQS):Prop:=∀ H₀:{H:Hp // G H},PS X st (Ul X.K H₀.1 l t)
noncomputable def RSs (G:Hp->Prop) (l:Nat) (X:Cx) (st:List Stmt) (t:TQS):Prop:=∀ H₀:{H:Hp // G H},PSs X st (Ul X.K H₀.1 l t)
variable {Γ:Hp->Prop} {l:Nat}
section
variable {X:Cx} {st:Stmt} {rest a b:List Stmt} {t u:TQS} {e c:Expr} {pos:Pos} {x:Str}
theorem Gv:RSs Γ l X [] qNil:=fun H₀=>Yj Xj fun Dz σ H h=>by
 obtain ⟨ρ,o,A,d,v,S,Z,hZ,k1,k2⟩:=h
 exact k1 _ _ _ _ _ _ S hZ
theorem L9 (h:RS Γ l X st t):RSs Γ l X [st] t:=fun H₀=>k8 (h H₀)
theorem Kr (h:RS Γ l X st t) (hr:RSs Γ l X rest u):RSs Γ l X (st :: rest) (qSeq t u):=fun H₀=>Yj (xx (h H₀) (hr H₀)) fun Dz σ H h=>by
 obtain ⟨ρ,o,A,d,v,S,Z,hZ,k1,k2⟩:=h
 exact ⟨ρ,o,A,d,v,S,_,hZ,fun ρ' σ' H' o' A' d' S' h'=>⟨ρ',o',A',d',v,S',Z,h',k1,k2⟩,k2⟩
theorem C2 {tc:TQb} (hc:QT Γ l X c tc) (ha:RSs Γ l X a t) (hb:RSs Γ l X b u):RS Γ l X (.If c a b pos) (qIf tc t u):=fun H₀=>impS (J4 (hc H₀) (ha H₀) (hb H₀)) fun Dz σ H h=>by
 obtain ⟨ρ,o,A,d,v,S,Z,hZ,k1,k2⟩:=h
 refine ⟨ρ,o,A,d,v,S,_,hZ,fun bb ρ1 H1 A1 d1 g S1 h1=>?_⟩
 cases bb
 ·exact ⟨ρ1,o,A1,d1,v,S1,Z,h1.2 rfl,k1,k2⟩
 ·exact ⟨ρ1,o,A1,d1,v,S1,Z,h1.1 rfl,k1,k2⟩
end
noncomputable abbrev FTR:=D->List D->(D->Prop)->Prop
noncomputable def spR (K:W.Frag) (n:Nat) (T:FTR):Sp:=fun vs H Q _=>∃ d ds v ws A φ,vs=v :: ws /\ ds.length + 1=n /\ Ft K H d v A /\ A.Nodup /\ Reps K H A ds ws /\ T d ds φ /\
 ∀ u e H',(∀ b x,H b=some x->b ∉ A->H' b=some x)->RepN K H' (fun a=>a ∈ A \/ H a=none) e u->φ e->Q u H'
structure FR (P:Program) (w:World) (K:W.Frag) (mg:Str->Option Value) (base:Heap) (k:Nat) (x:Str) (ps:List Str) (T:FTR):Prop where
 ex:∃ f fd,FnOk P w K mg base CX0 k f fd ps (spR K ps.length T) /\ wz K fd ps [] /\ W.keepIn K (.ref f)=true /\ mg x=some (.ref f)
section
variable {P:Program} {w:World} {K:W.Frag} {mg:Str->Option Value} {base:Heap}
theorem Vv {N:List Str} {d:D} {ds:List D} {v:V} {ws:List V} {H:Hp} {Af:List Addr} (ft:Ft K H d v Af) (nd:Af.Nodup) (r:Reps K H Af ds ws):ST K (xj Af H) H (L2.start N (v :: ws)) (xh N.length (d :: ds)) [] 0 Af d v:=by
 have R0:=ud (N:=N) (ds:=d :: ds) (vs:=v :: ws) (H:=H) ⟨v,ws,rfl,Ft.rep _ _ _ (fun a _ z=>by cases z) ft,Reps.sub (fun a ha=>by cases ha) _ _ r⟩
 have s0:=vz Af H
 refine ⟨⟨s0,fun p hp=>?_,fun p hp=>?_,fun p hp=>?_,?_,fun i q e=>?_,?_⟩,rfl,rfl,ft⟩
 ·obtain ⟨a,ha,rfl⟩:=List.mem_map.mp (show p ∈ tg 0 Af from hp)
  exact ub ha
 ·obtain ⟨a,ha,rfl⟩:=List.mem_map.mp (show p ∈ tg 0 Af from hp)
  obtain ⟨u,hu,_⟩:=Ft.dom _ _ _ ft a ha
  exact ⟨u,hu⟩
 ·obtain ⟨a,ha,rfl⟩:=List.mem_map.mp (show p ∈ tg 0 Af from hp)
  obtain ⟨u,hu,n1,n2⟩:=Ft.dom _ _ _ ft a ha
  refine ⟨fun xs z=>?_,fun ob w z=>?_⟩
  ·rw [hu] at z; cases z; exact n1 _ rfl
  ·rw [hu] at z; cases z; exact n2 _ _ rfl
 ·rw [xf]; exact nd
 ·obtain ⟨hi,e⟩:=ut e
  rw [xf]
  cases i with
  | zero=>exact absurd rfl hi
  | succ i =>
   have e':((ds.map fun d=>some (dv d)) ++ List.replicate (N.length - (d :: ds).length) none)[i]?=some (some q):=e
   rcases Nat.lt_or_ge i ds.length with hi | hi
   ·rw [List.getElem?_append_left (by simpa using hi),List.getElem?_map] at e'
    have ed:ds[i]?=some ds[i]:=by simp [hi]
    rw [ed] at e'
    have e2:some (dv ds[i])=some q:=Option.some.inj e'
    cases e2
    obtain ⟨u,eu,ru⟩:=r.get ed
    refine ⟨u,?_,.inl ⟨rfl,ru⟩⟩
    unfold L2.start
    show ((ws.map some) ++ _)[i]?=_
    rw [List.getElem?_append_left (by rw [zLm,r.length]; exact hi),List.getElem?_map,eu]
    rfl
   ·rw [List.getElem?_append_right (by simpa using hi),List.getElem?_replicate] at e'
    split at e' <;> cases e'
 ·rw [vh,List.length_set]; exact R0.len
theorem Cm {x qual:Str} {st:Stmt} {f:Addr} {fd:FuncData} {N ps:List Str} {k:Nat} {T:FTR} (F:Fun K x qual st f fd) (S:zn N ps (zb st)) (b:wz K fd ps []) (m:mg x=some (.ref f))
  (qY:∀ (qZ:Value) (A:Around) (outer:List Env) (s:Shared) (H:Hp) (E:XK) (d:D) (ds:List D) (φ:D->Prop),Room k (A.deeper (envOfC qual (zb st) s.heap.objs.size f qZ))->ds.length + 1=ps.length->T d ds φ ->
   ∃ t,RSs (fun _=>True) 0 (cxOf CX0 P w K mg base N qual (zb st) f qZ A outer s H E).nox (yc st) t /\ t (xh N.length (d :: ds)) { nx:=fun _=>False,rt:=fun r _=>φ r }):FR P w K mg base (k + 1) x ps T:=by
 refine ⟨f,fd,F.ok S (fun vs H Q E h=>?_) (fun qZ A outer s H vs Q E hr h=>?_),b,F.kp,m⟩
 ·obtain ⟨d,ds,v,ws,A,φ,rfl,hl,_,_,r,_⟩:=h
  rw [zLc,r.length,hl]
 ·obtain ⟨d,ds,v,ws,Af,φ,rfl,hl,ft,nd,r,hT,kk⟩:=h
  obtain ⟨t,ht,hq⟩:=qY qZ A outer s H E d ds φ hr hl hT
  have S0:=Vv (N:=N) ft nd r
  refine ⟨Ul K (xj Af H) 0 t,ht ⟨xj Af H,trivial⟩,xh N.length (d :: ds),[],Af,d,v,S0,_,hq,fun ρ' σ' H' o' A' d2 S' h'=>h'.elim,fun u e ρ' H' s' re h'=>?_⟩
  refine kk u e H' (fun b x hb hn=>s' b x (by rw [ye hn]; exact hb)) (RepN.to (Same.refl _) (fun a ha=>?_) _ _ re) h'
  by_cases hA:a ∈ Af
  ·exact .inl hA
  ·rw [ye hA] at ha
   exact .inr ha
end
end DL
namespace L2
open PySem PySem.Spec PyProof.Rows
theorem gd:bootBuiltins "reversed" = some (.type "reversed"):=by kernel_rfl
end L2
namespace DL
open PySem PySem.Spec L2 L3
open PyProof.Rows hiding St
noncomputable def uy:D->Option (List D)
 | .lst ds=>some ds
 | .tup ds=>some ds
 | .ob _ _ ds=>some ds
 | _=>none
noncomputable def T5:D->List D->D
 | .lst _,ds=>.lst ds
 | .tup _,ds=>.tup ds
 | .ob C ns _,ds=>.ob C ns ds
 | d,_=>d
noncomputable def atQ:List Nat->D->Option D
 | [],d=>some d
 | i :: π,d=>match uy d with
  | some ds=>(match ds[i]? with
   | some x=>atQ π x
   | none=>none)
  | none=>none
noncomputable def putQ:List Nat->D->D->D
 | [],_,e=>e
 | i :: π,d,e=>match uy d with
  | some ds=>(match ds[i]? with
   | some x=>T5 d (ds.set i (putQ π x e))
   | none=>d)
  | none=>d
noncomputable def Kids (H:Hp) (a:Addr) (xs:List V):Prop:=H a=some (.lst xs) \/ H a=some (.tup xs) \/ ∃ C dx,∃ ns:List Str,H a=some (.ins C dx (ns.zip xs)) /\ ns.length=xs.length
theorem wr {α β:Type}:∀ {ns:List α} {xs:List β},ns.length=xs.length->(ns.zip xs).map Prod.snd=xs
 | [],[],_=>rfl
 | [],_ :: _,h=>by simp at h
 | _ :: _,[],h=>by simp at h
 | _ :: _,_ :: _,h=>by simp [wr (by simpa using h)]
theorem Kids.fn {H:Hp} {a:Addr} {xs ys:List V} (h:Kids H a xs) (h':Kids H a ys):xs=ys:=by
 rcases h with h | h | ⟨C,dx,ns,h,l⟩
 ·rcases h' with h' | h' | ⟨C',dx',ns',h',l'⟩
  ·rw [h] at h'; cases h'; rfl
  ·rw [h] at h'; cases h'
  ·rw [h] at h'; cases h'
 ·rcases h' with h' | h' | ⟨C',dx',ns',h',l'⟩
  ·rw [h] at h'; cases h'
  ·rw [h] at h'; cases h'; rfl
  ·rw [h] at h'; cases h'
 ·rcases h' with h' | h' | ⟨C',dx',ns',h',l'⟩
  ·rw [h] at h'; cases h'
  ·rw [h] at h'; cases h'
  ·rw [h] at h'
   injection h' with h'
   injection h' with _ _ e
   have:=congrArg (List.map Prod.snd) e
   rw [wr l,wr l'] at this
   exact this
theorem Kids.to {H H':Hp} {a:Addr} {xs:List V} (s:Same H H') (h:Kids H a xs):Kids H' a xs:=by
 rcases h with h | h | ⟨C,dx,ns,h,l⟩
 ·exact .inl (s _ _ h)
 ·exact .inr (.inl (s _ _ h))
 ·exact .inr (.inr ⟨C,dx,ns,s _ _ h,l⟩)
noncomputable def valQ (H:Hp):List Nat->V->V->Prop
 | [],v,u=>u=v
 | i :: π,v,u=>∃ a xs w,v=.ref a /\ Kids H a xs /\ xs[i]?=some w /\ valQ H π w u
theorem valQ.fn {H:Hp}:∀ {π:List Nat} {v u u':V},valQ H π v u->valQ H π v u'->u=u'
 | [],_,_,_,h,h'=>h.trans h'.symm
 | i :: π,_,_,_,⟨a,xs,w,e,q,g,h⟩,⟨a',xs',w',e',q',g',h'⟩=>by
  rw [e] at e'
  cases e'
  cases q.fn q'
  rw [g] at g'
  cases g'
  exact h.fn h'
theorem valQ.to {H H':Hp} (s:Same H H'):∀ {π:List Nat} {v u:V},valQ H π v u->valQ H' π v u
 | [],_,_,h=>h
 | i :: π,_,_,⟨a,xs,w,e,q,g,h⟩=>⟨a,xs,w,e,q.to s,g,h.to s⟩
theorem valQ.snoc {H:Hp} {i:Nat} {a:Addr} {xs:List V} {w:V}:∀ {π:List Nat} {v:V},valQ H π v (.ref a)->Kids H a xs->xs[i]?=some w->valQ H (π ++ [i]) v w
 | [],v,h,q,g=>⟨a,xs,w,h.symm,q,g,rfl⟩
 | j :: π,v,⟨b,ys,z,e,q',g',h⟩,q,g=>⟨b,ys,z,e,q',g',h.snoc q g⟩
section
variable {K:W.Frag} {H H':Hp}
theorem Ft.parts {d:D} {v:V} {A:List Addr} {ds:List D} (h:Ft K H d v A) (p:uy d=some ds):∃ a xs T B,v=.ref a /\ Kids H a xs /\ A=T ++ B /\ Fts K H ds xs B /\
  ∀ H' ds' B',Gt H H'->(∀ b ∈ T,∀ u,H b=some u->H' b=some u)->ds'.length=ds.length->Fts K H' ds' xs B'->Ft K H' (T5 d ds') v (T ++ B'):=by
 cases d with
 | lst es =>
  cases p
  obtain ⟨a,xs,B,e,q,rfl,r⟩:=h
  exact ⟨a,xs,[a],B,e,.inl q,rfl,r,fun H' ds' B' g k l f=>⟨a,xs,B',e,k a List.mem_cons_self _ q,rfl,f⟩⟩
 | tup es =>
  cases p
  obtain ⟨a,xs,e,q,r⟩:=h
  exact ⟨a,xs,[],A,e,.inr (.inl q.2),rfl,r,fun H' ds' B' g k l f=>⟨a,xs,e,Rl g q,f⟩⟩
 | ob C ns es =>
  cases p
  obtain ⟨a,dx,xs,B,e,q,l,n,rfl,r⟩:=h
  exact ⟨a,xs,[a],B,e,.inr (.inr ⟨C,dx,ns,q,by rw [l,r.length]⟩),rfl,r,fun H' ds' B' g k l' f=>⟨a,dx,xs,B',e,k a List.mem_cons_self _ q,by rw [l']; exact l,n,rfl,f⟩⟩
 | _=>cases p
theorem Ft.focQ:∀ {π:List Nat} {d:D} {v:V} {A:List Addr} {d1:D},Ft K H d v A->atQ π d=some d1->∃ u A1 B C,valQ H π v u /\ A=B ++ A1 ++ C /\ Ft K H d1 u A1 /\
  ∀ H' e A1',Gt H H'->(∀ a ∈ B ++ C,∀ u,H a=some u->H' a=some u)->Ft K H' e u A1'->Ft K H' (putQ π d e) v (B ++ A1' ++ C)
 | [],d,v,A,d1,h,e=>by
  cases (show d=d1 from Option.some.inj e)
  exact ⟨v,A,[],[],rfl,by simp,h,fun H' e A1' _ _ f=>by simpa [putQ] using f⟩
 | i :: π,d,v,A,d1,h,e=>by
  have e:(match uy d with | some ds=>(match ds[i]? with | some x=>atQ π x | none=>none) | none=>none)=some d1:=e
  cases ep:uy d with
  | none=>rw [ep] at e; cases e
  | some ds =>
   rw [ep] at e
   have e:(match ds[i]? with | some x=>atQ π x | none=>none)=some d1:=e
   cases ed:ds[i]? with
   | none=>rw [ed] at e; cases e
   | some d2 =>
    rw [ed] at e
    obtain ⟨a,xs,T,AA,rfl,q,rfl,r,kk⟩:=h.parts ep
    obtain ⟨w,A1,B,C,ew,rfl,f,k⟩:=Fts.foc r ed
    obtain ⟨u,A2,B',C',hv,rfl,f2,k2⟩:=Ft.focQ (π:=π) f e
    refine ⟨u,A2,T ++ (B ++ B'),C' ++ C,⟨a,xs,w,rfl,q,ew,hv⟩,by simp,f2,fun H' e' A1' g km f'=>?_⟩
    have h2:=k2 H' e' A1' g (fun a ha=>km a (by simp at ha ⊢; rcases ha with ha | ha <;> simp [ha])) f'
    have h3:=k H' _ _ g (fun a ha=>km a (by simp at ha ⊢; rcases ha with ha | ha <;> simp [ha])) h2
    show Ft K H' (match uy d with | some ds=>(match ds[i]? with | some x=>T5 d (ds.set i (putQ π x e')) | none=>d) | none=>d) _ _
    rw [ep]
    show Ft K H' (match ds[i]? with | some x=>T5 d (ds.set i (putQ π x e')) | none=>d) _ _
    rw [ed]
    have h4:=kk H' _ _ g (fun b hb=>km b (by simp [hb])) (by rw [List.length_set]) h3
    simpa using h4
end
section
variable {K:W.Frag} {H₀ H:Hp} {σ:St} {ρ:DE} {o:List (Nat × Addr)} {l:Nat} {A:List Addr} {d:D} {v:V}
theorem ST.focQ (S:ST K H₀ H σ ρ o l A d v) {π:List Nat} {d1:D} (h:atQ π d=some d1):∃ u A1,valQ H π v u /\ Ft K H d1 u A1 /\ A1.Nodup /\ (∀ a ∈ A1,a ∈ A) /\ (∀ a ∈ A1,H a ≠ none) /\
  ∀ H' e A1',(∀ c x,H c=some x->c ∉ A1->H' c=some x)->Ft K H' e u A1'->A1'.Nodup->(∀ a ∈ A1',a ∈ A1 \/ H a=none)->∃ A',ST K H₀ H' σ (setS ρ l (dv (putQ π d e))) o l A' (putQ π d e) v /\ Grow A A' H H' /\ ∀ a ∈ A1,a ∉ A1'->a ∉ A':=by
 obtain ⟨u,A1,B,C,hv,hA,f,k⟩:=Ft.focQ S.ft h
 have nd:=S.ndA
 rw [hA] at nd
 have nd1:=List.nodup_append.mp nd
 have nd2:=List.nodup_append.mp nd1.1
 have dm:∀ a ∈ A,H a ≠ none:=fun a ha e=>by
  obtain ⟨x,hx,_⟩:=Ft.dom _ _ _ S.ft a ha
  rw [e] at hx
  cases hx
 have mA:∀ a,a ∈ B \/ a ∈ A1 \/ a ∈ C ↔ a ∈ A:=fun a=>by rw [hA]; simp [or_assoc]
 refine ⟨u,A1,hv,f,nd2.2.1,fun a ha=>(mA a).mp (by simp [ha]),fun a ha=>dm a ((mA a).mp (by simp [ha])),fun H' e A1' kp f' nd' fr=>?_⟩
 have gt:Gt H H':=⟨fun b xs hb=>kp b _ hb fun z=>by
   obtain ⟨x,hx,n1,_⟩:=Ft.dom _ _ _ f b z
   rw [hb] at hx
   cases hx
   exact n1 _ rfl,fun b ob w hb=>kp b _ hb fun z=>by
   obtain ⟨x,hx,_,n2⟩:=Ft.dom _ _ _ f b z
   rw [hb] at hx
   cases hx
   exact n2 _ _ rfl⟩
 have nB:∀ a ∈ B ++ C,a ∉ A1:=fun a ha z=>by
  rcases List.mem_append.mp ha with ha | ha
  ·exact nd2.2.2 a ha a z rfl
  ·exact nd1.2.2 a (List.mem_append_right _ z) a ha rfl
 have ftn:=k H' e A1' gt (fun a ha x hx=>kp a x hx (nB a ha)) f'
 have mA':∀ a ∈ B ++ A1' ++ C,a ∈ A \/ H a=none:=fun a ha=>by
  rw [List.mem_append,List.mem_append] at ha
  rcases ha with (ha | ha) | ha
  ·exact .inl ((mA a).mp (by simp [ha]))
  ·exact (fr a ha).imp (fun z=>(mA a).mp (by simp [z])) id
  ·exact .inl ((mA a).mp (by simp [ha]))
 have ndn:(B ++ A1' ++ C).Nodup:=by
  rw [List.nodup_append,List.nodup_append]
  refine ⟨⟨nd2.1,nd',fun x hx y hy e=>?_⟩,nd1.2.1,fun x hx y hy e=>?_⟩
  ·subst e
   rcases fr x hy with z | z
   ·exact nd2.2.2 x hx x z rfl
   ·exact dm x ((mA x).mp (by simp [hx])) z
  ·subst e
   rcases List.mem_append.mp hx with hx | hx
   ·exact nd1.2.2 x (List.mem_append_left _ hx) x hy rfl
   ·rcases fr x hx with z | z
    ·exact nd1.2.2 x (List.mem_append_right _ z) x hy rfl
    ·exact dm x ((mA x).mp (by simp [hy])) z
 have gr:Grow A (B ++ A1' ++ C) H H':=⟨fun c x hx hn=>⟨kp c x hx fun z=>hn ((mA c).mp (by simp [z])),fun z=>(mA' c z).elim hn fun e=>by rw [hx] at e; cases e⟩,gt.tups,gt.frzs⟩
 refine ⟨_,S.chg gr ftn ndn mA',gr,fun a ha na z=>?_⟩
 rw [List.mem_append,List.mem_append] at z
 rcases z with (z | z) | z
 ·exact nB a (by simp [z]) ha
 ·exact na z
 ·exact nB a (by simp [z]) ha
end
noncomputable def Ej (K:W.Frag) (H₀:Hp) (l:Nat) (t:TP):TE:=fun σ H Q=>∃ ρ o A d v,ST K H₀ H σ ρ o l A d v /\ ∃ φ,t ρ φ /\ ∀ u π H',Same H H'->valQ H' π v u->φ π->Q u H'
noncomputable def EPQ (G:Hp->Prop) (l:Nat) (X:Cx) (e:Expr) (t:TP):Prop:=∀ H₀:{H:Hp // G H},PE X e (Ej X.K H₀.1 l t)
structure CO (K:W.Frag) (C:Addr) (ns:List Str):Prop where
 cl:Cls K C
 na:∀ f ∈ ns,rn K C f
noncomputable def ixF:List Str->Str->Option Nat
 | [],_=>none
 | n :: ns,f=>if n=f then some 0 else (ixF ns f).map (· + 1)
theorem wq {α:Type} {f:Str}:∀ {ns:List Str} {xs:List α} {i:Nat},ixF ns f=some i->ns.length=xs.length->(ns.zip xs).lookup f=xs[i]?
 | [],_,_,h,_=>by cases h
 | n :: ns,[],_,_,l=>by simp at l
 | n :: ns,x :: xs,i,h,l=>by
  unfold ixF at h
  by_cases e:n=f
  ·rw [if_pos e] at h
   cases h
   subst e
   simp [List.lookup]
  ·rw [if_neg e] at h
   obtain ⟨j,hj,rfl⟩:=Option.map_eq_some_iff.mp h
   have hne:(f == n)=false:=beq_eq_false_iff_ne.mpr (fun z=>e z.symm)
   show (List.lookup f ((n,x) :: ns.zip xs))=_
   rw [List.lookup,hne]
   simpa using wq hj (by simpa using l)
theorem sk {f:Str}:∀ {ns:List Str} {i:Nat},ixF ns f=some i->f ∈ ns
 | [],_,h=>by cases h
 | n :: ns,i,h=>by
  unfold ixF at h
  by_cases e:n=f
  ·exact e ▸ List.mem_cons_self
  ·rw [if_neg e] at h
   obtain ⟨j,hj,rfl⟩:=Option.map_eq_some_iff.mp h
   exact List.mem_cons_of_mem _ (sk hj)
theorem U8 {f:Str} {y:V}:∀ {ns:List Str} {xs:List V} {i:Nat},ixF ns f=some i->ns.length=xs.length->putF f y (ns.zip xs)=ns.zip (xs.set i y)
 | [],_,_,h,_=>by cases h
 | n :: ns,[],_,_,l=>by simp at l
 | n :: ns,x :: xs,i,h,l=>by
  unfold ixF at h
  show (if n=f then (n,y) :: ns.zip xs else (n,x) :: putF f y (ns.zip xs))=_
  by_cases e:n=f
  ·rw [if_pos e] at h ⊢
   cases h
   rfl
  ·rw [if_neg e] at h ⊢
   obtain ⟨j,hj,rfl⟩:=Option.map_eq_some_iff.mp h
   rw [U8 hj (by simpa using l)]
   rfl
variable {Γ:Hp->Prop} {l:Nat}
section
variable {X:Cx} {x f:Str} {e ke:Expr} {es:List Expr} {te tk:TD} {np apos cpos pos pos':Pos} {C:Addr} {ns:List Str}
theorem zr (hN:X.N[l]?=some x:=by rfl) (hv:Vis X.env.scope x:=by first | exact Or.inl rfl | exact Or.inr (Or.inl rfl) | exact Or.inr (Or.inr rfl)) (hd:(x == ("__debug__" : Str))=false:=by decide)
  (hcd:(x == ("__classdict__" : Str))=false:=by decide):EPQ Γ l X (.Name x pos) Jg:=fun H₀=>impE (wt hN hv hd hcd) fun σ H Q q=>by
 obtain ⟨ρ,o,A,d,v,S,φ,hφ,k⟩:=q
 exact ⟨v,S.hv,k v [] H (Same.refl H) rfl hφ⟩
noncomputable def pFld (l:Nat) (C:Addr) (ns:List Str) (f:Str) (tp:TP):TP:=fun ρ φ=>tp ρ fun π=>∃ d ds,slot ρ l=some (dv d) /\ atQ π d=some (.ob C ns ds) /\ (match ixF ns f with
 | some i=>φ (π ++ [i])
 | none=>False)
theorem x3 (O:CO X.K C ns) (hp:EPQ Γ l X e tp) (hb:attributeBase e f X.env (eval e X.env)=eval e X.env:=by rfl):EPQ Γ l X (.Attribute e f pos) (pFld l C ns f tp):=fun H₀=>impE (Lf (hp H₀) hb) fun σ H Q q=>by
 obtain ⟨ρ,o,A,d,v,S,φ,hφ,k⟩:=q
 refine ⟨ρ,o,A,d,v,S,_,hφ,fun u π H1 s1 vp h1=>?_⟩
 obtain ⟨d',ds,es,ea,h1⟩:=h1
 have e2:some (dv d')=some (dv d):=by rw [<- es]; exact xc S.hd
 cases e2
 split at h1
 ·rename_i i ei
  obtain ⟨w,A1,vw,f1,_⟩:=(S.to s1).focQ ea
  have:=vp.fn vw
  subst this
  obtain ⟨a,dx,xs,B,rfl,q,ln,n,rfl,r⟩:=f1
  have lx:ns.length=xs.length:=by rw [ln,r.length]
  have hi:i < xs.length:=by
   have:=wq (xs:=ns) ei rfl
   rcases Nat.lt_or_ge i xs.length with z | z
   ·exact z
   ·have e3:=wq (xs:=xs) ei lx
    rw [List.getElem?_eq_none z] at e3
    exfalso
    have hm:=sk ei
    rw [List.getElem?_eq_none (by omega)] at this
    have:∀ ns:List Str,f ∈ ns->(ns.zip ns).lookup f ≠ none:=fun ns=>by
     induction ns with
     | nil=>intro h; cases h
     | cons a r ih =>
      intro h
      rw [List.zip_cons_cons,List.lookup]
      cases q:(f == a) with
      | true=>exact fun z=>by cases z
      | false =>
       rcases List.mem_cons.mp h with h | h
       ·rw [h] at q; simp at q
       ·exact ih h
    exact this ns hm (by assumption)
  have ey:xs[i]?=some xs[i]:=List.getElem?_eq_getElem hi
  exact ⟨a,C,dx,_,xs[i],rfl,q,O.cl,O.na f (sk ei),by rw [wq ei lx]; exact ey,k _ _ H1 s1 (vp.snoc (.inr (.inr ⟨C,dx,ns,q,lx⟩)) ey) h1⟩
 ·exact h1.elim
noncomputable def pIxQ (l:Nat) (tp:TP) (tk:TD):TP:=fun ρ φ=>tp ρ fun π=>tk ρ fun kr=>∃ d d1 ds i j,slot ρ l=some (dv d) /\ atQ π d=some d1 /\ (match d1 with
 | .lst es=>es=ds
 | .tup es=>es=ds
 | _=>False) /\ kr.d=.int i /\ ixN ds.length i=some j /\ φ (π ++ [j])
theorem Ze (hp:EPQ Γ l X e tp) (hk:ED Γ X ke tk) (hs:Vm ke:=by intro _ _; rfl):EPQ Γ l X (.Subscript e ke pos) (pIxQ l tp tk):=fun H₀=>impE (E1 Lk (hp H₀) (hk H₀) hs) fun σ H Q q=>by
 obtain ⟨ρ,o,A,d,v,S,φ,hφ,k⟩:=q
 refine ⟨ρ,o,A,d,v,S,_,hφ,fun u π H1 s1 vp h1=>⟨ρ,o,(S.to s1).R,_,h1,fun w r H2 s2 rv h2=>?_⟩⟩
 obtain ⟨d',d1,ds,i,j,es,ea,em,ei,ej,h2⟩:=h2
 have e2:some (dv d')=some (dv d):=by rw [<- es]; exact xc S.hd
 cases e2
 obtain ⟨b,A1,vb,f1,_⟩:=(S.to (s1.trans s2)).focQ ea
 have:=(vp.to s2).fn vb
 subst this
 have vw:=rv.view
 rw [ei] at vw
 cases (show w=_ from vw)
 have hj:=(Ww ej).2.1
 split at em
 ·subst em
  obtain ⟨a,ys,B,rfl,q,rfl,fs⟩:=f1
  have hl:=fs.length
  obtain ⟨y,ey⟩:∃ y,ys[j]?=some y:=⟨ys[j]'(by omega),by simp [show j < ys.length by omega]⟩
  refine .inl ⟨a,ys,i,y,rfl,rfl,SqL.of q,?_,k _ _ H2 (s1.trans s2) (vb.snoc (.inl q) ey) h2⟩
  unfold atI
  rw [hl,ej]
  exact ey
 ·subst em
  obtain ⟨a,ys,rfl,q,fs⟩:=f1
  have hl:=fs.length
  obtain ⟨y,ey⟩:∃ y,ys[j]?=some y:=⟨ys[j]'(by omega),by simp [show j < ys.length by omega]⟩
  refine .inr (.inl ⟨a,ys,i,y,rfl,rfl,q.1,?_,k _ _ H2 (s1.trans s2) (vb.snoc (.inr (.inl q.2)) ey) h2⟩)
  unfold atI
  rw [hl,ej]
  exact ey
 ·exact em.elim
end
mutual
theorem Ft.uniq {K:W.Frag} {H:Hp}:∀ (d:D) (v:V) (A B:List Addr),Ft K H d v A->Ft K H d v B->A=B
 | .lst ds,v,A,B,h,g=>by
  obtain ⟨a,xs,A',rfl,q,rfl,r⟩:=h
  obtain ⟨a2,xs2,B',e,q2,rfl,r2⟩:=g
  cases e
  rw [q] at q2
  cases q2
  rw [Fts.uniq ds xs A' B' r r2]
 | .dk ks ds,v,A,B,h,g=>by
  obtain ⟨a,xs,A',rfl,q,l,n,rfl,r⟩:=h
  obtain ⟨a2,xs2,B',e,q2,l2,n2,rfl,r2⟩:=g
  cases e
  rw [q] at q2
  injection q2 with q2
  injection q2 with q2
  have e2:=congrArg (List.map Prod.snd) q2
  rw [wr (by rw [l,r.length]),wr (by rw [l2,r2.length])] at e2
  subst e2
  rw [Fts.uniq ds xs A' B' r r2]
 | .tup ds,v,A,B,h,g=>by
  obtain ⟨a,xs,rfl,q,r⟩:=h
  obtain ⟨a2,xs2,e,q2,r2⟩:=g
  cases e
  have q3:=q.2
  rw [q2.2] at q3
  cases q3
  exact Fts.uniq ds xs A B r r2
 | .ob C ns ds,v,A,B,h,g=>by
  obtain ⟨a,dx,xs,A',rfl,q,l,n,rfl,r⟩:=h
  obtain ⟨a2,dx2,xs2,B',e,q2,l2,n2,rfl,r2⟩:=g
  cases e
  rw [q] at q2
  injection q2 with q2
  injection q2 with _ _ q2
  have e2:=congrArg (List.map Prod.snd) q2
  rw [wr (by rw [l,r.length]),wr (by rw [l2,r2.length])] at e2
  subst e2
  rw [Fts.uniq ds xs A' B' r r2]
 | .non,_,_,_,h,g=>by rw [h.1,g.1]
 | .bl _,_,_,_,h,g=>by rw [h.1,g.1]
 | .int _,_,_,_,h,g=>by rw [h.1,g.1]
 | .str _,_,_,_,h,g=>by rw [h.1,g.1]
 | .ty _,_,_,_,h,g=>by rw [h.1,g.1]
 | .cn _,_,_,_,h,g=>by rw [h.1,g.1]
 | .scr _,_,_,_,h,g=>by rw [h.1,g.1]
 | .dz _,_,_,_,h,g=>by rw [h.1,g.1]
 | .exc _,_,_,_,h,_=>h.elim
 | .fd _,_,_,_,h,_=>h.elim
 | .dt _ _,_,_,_,h,_=>h.elim
theorem Fts.uniq {K:W.Frag} {H:Hp}:∀ (ds:List D) (xs:List V) (A B:List Addr),Fts K H ds xs A->Fts K H ds xs B->A=B
 | [],_,_,_,h,g=>by rw [h.2,g.2]
 | d :: ds,xs,A,B,h,g=>by
  obtain ⟨v,r,A1,A2,rfl,rfl,q,t⟩:=h
  obtain ⟨v',r',B1,B2,e,rfl,q',t'⟩:=g
  cases e
  rw [Ft.uniq d v A1 B1 q q',Fts.uniq ds r A2 B2 t t']
end
section
variable {K:W.Frag} {H₀ H H1:Hp} {σ:St} {ρ:DE} {o:List (Nat × Addr)} {l:Nat} {A:List Addr} {d:D} {v:V}
theorem Fts.setA:∀ {ds:List D} {xs:List V} {A B:List Addr} {i:Nat} {e:D} {u:V},i < ds.length->Fts K H ds xs A->Ft K H e u B->∃ B0 A1 C0,A=B0 ++ A1 ++ C0 /\ Fts K H (ds.set i e) (xs.set i u) (B0 ++ B ++ C0)
 | [],_,_,_,_,_,_,hi,_,_=>by simp at hi
 | d :: ds,xs,A,B,0,e,u,_,h,f=>by
  obtain ⟨v,r,B',C,rfl,rfl,q,t⟩:=h
  exact ⟨[],B',C,rfl,u,r,B,C,rfl,rfl,f,t⟩
 | d :: ds,xs,A,B,i + 1,e,u,hi,h,f=>by
  obtain ⟨v,r,B',C,rfl,rfl,q,t⟩:=h
  obtain ⟨B0,A1,C0,rfl,t'⟩:=Fts.setA (i:=i) (by simpa using hi) t f
  exact ⟨B' ++ B0,A1,C0,by simp,v,_,B',B0 ++ B ++ C0,rfl,by simp,q,t'⟩
theorem Gk {A B B0 A1 C0:List Addr} {P:Addr->Prop} (e:A=B0 ++ A1 ++ C0) (nA:A.Nodup) (nB:B.Nodup) (dis:∀ a ∈ B,a ∉ A):(B0 ++ B ++ C0).Nodup /\ ∀ a ∈ B0 ++ B ++ C0,a ∈ A \/ a ∈ B:=by
 subst e
 have n1:=List.nodup_append.mp nA
 have n2:=List.nodup_append.mp n1.1
 refine ⟨?_,fun a ha=>?_⟩
 ·rw [List.nodup_append,List.nodup_append]
  refine ⟨⟨n2.1,nB,fun x hx y hy e=>?_⟩,n1.2.1,fun x hx y hy e=>?_⟩
  ·subst e; exact dis x hy (by simp [hx])
  ·subst e
   rcases List.mem_append.mp hx with hx | hx
   ·exact n1.2.2 x (List.mem_append_left _ hx) x hy rfl
   ·exact dis x hx (by simp [hy])
 ·rw [List.mem_append,List.mem_append] at ha
  rcases ha with (ha | ha) | ha
  ·exact .inl (by simp [ha])
  ·exact .inr ha
  ·exact .inl (by simp [ha])
theorem ST.putH (S:ST K H₀ H σ ρ o l A d v) {π:List Nat} {d1 e:D} {b:Addr} {At A1':List Addr} {es':List D} {zs:List V} {ho:HO} (h:atQ π d=some d1) (f:Ft K H d1 (.ref b) (b :: At)) (nA:(b :: At).Nodup)
  (hu:∀ u A1,valQ H π v u->Ft K H d1 u A1->A1.Nodup->u=.ref b /\ A1=b :: At) (s:Same H H1) (f':Fts K H1 es' zs A1') (nd':A1'.Nodup) (fr:∀ a ∈ A1',a ∈ At \/ H a=none) (nt:∀ xs,ho ≠ .tup xs) (nz:∀ ob w,ho ≠ .frz ob w)
  (mk:∀ H',H' b=some ho->Fts K H' es' zs A1'->Ft K H' e (.ref b) (b :: A1')):∃ A',ST K H₀ (upd H1 b ho) σ (setS ρ l (dv (putQ π d e))) o l A' (putQ π d e) v /\ Grow A A' H (upd H1 b ho) /\ ∀ a ∈ At,a ∉ A1'->a ∉ A':=by
 obtain ⟨u,A1,hv,f1,n1,sub,dm,kk⟩:=S.focQ h
 obtain ⟨rfl,rfl⟩:=hu u A1 hv f1 n1
 have nb:=List.nodup_cons.mp nA
 have hb:H b ≠ none:=dm b List.mem_cons_self
 have bn:b ∉ A1':=fun z=>(fr b z).elim nb.1 hb
 obtain ⟨x,hx,nx1,nx2⟩:=Ft.dom _ _ _ f1 b List.mem_cons_self
 have hb1:=s _ _ hx
 have gt:Gt H1 (upd H1 b ho):=⟨fun c xs hc=>by rw [y0 (fun z=>by subst z; rw [hb1] at hc; cases hc; exact nx1 _ rfl)]; exact hc,fun c ob w hc=>by rw [y0 (fun z=>by subst z; rw [hb1] at hc; cases hc; exact nx2 _ _ rfl)]; exact hc⟩
 obtain ⟨A',S',g,out⟩:=kk (upd H1 b ho) e (b :: A1') (fun c x hc hn=>by rw [y0 (fun z=>hn (by rw [z]; exact List.mem_cons_self))]; exact s _ _ hc)
  (mk _ zi (Fts.keep gt _ _ _ (fun a ha x hx=>by rw [y0 (fun z=>bn (by rw [<- z]; exact ha))]; exact hx) f')) (List.nodup_cons.mpr ⟨bn,nd'⟩) (fun a ha=>by
   rcases List.mem_cons.mp ha with rfl | ha
   ·exact .inl List.mem_cons_self
   ·exact (fr a ha).imp (fun z=>List.mem_cons_of_mem _ z) id)
 refine ⟨A',S',g,fun a ha na=>out a (List.mem_cons_of_mem _ ha) fun z=>?_⟩
 rcases List.mem_cons.mp z with rfl | z
 ·exact nb.1 ha
 ·exact na z
theorem ST.atL (S:ST K H₀ H σ ρ o l A d v) {π:List Nat} {es:List D} (h:atQ π d=some (.lst es)):∃ b ys At,valQ H π v (.ref b) /\ H b=some (.lst ys) /\ Fts K H es ys At /\ At.Nodup /\ (∀ a ∈ At,H a ≠ none) /\ (∀ a ∈ At,a ∈ A) /\
  ∀ H1 es' zs A1',Same H H1->Fts K H1 es' zs A1'->A1'.Nodup->(∀ a ∈ A1',a ∈ At \/ H a=none)->∃ A',ST K H₀ (upd H1 b (.lst zs)) σ (setS ρ l (dv (putQ π d (.lst es')))) o l A' (putQ π d (.lst es')) v /\ Grow A A' H (upd H1 b (.lst zs)) /\ ∀ a ∈ At,a ∉ A1'->a ∉ A':=by
 obtain ⟨u,A1,hv,f1,n1,sub,dm,kk⟩:=S.focQ h
 obtain ⟨b,ys,At,rfl,q,rfl,fs⟩:=f1
 refine ⟨b,ys,At,hv,q,fs,(List.nodup_cons.mp n1).2,fun a ha=>dm a (List.mem_cons_of_mem _ ha),fun a ha=>sub a (List.mem_cons_of_mem _ ha),fun H1 es' zs A1' s f' nd' fr=>?_⟩
 have:=S.putH (e:=.lst es') (ho:=.lst zs) h ⟨b,ys,At,rfl,q,rfl,fs⟩ n1 (fun u A2 hv2 f2 n2=>by
  cases hv.fn hv2
  obtain ⟨b2,ys2,At2,e,q2,rfl,fs2⟩:=f2
  cases e
  rw [q] at q2
  cases q2
  exact ⟨rfl,by rw [Fts.uniq es ys At At2 fs fs2]⟩) s f' nd' fr (fun _ z=>by cases z) (fun _ _ z=>by cases z) (fun H' hb f=>⟨b,zs,A1',rfl,hb,rfl,f⟩)
 exact this
end
end DL
namespace DL
open PySem PySem.Spec L2 L3
open PyProof.Rows hiding St
variable {Γ:Hp->Prop} {l:Nat}
section
variable {X:Cx} {x f:Str} {e ke oe:Expr} {es:List Expr} {te tk:TD} {np apos cpos pos pos':Pos} {C:Addr} {ns:List Str}
noncomputable def dFld (C:Addr) (ns:List Str) (f:Str) (te:TD):TD:=fun ρ φ=>te ρ fun r=>match r.d with
 | .ob C' ns' ds=>C'=C /\ ns'=ns /\ (match ixF ns f with
  | some i=>(match ds[i]? with
   | some x=>φ (dv x)
   | none=>False)
  | none=>False)
 | _=>False
theorem wg (O:CO X.K C ns) (he:ED Γ X e te) (hb:attributeBase e f X.env (eval e X.env)=eval e X.env:=by rfl):ED Γ X (.Attribute e f pos) (dFld C ns f te):=fun H₀=>impE (Lf (he H₀) hb) fun σ H Q q=>by
 obtain ⟨ρ,o,R,φ,hφ,k⟩:=q
 refine ⟨ρ,o,R,_,hφ,fun v r H1 s1 rv h1=>?_⟩
 have vw:=rv.view
 obtain ⟨kd,d⟩:=r
 cases d with
 | ob C' ns' ds =>
  obtain ⟨rfl,rfl,h1⟩:=h1
  obtain ⟨a,dx,xs,rfl,q,_,ln,nd,rr⟩:=vw
  split at h1
  ·rename_i i ei
   split at h1
   ·rename_i y ey
    obtain ⟨w,ew,rw'⟩:=rr.get ey
    exact ⟨a,_,dx,_,w,rfl,q,O.cl,O.na f (sk ei),by rw [wq ei (by rw [ln,rr.length])]; exact ew,k _ (dv y) H1 s1 rw' h1⟩
   ·exact h1.elim
  ·exact h1.elim
 | _=>exact h1.elim
noncomputable def frs2:EV->Prop
 | ⟨.fre,.dk _ ds⟩=>zu ds
 | r=>frs r
theorem P3 {K:W.Frag} {H H':Hp} {O:List Addr} {r:EV} {v:V} (h:RV K H H' O r v) (p:frs2 r):∃ B,Ft K H' r.d v B /\ B.Nodup /\ ∀ b ∈ B,H b=none:=by
 unfold frs2 at p
 split at p
 ·obtain ⟨a,rfl,m,n,xs,hx,ln,nd,rr⟩:=h
  exact ⟨[a],⟨a,xs,[],rfl,hx,ln,nd,rfl,Reps.fts _ _ p rr⟩,by simp,fun b hb=>by rw [List.mem_singleton.mp hb]; exact m⟩
 ·exact D7 h p
noncomputable def fE2 (te:TD):TF:=fun ρ φ=>te ρ fun r=>frs2 r /\ φ r.d
theorem yd (he:ED Γ X e te):EF Γ l X e (fE2 te):=fun H₀=>impE (he H₀) fun σ H Q q=>by
 obtain ⟨ρ,o,A,d,v,S,φ,hφ,k⟩:=q
 refine ⟨ρ,o,S.R,_,hφ,fun u r H1 s1 rv h1=>?_⟩
 obtain ⟨B,f,nd,fr⟩:=P3 rv h1.1
 exact k u r.d B H1 s1 f nd fr h1.2
noncomputable def fTup (t:TFs):TF:=fun ρ φ=>t ρ fun ds=>ds.length <= 1000 /\ φ (.tup ds)
theorem Dh {t:TFs} {x1} (h:EFs Γ l X es t):EF Γ l X (.Tuple es x1 pos) (fTup t):=fun H₀=>impE (gw (h H₀)) fun σ H Q q=>by
 obtain ⟨ρ,o,A,d,v,S,φ,hφ,k⟩:=q
 refine ⟨ρ,o,A,d,v,S,_,hφ,fun us es1 B H1 s1 f nd fr h1=>⟨by rw [f.length,sizeLine_eq]; omega,fun p hp=>?_⟩⟩
 have n:=zw hp (HO.tup us)
 exact k (.ref p) (.tup es1) B _ (s1.trans n) ⟨p,us,rfl,⟨SqT.of zi,zi⟩,Fts.keep (Gt.same n) _ _ _ (fun a _ x hx=>n _ _ hx) f⟩ nd fr h1.2
noncomputable def qFld (l:Nat) (C:Addr) (ns:List Str) (f:Str) (tp:TP) (tf:TF):TQS:=fun ρ Z=>tf ρ fun x=>tp ρ fun π=>∃ d ds,slot ρ l=some (dv d) /\ atQ π d=some (.ob C ns ds) /\ ns.length <= 100 /\ (match ixF ns f with
 | some i=>Z.nx (setS ρ l (dv (putQ π d (.ob C ns (ds.set i x)))))
 | none=>False)
theorem U7 (O:CO X.K C ns) (hp:EPQ Γ l X oe tp) (he:EF Γ l X e tf) (hs:swapsWith e (some (.Attribute oe f pos')) pos.line X.env=pure false:=by rfl):QS Γ l X (.Assign [.Attribute oe f pos'] e pos) (qFld l C ns f tp tf):=fun H₀=>impS (Lc (hp H₀) (he H₀) hs) fun Dz σ H h=>by
 obtain ⟨ρ,o,A,d,v,S,Z,hZ,k1,k2,k3,k4⟩:=h
 refine ⟨ρ,o,A,d,v,S,_,hZ,fun w y B H1 s1 fy nB frB h1=>⟨ρ,o,A,d,v,S.to s1,_,h1,fun u π H2 s2 vp h2=>?_⟩⟩
 obtain ⟨d',ds,es,ea,hn,h2⟩:=h2
 have e2:some (dv d')=some (dv d):=by rw [<- es]; exact xc S.hd
 cases e2
 split at h2
 ·rename_i i ei
  obtain ⟨u',A1,hv,f1,n1,sub,dm,_⟩:=S.focQ ea
  have s12:=s1.trans s2
  cases (vp.fn (hv.to s12))
  obtain ⟨b,dx,xs,At,rfl,q,ln,nd,rfl,fs⟩:=f1
  have lx:ns.length=xs.length:=by rw [ln,fs.length]
  have hi:i < ds.length:=by
   have e3:=wq (xs:=ds) ei ln
   rcases Nat.lt_or_ge i ds.length with z | z
   ·exact z
   ·exfalso
    have hm:=sk ei
    have:∀ (ns:List Str) (ds:List D),ns.length=ds.length->f ∈ ns->(ns.zip ds).lookup f ≠ none:=fun ns=>by
     induction ns with
     | nil=>intro _ _ h; cases h
     | cons a r ih =>
      intro ds l h
      cases ds with
      | nil=>simp at l
      | cons d ds =>
       rw [List.zip_cons_cons,List.lookup]
       cases q:(f == a) with
       | true=>exact fun z=>by cases z
       | false =>
        rcases List.mem_cons.mp h with h | h
        ·rw [h] at q; simp at q
        ·exact ih ds (by simpa using l) h
    exact this ns ds ln hm (by rw [e3]; exact List.getElem?_eq_none z)
  have fs2:Fts X.K H2 ds xs At:=Fts.keep (Gt.same s12) _ _ _ (fun a _ x hx=>s12 _ _ hx) fs
  have fy2:Ft X.K H2 y w B:=Ft.keep (Gt.same s2) _ _ _ (fun a _ x hx=>s2 _ _ hx) fy
  obtain ⟨B0,A1,C0,eA,f3⟩:=Fts.setA hi fs2 fy2
  have ndc:=List.nodup_cons.mp n1
  obtain ⟨n3,m3⟩:=Gk (P:=fun _=>True) eA ndc.2 nB (fun a ha z=>dm a (List.mem_cons_of_mem _ z) (frB a ha))
  obtain ⟨A',S',g,_⟩:=S.putH (e:=.ob C ns (ds.set i y)) (ho:=.ins C dx (ns.zip (xs.set i w))) ea ⟨b,dx,xs,At,rfl,q,ln,nd,rfl,fs⟩ n1 (fun u A2 hv2 f2 n2=>by
   cases hv.fn hv2
   exact ⟨rfl,Ft.uniq _ _ _ _ f2 ⟨b,dx,xs,At,rfl,q,ln,nd,rfl,fs⟩⟩) s12 f3 n3 (fun a ha=>(m3 a ha).imp id (frB a)) (fun _ z=>by cases z) (fun _ _ z=>by cases z) (fun H' hb f=>⟨b,dx,_,_,rfl,hb,by rw [List.length_set]; exact ln,nd,rfl,f⟩)
  refine ⟨b,C,dx,_,rfl,s12 _ _ q,O.cl,O.na f (sk ei),by rw [List.length_zip]; omega,?_⟩
  rw [U8 ei lx]
  exact k1 _ _ _ _ _ _ S' h2
 ·exact h2.elim
noncomputable def Fg (l:Nat) (tp:TP) (tf:TF):TQS:=fun ρ Z=>tp ρ fun π=>∃ d ds,slot ρ l=some (dv d) /\ atQ π d=some (.lst ds) /\ ds.length <= 100000 /\ tf ρ fun f=>Z.nx (setS ρ l (dv (putQ π d (.lst (ds ++ [f])))))
theorem x4 (hp:EPQ Γ l X oe tp) (he:EF Γ l X e tf)
  (hpp:∀ {ta tb:TE},PE X oe ta->PE X e tb->PS X (.Expr (.Call (.Attribute oe "append" apos) [e] [] cpos) pos) (Z4 (tBM X.K "list" qy ta (rq tb tNil))):=by
   intro ta tb h1 h2
   exact vo (Xm PySem.F.plainAttrs_list PySem.F.slot_list_append PySem.F.type_list_append u3 h1 (yo h2 wu))) :
  QS Γ l X (.Expr (.Call (.Attribute oe "append" apos) [e] [] cpos) pos) (Fg l tp tf):=fun H₀=>impS (hpp (hp H₀) (he H₀)) fun Dz σ H h=>by
 obtain ⟨ρ,o,A,d,v,S,Z,hZ,k1,k2,k3,k4⟩:=h
 refine ⟨ρ,o,A,d,v,S,_,hZ,fun u π H1 s1 vp h1=>?_⟩
 have S1:=S.to s1
 obtain ⟨d',ds,es,ea,hl,h1⟩:=h1
 have e2:some (dv d')=some (dv d):=by rw [<- es]; exact xc S.hd
 cases e2
 obtain ⟨b,ys,A1,vb,hb,fs,n1,dm,sub,kk⟩:=S1.atL ea
 have:=vp.fn vb
 subst this
 refine ⟨.inl ⟨rfl,_,SqL.of hb⟩,ρ,o,A,d,v,S1,_,h1,fun w f B H2 s2 ff nd fr h2=>?_⟩
 have f1:Fts X.K H2 ds ys A1:=Fts.keep (Gt.same s2) _ _ _ (fun a _ x hx=>s2 _ _ hx) fs
 obtain ⟨A',S',g,_⟩:=kk H2 (ds ++ [f]) (ys ++ [w]) (A1 ++ B) s2 (f1.app ⟨w,[],B,[],rfl,by simp,ff,rfl,rfl⟩) (by
   rw [List.nodup_append]
   refine ⟨n1,nd,fun a ha b hb e=>?_⟩
   subst e
   exact dm a ha (fr a hb)) (fun a ha=>(List.mem_append.mp ha).imp id (fr a))
 refine ⟨b,ys,w,rfl,rfl,s2 _ _ hb,?_,k1 _ _ _ _ _ _ S' h2⟩
 rw [fs.length]
 exact Nat.lt_of_le_of_lt hl (by decide)
noncomputable def Ky (l:Nat) (tp:TP) (te:TD):TQS:=fun ρ Z=>tp ρ fun π=>∃ d ds,slot ρ l=some (dv d) /\ atQ π d=some (.lst ds) /\ ds.length <= 100000 /\ te ρ fun r=>match r.d with
 | .lst gs=>zu gs /\ gs.length <= 1000 /\ Z.nx (setS ρ l (dv (putQ π d (.lst (ds ++ gs)))))
 | _=>False
theorem Kv (hp:EPQ Γ l X oe tp) (he:ED Γ X e te)
  (hpp:∀ {ta tb:TE},PE X oe ta->PE X e tb->PS X (.Expr (.Call (.Attribute oe "extend" apos) [e] [] cpos) pos) (Z4 (tBM X.K "list" Xi ta (rq tb tNil))):=by
   intro ta tb h1 h2
   exact vo (Xm PySem.F.plainAttrs_list PySem.F.slot_list_extend PySem.F.type_list_extend Zj h1 (yo h2 wu))) :
  QS Γ l X (.Expr (.Call (.Attribute oe "extend" apos) [e] [] cpos) pos) (Ky l tp te):=fun H₀=>impS (hpp (hp H₀) (he H₀)) fun Dz σ H h=>by
 obtain ⟨ρ,o,A,d,v,S,Z,hZ,k1,k2,k3,k4⟩:=h
 refine ⟨ρ,o,A,d,v,S,_,hZ,fun u π H1 s1 vp h1=>?_⟩
 have S1:=S.to s1
 obtain ⟨d',ds,es,ea,hl,h1⟩:=h1
 have e2:some (dv d')=some (dv d):=by rw [<- es]; exact xc S.hd
 cases e2
 obtain ⟨b,ys,A1,vb,hb,fs,n1,dm,sub,kk⟩:=S1.atL ea
 have:=vp.fn vb
 subst this
 refine ⟨.inl ⟨rfl,_,SqL.of hb⟩,ρ,o,S1.R,_,h1,fun w r H2 s2 rv h2=>?_⟩
 have vw:=rv.view
 obtain ⟨kd,rd⟩:=r
 cases rd with
 | lst gs =>
  obtain ⟨pg,lg,h2⟩:=h2
  obtain ⟨c,zs,rfl,hc,rc⟩:=vw
  have f1:Fts X.K H2 ds ys A1:=Fts.keep (Gt.same s2) _ _ _ (fun a _ x hx=>s2 _ _ hx) fs
  obtain ⟨A',S',g,_⟩:=kk H2 (ds ++ gs) (ys ++ zs) (A1 ++ []) s2 (f1.app (Reps.fts _ _ pg rc)) (by rw [List.append_nil]; exact n1) (fun a ha=>by rw [List.append_nil] at ha; exact .inl ha)
  refine ⟨b,c,ys,zs,rfl,rfl,s2 _ _ hb,hc,?_,k1 _ _ _ _ _ _ S' h2⟩
  rw [fs.length,rc.length,sizeLine_eq]
  omega
 | _=>exact h2.elim
noncomputable def Fd (l:Nat) (tp:TP) (tk te:TD):TQS:=fun ρ Z=>te ρ fun r=>zh r.d /\ tp ρ fun π=>tk ρ fun kr=>∃ d ds i j,slot ρ l=some (dv d) /\ atQ π d=some (.lst ds) /\ kr.d=.int i /\ ixN ds.length i=some j /\ Z.nx (setS ρ l (dv (putQ π d (.lst (ds.set j r.d)))))
theorem k5 (hp:EPQ Γ l X oe tp) (hk:ED Γ X ke tk) (he:ED Γ X e te) (hs:swapsWithSole [.Subscript oe ke pos'] e pos.line X.env=pure false:=by rfl) (hw:swappedStores [.Subscript oe ke pos'] e X.env=pure none:=by rfl)
  (h1:(assignEach [.Subscript oe ke pos'] X.env).map (·.2)=[assign (.Subscript oe ke pos') X.env]:=by rfl)
  (ha:∀ v,assign (.Subscript oe ke pos') X.env v=(do
   let ov <- holding [v] (eval oe X.env)
   let iv <- holding [v,ov] (eval ke X.env)
   standAt pos'
   holding [v,ov,iv] (setItem ov iv v)
   release [v,ov,iv] []):=by intro _; rfl):QS Γ l X (.Assign [.Subscript oe ke pos'] e pos) (Fd l tp tk te):=fun H₀ =>
 impS (Uc (he H₀) (Le (hp H₀) (hk H₀) Vz ha) hs hw h1) fun Dz σ H h=>by
  obtain ⟨ρ,o,A,d,v,S,Z,hZ,k1,k2,k3,k4⟩:=h
  refine ⟨ρ,o,S.R,_,hZ,fun w r H1 s1 rv h1=>⟨ρ,o,A,d,v,S.to s1,_,h1.2,fun u π H2 s2 vp h2=>⟨ρ,o,(S.to (s1.trans s2)).R,_,h2,fun w2 r2 H3 s3 rv2 h3=>?_⟩⟩⟩
  obtain ⟨d',ds,i,j,es,ea,ei,ej,h3⟩:=h3
  have e2:some (dv d')=some (dv d):=by rw [<- es]; exact xc S.hd
  cases e2
  have S3:=S.to ((s1.trans s2).trans s3)
  obtain ⟨b,ys,A1,vb,hb,fs,n1,dm,sub,kk⟩:=S3.atL ea
  have:=(vp.to s3).fn vb
  subst this
  have vw:=rv2.view
  rw [ei] at vw
  cases (show w2=_ from vw)
  have fw:Ft X.K H3 r.d w []:=Rep.ft _ _ h1.1 (Rep.keep (O:=[]) (O':=[]) (Gt.same (s2.trans s3)) _ _ h1.1 rv.view.rep0)
  obtain ⟨A2,sl,f2⟩:=fs.put j fw
  obtain ⟨A',S',g,_⟩:=kk H3 _ _ A2 (Same.refl _) f2 (sl.nodup n1) (fun a ha=>.inl (sl.subset ha))
  exact ⟨b,ys,i,j,rfl,rfl,hb,by rw [fs.length]; exact ej,k1 _ _ _ _ _ _ S' h3⟩
end
section
variable {K:W.Frag} {H₀ H:Hp} {σ:St} {ρ:DE} {o:List (Nat × Addr)} {l:Nat} {A:List Addr} {d:D} {v:V}
theorem Fts.last:∀ {ds:List D} {xs:List V} {A:List Addr},Fts K H ds xs A->ds ≠ []->∃ e u A2 Ae,ds[ds.length - 1]?=some e /\ xs[xs.length - 1]?=some u /\ A=A2 ++ Ae /\ Fts K H ds.dropLast xs.dropLast A2 /\ Ft K H e u Ae
 | [],_,_,_,h=>absurd rfl h
 | [d],xs,A,h,_=>by
  obtain ⟨v,r,B,C,rfl,rfl,q,t⟩:=h
  obtain ⟨rfl,rfl⟩:=t
  exact ⟨d,v,[],B,rfl,rfl,by simp,⟨rfl,rfl⟩,q⟩
 | d :: d' :: ds,xs,A,h,_=>by
  obtain ⟨v,r,B,C,rfl,rfl,q,t⟩:=h
  obtain ⟨e,u,A2,Ae,e1,e2,rfl,f,fe⟩:=Fts.last t (by simp)
  obtain ⟨v',r',_,_,rfl,_⟩:=t
  exact ⟨e,u,B ++ A2,Ae,by simpa using e1,by simpa using e2,by simp,⟨v,_,B,A2,rfl,rfl,q,f⟩,fe⟩
theorem ST.setR (S:ST K H₀ H σ ρ o l A d v) {j:Nat} {e:D} {w:V} (hj:j ≠ l) (h:Rep K H (o.map Prod.snd ++ A) e w):ST K H₀ H (σ.set j (some w)) (setS ρ j (dv e)) o l A d v:=by
 refine ⟨?_,?_,?_,S.ft⟩
 ·rw [uf _ _ hj]; exact S.Q.setV j (by rw [xf]; exact h)
 ·rw [xq,List.getElem?_set_ne hj]; exact S.hd
 ·rw [List.getElem?_set_ne hj]; exact S.hv
theorem uz {α:Type} {f:Str}:∀ {ns:List Str} {xs:List α},f ∉ ns->(ns.zip xs).lookup f=none
 | [],_,_=>rfl
 | n :: ns,[],_=>rfl
 | n :: ns,x :: xs,h=>by
  rw [List.zip_cons_cons,List.lookup,beq_eq_false_iff_ne.mpr (fun z=>h (by rw [z]; exact List.mem_cons_self))]
  exact uz fun z=>h (List.mem_cons_of_mem _ z)
theorem U9 {f:Str} {y:V}:∀ {ns:List Str} {xs:List V},f ∉ ns->ns.length=xs.length->putF f y (ns.zip xs)=(ns ++ [f]).zip (xs ++ [y])
 | [],[],_,_=>rfl
 | [],_ :: _,_,h=>by simp at h
 | _ :: _,[],_,h=>by simp at h
 | n :: ns,x :: xs,h,l=>by
  show (if n=f then (n,y) :: ns.zip xs else (n,x) :: putF f y (ns.zip xs))=_
  rw [if_neg (fun z=>h (by rw [z]; exact List.mem_cons_self)),U9 (fun z=>h (List.mem_cons_of_mem _ z)) (by simpa using l)]
  rfl
end
section
variable {X:Cx} {x y f m:Str} {e ke oe:Expr} {es:List Expr} {te tk:TD} {np apos cpos pos pos':Pos} {C:Addr} {ns:List Str} {t:TQs} {T:FTQ} {k:Nat} {ps:List Str}
noncomputable def Q6 (l j:Nat) (tp:TP):TQS:=fun ρ Z=>tp ρ fun π=>∃ d ds e,slot ρ l=some (dv d) /\ atQ π d=some (.lst ds) /\ ds[ds.length - 1]?=some e /\ Z.nx (setS (setS ρ l (dv (putQ π d (.lst ds.dropLast)))) j (dv e))
theorem Zd (j:Nat) (hj:j ≠ l) (hN:X.N.Nodup) (hp:EPQ Γ l X oe tp) (hi:X.N[j]?=some x:=by rfl) (hx:Loc X.env.scope x:=by first | exact Or.inl rfl | exact Or.inr rfl)
  (hs:swapsWith (.Call (.Attribute oe "pop" apos) [] [] cpos) (some (.Name x pos')) pos.line X.env=pure false:=by rfl) (hf:X.fn x=true \/ X.env.scope.names.lookup x=some .local:=by first | exact .inl rfl | exact .inr rfl | assumption)
  (hpp:∀ {ta:TE},PE X oe ta->PE X (.Call (.Attribute oe "pop" apos) [] [] cpos) (tBM0 X.K "list" rPop ta):=by
   intro ta h1
   exact Ug PySem.F.plainAttrs_list PySem.F.slot_list_pop PySem.F.type_list_pop Uk h1) :
  QS Γ l X (.Assign [.Name x pos'] (.Call (.Attribute oe "pop" apos) [] [] cpos) pos) (Q6 l j tp):=fun H₀=>impS (rg hN hi hx (hpp (hp H₀)) hs hf) fun Dz σ H h=>by
 obtain ⟨ρ,o,A,d,v,S,Z,hZ,k1,k2,k3,k4⟩:=h
 refine ⟨ρ,o,A,d,v,S,_,hZ,fun u π H1 s1 vp h1=>?_⟩
 have S1:=S.to s1
 obtain ⟨d',ds,e,es,ea,ee,h1⟩:=h1
 have e2:some (dv d')=some (dv d):=by rw [<- es]; exact xc S.hd
 cases e2
 obtain ⟨b,ys,At,vb,hb,fs,n1,dm,sub,kk⟩:=S1.atL ea
 have:=vp.fn vb
 subst this
 obtain ⟨e',w,A2,Ae,e1,ew,rfl,f2,fe⟩:=fs.last (fun z=>by rw [z] at ee; cases ee)
 rw [ee] at e1
 cases e1
 have nd:=List.nodup_append.mp n1
 obtain ⟨A',S',g,out⟩:=kk H1 _ _ A2 (Same.refl _) f2 nd.1 (fun a ha=>.inl (List.mem_append_left _ ha))
 refine ⟨.inl ⟨rfl,_,SqL.of hb⟩,b,ys,w,rfl,rfl,hb,ew,?_⟩
 have dis:∀ a ∈ Ae,a ∉ o.map Prod.snd ++ A':=fun a ha z=>by
  rcases List.mem_append.mp z with z | z
  ·exact S1.dis a (sub a (List.mem_append_right _ ha)) z
  ·exact out a (List.mem_append_right _ ha) (fun y=>nd.2.2 a y a ha rfl) z
 have fe':Ft X.K (upd H1 b (.lst ys.dropLast)) e w Ae:=by
  have g1:Grow [b] [b] H1 (upd H1 b (.lst ys.dropLast)):=O6 hb
  refine Ft.keep g1.gt _ _ _ (fun a ha x hx=>?_) fe
  by_cases hab:a=b
  ·exfalso
   subst hab
   obtain ⟨u2,A3,hv3,f3,_,sub3,_,_⟩:=S1.focQ ea
   cases vb.fn hv3
   obtain ⟨b2,ys2,B2,e2,q2,rfl,r2⟩:=f3
   cases e2
   rw [hb] at q2
   cases q2
   have n3:(a :: B2).Nodup:=by assumption
   rw [Fts.uniq _ _ _ _ r2 fs] at n3
   exact (List.nodup_cons.mp n3).1 (List.mem_append_right _ ha)
  ·rw [y0 hab]; exact hx
 exact k1 _ _ _ _ _ _ (S'.setR hj (Ft.rep _ _ _ dis fe')) h1
structure FM (P:Program) (w:World) (K:W.Frag) (mg:Str->Option Value) (base:Heap) (k:Nat) (C:Addr) (ns:List Str) (m:Str) (ps:List Str) (T:FTQ):Prop where
 ex:∃ f fd,FnOk P w K mg base CX0 k f fd ps (spQ K ps.length T) /\ wz K fd ps [] /\ Meth K C m f
 no:m ∉ ns
noncomputable def Oz (l n:Nat) (C:Addr) (ns:List Str) (T:FTQ) (t:TQs):TQ:=fun ρ φ=>∃ ds,slot ρ l=some (dv (.ob C ns ds)) /\ t ρ fun es ρ1=>match slot ρ1 l with
 | some ⟨.val,d⟩=>Nat.beq (es.length + 1) n=true /\ T d es fun r d'=>φ r (setS ρ1 l (dv d'))
 | _=>False
theorem Zk {H₀:Hp} (no:m ∉ ns):∀ σ H Q,Jp X.K H₀ l (Oz l ps.length C ns T t) σ H Q->Oc C m (spQ X.K ps.length T) [] E0 (tVar l) (Qp X.K H₀ l t) σ H Q:=fun σ H Q q=>by
 obtain ⟨ρ,o,A,d,v,S,φ,⟨ds,es0,hφ⟩,kk⟩:=q
 have e0:some (dv d)=some (dv (.ob C ns ds)):=by rw [<- es0]; exact (xc S.hd).symm
 cases e0
 obtain ⟨a,dx,xs,B,ev,qa,ln,nn,eA,r⟩:=S.ft
 refine ⟨v,S.hv,a,dx,_,ev,qa,uz no,ρ,o,A,_,v,S,_,hφ,fun us rs ρ1 H1 A1 d1 g1 S1 rrs h1=>?_⟩
 have es1:slot ρ1 l=some (dv d1):=xc S1.hd
 rw [es1] at h1
 show spQ X.K ps.length T (v :: (us ++ [])) H1 Q E0
 rw [List.append_nil]
 refine ⟨d1,rs,v,us,A1,_,rfl,Nat.eq_of_beq_eq_true h1.1,S1.ft,S1.ndA,Reps.sub (fun a ha=>List.mem_append_right _ ha) _ _ rrs,h1.2,fun u r d' H' A' g ft nd fr pr rr h2=>?_⟩
 exact kk u r _ H' A' d' (g1.trans g) (S1.chg g ft nd fr) pr rr h2
theorem y7 {pl:Sem Bool} (O:CO X.K C ns) (F:FM X.prog X.w X.K X.mg X.base k C ns m ps T) (hr:Room k X.A) (ha:QA Γ l X (e :: es) t) (hN:X.N[l]?=some y:=by rfl) (hv:Vis X.env.scope y:=by first | exact Or.inl rfl | exact Or.inr (Or.inl rfl) | exact Or.inr (Or.inr rfl)) (hd:(y == ("__debug__" : Str))=false:=by decide) (hcd:(y == ("__classdict__" : Str))=false:=by decide)
  (hst:starEach (e :: es) X.env=(false,eval e X.env) :: starEach es X.env:=by rfl) (hpl:(backTo pos (starEach es X.env)).any (·.1)=false:=by rfl)
  (ht:eval (.Call (.Attribute (.Name y np) m apos) (e :: es) [] pos) X.env=(do
   let ov <- eval (.Name y np) X.env
   standAt apos.atName
   let (f,first) <- holding [ov] (getMethod ov m pl)
   callWith pos f first (backTo pos (starEach (e :: es) X.env)) (backToKw pos (keywordEach [] X.env))):=by rfl) :
  EQ Γ l X (.Call (.Attribute (.Name y np) m apos) (e :: es) [] pos) (Oz l ps.length C ns T t):=fun H₀=>by
 obtain ⟨f,fd,ok,b,hm⟩:=F.ex
 exact impE (Qa (wt hN hv hd hcd) O.cl hm ok hr b .nil Xn (ha H₀) hst hpl ht) (Zk F.no)
theorem Ut {pl:Sem Bool} (O:CO X.K C ns) (F:FM X.prog X.w X.K X.mg X.base k C ns m ps T) (hr:Room k X.A) (hN:X.N[l]?=some y:=by rfl) (hv:Vis X.env.scope y:=by first | exact Or.inl rfl | exact Or.inr (Or.inl rfl) | exact Or.inr (Or.inr rfl)) (hd:(y == ("__debug__" : Str))=false:=by decide) (hcd:(y == ("__classdict__" : Str))=false:=by decide)
  (ht:eval (.Call (.Attribute (.Name y np) m apos) [] [] pos) X.env=(do
   let ov <- eval (.Name y np) X.env
   standAt apos.atName
   let (f,first) <- holding [ov] (getMethod ov m pl)
   callWith pos f first (backTo pos (starEach [] X.env)) (backToKw pos (keywordEach [] X.env))):=by rfl) :
  EQ Γ l X (.Call (.Attribute (.Name y np) m apos) [] [] pos) (Oz l ps.length C ns T Kw):=fun H₀=>by
 obtain ⟨f,fd,ok,b,hm⟩:=F.ex
 refine impE (Ue (wt hN hv hd hcd) O.cl hm ok hr b .nil Xn ht) fun σ H Q q=>?_
 obtain ⟨v,hv',a,dx,fs,e1,q1,l1,z⟩:=Zk F.no σ H Q q
 refine ⟨v,hv',a,dx,fs,e1,q1,l1,?_⟩
 obtain ⟨ρ,o,A,d,v2,S,φ,hφ,k⟩:=z
 exact k [] [] ρ H A d Grow.refl S rfl hφ
noncomputable def qWh (tc:TQb) (tb:TQS):TQS:=fun ρ Z=>∃ (P:DE->Prop) (μ:DE->Nat),P ρ /\ ∀ ρ1,P ρ1->tc ρ1 fun b ρ2=>(b=true->tb ρ2 { nx:=fun ρ3=>P ρ3 /\ μ ρ3 < μ ρ1,rt:=Z.rt }) /\ (b=false->Z.nx ρ2)
theorem Ox {c:Expr} {body:List Stmt} {tc:TQb} {tb:TQS} (hc:QT Γ l X c tc) (hb:QSs Γ l X body tb) (hp:PassesOwn (model X.prog X.w) X.A X.env X.xe:=by exact PassesOwn.never):QS Γ l X (.While c body [] pos) (qWh tc tb):=fun H₀=>impS (Ua hp (hc H₀) (hb H₀)) fun Dz σ H h=>by
 obtain ⟨ρ,o,A,d,v,S,Z,⟨P,μ,hP,turn⟩,k1,k2,k3,k4⟩:=h
 refine ⟨fun m σ' H'=>∃ ρ' o' A' d',ST X.K H₀.1 H' σ' ρ' o' l A' d' v /\ P ρ' /\ μ ρ'=m,⟨_,ρ,o,A,d,S,hP,rfl⟩,?_⟩
 rintro m σ1 H1 ⟨ρ1,o1,A1,d1,S1,p1,rfl⟩
 refine ⟨ρ1,o1,A1,d1,v,S1,_,turn ρ1 p1,fun b ρ2 H2 A2 d2 g2 S2 h2=>?_⟩
 cases b with
 | false =>
  rw [if_neg (by decide)]
  exact k1 _ _ _ _ _ _ S2 (h2.2 rfl)
 | true =>
  rw [if_pos rfl]
  refine ⟨fun σ' H'=>∃ ρ' o' A' d',ST X.K H₀.1 H' σ' ρ' o' l A' d' v /\ P ρ' /\ μ ρ' < μ ρ1,fun σ' H' ⟨ρ',o',A',d',S',p',q'⟩=>⟨_,q',ρ',o',A',d',S',p',rfl⟩,ρ2,o1,A2,d2,v,S2,_,h2.1 rfl,fun ρ3 σ3 H3 o3 A3 d3 S3 h3=>⟨ρ3,o3,A3,d3,S3,h3.1,h3.2⟩,fun _ _ _ _ _ _ _ q=>q.elim,fun _ _ _ _ _ _ _ q=>q.elim,k4⟩
noncomputable def Kx (l:Nat) (C:Addr) (f:Str) (tp:TP) (tf:TF):TQS:=fun ρ Z=>tf ρ fun x=>tp ρ fun π=>∃ d ns ds,slot ρ l=some (dv d) /\ atQ π d=some (.ob C ns ds) /\ ns.length <= 100 /\ f ∉ ns /\ Z.nx (setS ρ l (dv (putQ π d (.ob C (ns ++ [f]) (ds ++ [x])))))
theorem u1 (cl:Cls X.K C) (na:rn X.K C f) (hp:EPQ Γ l X oe tp) (he:EF Γ l X e tf) (hs:swapsWith e (some (.Attribute oe f pos')) pos.line X.env=pure false:=by rfl):QS Γ l X (.Assign [.Attribute oe f pos'] e pos) (Kx l C f tp tf):=fun H₀=>impS (Lc (hp H₀) (he H₀) hs) fun Dz σ H h=>by
 obtain ⟨ρ,o,A,d,v,S,Z,hZ,k1,k2,k3,k4⟩:=h
 refine ⟨ρ,o,A,d,v,S,_,hZ,fun w y B H1 s1 fy nB frB h1=>⟨ρ,o,A,d,v,S.to s1,_,h1,fun u π H2 s2 vp h2=>?_⟩⟩
 obtain ⟨d',ns,ds,es,ea,hn,hf,h2⟩:=h2
 have e2:some (dv d')=some (dv d):=by rw [<- es]; exact xc S.hd
 cases e2
 obtain ⟨u',A1,hv,f1,n1,sub,dm,_⟩:=S.focQ ea
 have s12:=s1.trans s2
 cases (vp.fn (hv.to s12))
 obtain ⟨b,dx,xs,At,rfl,q,ln,nd,rfl,fs⟩:=f1
 have lx:ns.length=xs.length:=by rw [ln,fs.length]
 have fs2:Fts X.K H2 ds xs At:=Fts.keep (Gt.same s12) _ _ _ (fun a _ x hx=>s12 _ _ hx) fs
 have fy2:Ft X.K H2 y w B:=Ft.keep (Gt.same s2) _ _ _ (fun a _ x hx=>s2 _ _ hx) fy
 have ndc:=List.nodup_cons.mp n1
 have nd3:(ns ++ [f]).Nodup:=by
  rw [List.nodup_append]
  refine ⟨nd,by simp,fun a ha c hc e=>?_⟩
  rw [List.mem_singleton.mp hc] at e
  exact hf (e ▸ ha)
 obtain ⟨A',S',g,_⟩:=S.putH (e:=.ob C (ns ++ [f]) (ds ++ [y])) (ho:=.ins C dx ((ns ++ [f]).zip (xs ++ [w]))) (A1':=At ++ B) ea ⟨b,dx,xs,At,rfl,q,ln,nd,rfl,fs⟩ n1 (fun u A2 hv2 f2 n2=>by
  cases hv.fn hv2
  exact ⟨rfl,Ft.uniq _ _ _ _ f2 ⟨b,dx,xs,At,rfl,q,ln,nd,rfl,fs⟩⟩) s12 (fs2.app (es:=[y]) (ys:=[w]) ⟨w,[],B,[],rfl,by simp,fy2,rfl,rfl⟩) (by
   rw [List.nodup_append]
   refine ⟨ndc.2,nB,fun a ha c hc e=>?_⟩
   subst e
   exact dm a (List.mem_cons_of_mem _ ha) (frB a hc)) (fun a ha=>(List.mem_append.mp ha).imp id (frB a)) (fun _ z=>by cases z) (fun _ _ z=>by cases z) (fun H' hb f'=>⟨b,dx,_,_,rfl,hb,by rw [zLa,zLa,ln]; rfl,nd3,rfl,f'⟩)
 refine ⟨b,C,dx,_,rfl,s12 _ _ q,cl,na,by rw [List.length_zip]; omega,?_⟩
 rw [U9 hf lx]
 exact k1 _ _ _ _ _ _ S' h2
end
section
variable {P:Program} {w:World} {K:W.Frag} {mg:Str->Option Value} {base:Heap}
theorem uh {x qual m:Str} {st:Stmt} {f:Addr} {fd:FuncData} {N ps:List Str} {k:Nat} {T:FTQ} {C:Addr} {ns:List Str} (F:Fun K x qual st f fd) (S:zn N ps (zb st)) (b:wz K fd ps []) (hm:Meth K C m f) (no:m ∉ ns)
  (qY:∀ (qZ:Value) (A:Around) (outer:List Env) (s:Shared) (H:Hp) (E:XK) (d:D) (ds:List D) (φ:D->D->Prop),Room k (A.deeper (envOfC qual (zb st) s.heap.objs.size f qZ))->ds.length + 1=ps.length->T d ds φ ->
   ∃ t,QSs (fun _=>True) 0 (cxOf CX0 P w K mg base N qual (zb st) f qZ A outer s H E).nox (yc st) t /\ t (xh N.length (d :: ds)) { nx:=fun ρ=>∃ d',slot ρ 0=some (dv d') /\ φ .non d',rt:=fun r ρ=>∃ d',slot ρ 0=some (dv d') /\ φ r d' }):FM P w K mg base (k + 1) C ns m ps T:=by
 refine ⟨⟨f,fd,F.ok S (fun vs H Q E h=>?_) (fun qZ A outer s H vs Q E hr h=>?_),b,hm⟩,no⟩
 ·obtain ⟨d,ds,v,ws,A,φ,rfl,hl,_,_,r,_⟩:=h
  rw [zLc,r.length,hl]
 ·obtain ⟨d,ds,v,ws,Af,φ,rfl,hl,ft,nd,r,hT,kk⟩:=h
  obtain ⟨t,ht,hq⟩:=qY qZ A outer s H E d ds φ hr hl hT
  have R0:=ud (N:=N) (ds:=d :: ds) (vs:=v :: ws) (H:=H) ⟨v,ws,rfl,Ft.rep _ _ _ (fun a _ z=>by cases z) ft,Reps.sub (fun a ha=>by cases ha) _ _ r⟩
  have s0:=vz Af H
  have S0:ST K (xj Af H) H (L2.start N (v :: ws)) (xh N.length (d :: ds)) [] 0 Af d v:=by
   refine ⟨⟨s0,fun p hp=>?_,fun p hp=>?_,fun p hp=>?_,?_,fun i q e=>?_,?_⟩,rfl,rfl,ft⟩
   ·obtain ⟨a,ha,rfl⟩:=List.mem_map.mp (show p ∈ tg 0 Af from hp)
    exact ub ha
   ·obtain ⟨a,ha,rfl⟩:=List.mem_map.mp (show p ∈ tg 0 Af from hp)
    obtain ⟨u,hu,_⟩:=Ft.dom _ _ _ ft a ha
    exact ⟨u,hu⟩
   ·obtain ⟨a,ha,rfl⟩:=List.mem_map.mp (show p ∈ tg 0 Af from hp)
    obtain ⟨u,hu,n1,n2⟩:=Ft.dom _ _ _ ft a ha
    refine ⟨fun xs z=>?_,fun ob w z=>?_⟩
    ·rw [hu] at z; cases z; exact n1 _ rfl
    ·rw [hu] at z; cases z; exact n2 _ _ rfl
   ·rw [xf]; exact nd
   ·obtain ⟨hi,e⟩:=ut e
    rw [xf]
    cases i with
    | zero=>exact absurd rfl hi
    | succ i =>
     have e':((ds.map fun d=>some (dv d)) ++ List.replicate (N.length - (d :: ds).length) none)[i]?=some (some q):=e
     rcases Nat.lt_or_ge i ds.length with hi | hi
     ·rw [List.getElem?_append_left (by simpa using hi),List.getElem?_map] at e'
      have ed:ds[i]?=some ds[i]:=by simp [hi]
      rw [ed] at e'
      have e2:some (dv ds[i])=some q:=Option.some.inj e'
      cases e2
      obtain ⟨u,eu,ru⟩:=r.get ed
      refine ⟨u,?_,.inl ⟨rfl,ru⟩⟩
      unfold L2.start
      show ((ws.map some) ++ _)[i]?=_
      rw [List.getElem?_append_left (by rw [zLm,r.length]; exact hi),List.getElem?_map,eu]
      rfl
     ·rw [List.getElem?_append_right (by simpa using hi),List.getElem?_replicate] at e'
      split at e' <;> cases e'
   ·rw [vh,List.length_set]; exact R0.len
  have fin:∀ u e d' ρ' σ' H' o' A' d2,ST K (xj Af H) H' σ' ρ' o' 0 A' d2 v->zh e->Rep K H' [] e u->slot ρ' 0=some (dv d')->φ e d'->Q u H':=fun u e d' ρ' σ' H' o' A' d2 S' pe re es h=>by
   have e2:some (dv d2)=some (dv d'):=by
    rw [<- es]
    exact (xc S'.hd).symm
   cases e2
   have kp:∀ b x,H b=some x->b ∉ Af->H' b=some x:=fun b x hb hn=>S'.Q.same b x (by rw [ye hn]; exact hb)
   refine kk u e d' H' A' ⟨fun b x hb hn=>⟨kp b x hb hn,fun z=>?_⟩,fun b xs hb=>kp b _ hb fun z=>?_,fun b ob w hb=>kp b _ hb fun z=>?_⟩ S'.ft S'.ndA (fun a ha=>?_) pe re h
   ·have:=S'.frA b z
    rw [ye hn,hb] at this
    cases this
   ·obtain ⟨w,hw,n1,_⟩:=Ft.dom _ _ _ ft b z
    rw [hb] at hw
    cases hw
    exact n1 _ rfl
   ·obtain ⟨w',hw,_,n2⟩:=Ft.dom _ _ _ ft b z
    rw [hb] at hw
    cases hw
    exact n2 _ _ rfl
   ·have:=S'.frA a ha
    by_cases hA:a ∈ Af
    ·exact .inl hA
    ·rw [ye hA] at this
     exact .inr this
  refine ⟨Um K (xj Af H) 0 t,ht ⟨xj Af H,trivial⟩,xh N.length (d :: ds),[],Af,d,v,S0,_,hq,fun ρ' σ' H' o' A' d2 S' ⟨d',es,h'⟩=>?_,fun _ _ _ _ _ _ _ q=>q.elim,fun _ _ _ _ _ _ _ q=>q.elim,fun u e ρ' σ' H' o' A' d2 S' pe re ⟨d',es,h'⟩=>fin u e d' ρ' σ' H' o' A' d2 S' pe re es h'⟩
  exact fin .non .non d' ρ' σ' H' o' A' d2 S' trivial rfl es h'
end
end DL
namespace LQ
open PySem PySem.Spec L2 L3
open PyProof.Rows hiding St
theorem Na:typeLookup (.type "zip") "keys" = pure none:=am_miss_of_fast (by kernel_rfl)
theorem fo:typeLookup (.type "zip") "__getattr__" = pure none:=am_miss_of_fast (by kernel_rfl)
theorem gc:entryFor table "zip.__getattribute__" = some Builtin.«object.__getattribute__»:=entryFor_alias (id':="object.__getattribute__") (by kernel_rfl) (by decide +kernel) (by decide +kernel) (by kernel_rfl)
theorem Qk (a:Addr) (fs:Array Value) (u:Tok):Meets (Builtin.«object.__getattribute__» ⟨[.ref a,.str "keys" u],[]⟩) (fun A R s=>s.heap.get? a=some { cls:=.type "zip", dict:=none,data:=.fields fs,slots:=#[] } /\ raisesAttr (.ref a) "keys" A R s) :=
 Meets.of_wp fun P w A R s hs=>by
  obtain ⟨hp,g,d,tk,os⟩:=s
  obtain ⟨hx,hs⟩:=hs
  have hT:(⟨hp,g,d,tk,os⟩:Shared).TypeIs (.ref a) "zip":=⟨_,hx,rfl⟩
  have hm:=Na
  unfold Builtin.«object.__getattribute__»
  repeat (any_goals (first | exact hT | exact hm | assumption | wp_step))
  exact wpAny_raiseAttrError hs.1 hs.2 (attrMsg_fits (by decide +kernel) (by size_fits))
section
variable {P:Program} {w:World} {A:Around} {E:Value->Shared->Prop} {s:Shared}
theorem t5 {a:Addr} {fs:Array Value} {Q:Option Value->Shared->Prop} (hx:s.heap.get? a=some { cls:=.type "zip", dict:=none,data:=.fields fs,slots:=#[] }) (hA:A.handled=none)
  (h:∀ g tk,(∀ b u,s.heap.get? b=some u->g.get? b=some u)->Q none { s with heap:=g,toks:=tk }):wpAny (model P w) A (getAttr? (.ref a) "keys") Q E s:=by
 obtain ⟨hp,g,d,tk,os⟩:=s
 have hT:∀ tk',(⟨hp,g,d,tk',os⟩:Shared).TypeIs (.ref a) "zip":=fun _=>⟨_,hx,rfl⟩
 have f1:=sub_AttributeError
 have f3:=F.slot_zip_getattribute.lookup
 have f4:=F.slot_zip_getattribute.bind (.ref a)
 have f5:=fo
 unfold getAttr? getAttrBy? getAttrBy
 repeat (any_goals (first | assumption | exact hT _ | ((with_reducible show wpAny _ _ (call (Value.builtin "zip.__getattribute__") _ _) _ _ _); refine call_meets F.slot_zip_getattribute (hT _) gc (F.args_zip_getattribute_2 _ _) (Qk a fs _) ⟨hx,hA,fun h' tk' e hx'=>?_⟩) | wp_step))
 obtain ⟨t',u',he⟩:=hx'.there
 have hE:∀ tk'',(⟨h',g,d,tk'',os⟩:Shared).TypeIs (.ref e) "AttributeError":=fun _=>⟨_,he,rfl⟩
 show wpAny _ _ (getattributeRaised _ _ _ _ _ _ _) _ _ _
 unfold getattributeRaised
 repeat (any_goals (first | assumption | exact hE _ | wp_step))
 exact h _ _ hx'.keeps
end
section
variable {P:Program} {w:World} {A:Around} {R:Result->Shared->Prop} {b1 b2:Bool} {d z ti to i1 i2 l1 l2:Addr} {xs ys:Array Value} {h0:Heap}
theorem T4 {more:List (Key × Value)} (hh:A.handled=none) (D:L3.ZNe z ti to i1 i2) (d1:L3.ZOff z to i1 i2 l1) (d2:L3.ZOff z to i1 i2 l2) (lz:z < d) (lti:ti < d) (lto:to < d) (li1:i1 < d) (li2:i2 < d) (nl1:l1 ≠ d) (nl2:l2 ≠ d) (hxy:xs.size=ys.size) (hml:more.length=xs.size) (hn:xs.size <= 1000) (hnd:(more.map (·.1)).Nodup)
  (hv:∀ (i:Nat) x y,xs[i]?=some x->ys[i]?=some y->∃ k t,x=.str k t /\ more[i]?=some (Sum.inr k,y)) :
  ∀ (k i:Nat) (s:Shared) (tk:Tok) (as:List Addr),xs.size - i=k->i <= xs.size->as.length=i->L3.ZS b1 b2 z ti to i1 i2 l1 l2 as i s.heap->L3.PairsZ s.heap xs ys d as->L3.SqAt b1 s.heap l1 xs->L3.SqAt b2 s.heap l2 ys ->
   (∀ b o,b ≠ d->L3.ZOff z to i1 i2 b->h0.get? b=some o->s.heap.get? b=some o)->s.heap.DictOf (yg P w) d (more.take i) ->
   (∀ g tk,g.DictOf (yg P w) d more->(∀ b o,b ≠ d->L3.ZOff z to i1 i2 b->h0.get? b=some o->g.get? b=some o)->R (.ok (.ret .none)) { s with heap:=g,toks:=tk }) ->
   codeAny (model P w) A (.builtin "dict.update.loop" ⟨[.ref d,.ref z,.int i tk,.none],[]⟩) R s:=by
 have offd:L3.ZOff z to i1 i2 d:=⟨Nat.ne_of_gt lz,Nat.ne_of_gt lto,Nat.ne_of_gt li1,Nat.ne_of_gt li2⟩
 have offa:∀ {a:Addr},d < a->L3.ZOff z to i1 i2 a:=fun {a} q=>⟨Nat.ne_of_gt (Nat.lt_trans lz q),Nat.ne_of_gt (Nat.lt_trans lto q),Nat.ne_of_gt (Nat.lt_trans li1 q),Nat.ne_of_gt (Nat.lt_trans li2 q)⟩
 have hh1:A.in1.handled=none:=by simpa using hh
 intro k
 induction k with
 | zero =>
  intro i s tk as hk hi la Z pa t1 t2 hold q hR
  have e:i=xs.size:=by omega
  refine codeAny_builtin vi ?_
  rw [Around.under_plainId xg _]
  show wpAny _ A.in1 (pyNext (.ref z) >>= _) _ _ s
  refine wpAny_bind (Hz hh1 D d1 d2 Z pa t1 t2 (by rw [e]; simp) fun g kp=>?_)
  show wpAny _ A.in1 (Builtin.Dict.addKeywords d [] >>= _) _ _ _
  refine wpAny_bind (wpAny_pure (wpAny_pure (hR g s.toks ?_ fun b o h1 h2 e=>kp b o h2 (hold b o h1 h2 e))))
  rw [List.take_of_length_le (by omega)] at q
  obtain ⟨o,es,ep,ho,mm⟩:=q
  exact ⟨o,es,ep,kp d o offd ho,mm⟩
 | succ k ih =>
  intro i s tk as hk hi la Z pa t1 t2 hold q hR
  have lt:i < xs.size:=by omega
  have ex:xs[i]?=some xs[i]:=by simp [lt]
  have ey:ys[i]?=some (ys[i]'(by omega)):=by simp [show i < ys.size by omega]
  obtain ⟨x,t,hx,hm⟩:=hv i _ _ ex ey
  obtain ⟨u,hu⟩:∃ u,u=ys[i]'(by omega):=⟨_,rfl⟩
  rw [<- hu] at ey hm
  rw [hx] at ex
  refine codeAny_builtin vi ?_
  rw [Around.under_plainId xg _]
  show wpAny _ A.in1 (pyNext (.ref z) >>= _) _ _ s
  refine wpAny_bind (K3 D d1 d2 Z pa t1 t2 ex ey fun g Z2 pr kp=>?_)
  have ld:d < s.heap.objs.size:=by obtain ⟨o,_,_,ho,_⟩:=q; exact Heap.lt_size ho
  have q2:g.DictOf (yg P w) d (more.take i):=by
   obtain ⟨o',es,ep,ho',mm⟩:=q
   exact ⟨o',es,ep,kp d o' offd ho',mm⟩
  have hnew:(Sum.inr x:Key) ∉ (more.take i).map (·.1):=by
   have e:more.take (i + 1)=more.take i ++ [(Sum.inr x,u)]:=by rw [List.take_succ,hm]; rfl
   have h4:((more.take (i + 1)).map (·.1)).Nodup:=hnd.sublist ((List.take_sublist _ _).map _)
   rw [e,zMa,List.nodup_append] at h4
   intro z
   exact h4.2.2 _ z (Sum.inr x) (by simp) rfl
  have pa2:L3.PairsZ g xs ys d (as ++ [s.heap.objs.size]):=(pa.to fun a o ha e=>kp a o (offa (pa.1 a ha)) e).snoc ld (fun m=>Nat.lt_irrefl _ (pa.lt m)) (by rw [la]; exact ex) (by rw [la]; exact ey) pr
  show wpAny _ A.in1 (holding [Value.ref s.heap.objs.size] _ >>= _) _ _ _
  refine wpAny_bind (wpAny_holding (wpAny_bind (wpAny_tryCatch ?_)))
  unfold Builtin.Dict.pairItems
  refine wpAny_bind (wpAny_typeOf (s:={ s with heap:=g }) ⟨_,pr,rfl⟩ ?_)
  rw [if_pos (by decide)]
  refine wpAny_bind (wpAny_seqItems (s:={ s with heap:=g }) pr rfl (wpAny_pure ?_))
  show wpAny _ A.in1 (holding [Value.str x t,u] (dictSet d (.str x t) u)) _ _ _
  refine wpAny_holding (wpAny_dictSet_pairs (s:={ s with heap:=g }) (knd:=yg P w) (k:=Sum.inr x) (kg P w x t) q2 (fun g2 q3 sb=>?_) (by rw [List.length_take]; exact Nat.le_trans (Nat.min_le_left _ _) (Nat.le_trans hi (Nat.le_trans hn (by decide)))))
  refine wpAny_pure ⟨plainId_quiet xg _,?_⟩
  rw [gk hnew,show more.take i ++ [((Sum.inr x:Key),u)]=more.take (i + 1) by rw [List.take_succ,hm]; rfl] at q3
  show codeAny (model P w) A (.builtin "dict.update.loop" ⟨[.ref d,.ref z,.int ((i:Int) + 1) _,.none],[]⟩) R _
  have ei:((i:Int) + 1)=((i + 1:Nat):Int):=by omega
  rw [ei]
  refine ih (i + 1) _ _ (as ++ [s.heap.objs.size]) (by omega) lt (by rw [zLa,la]; rfl) (Z2.to fun c o hc e=>sb.extBut c o (fun z=>?_) e) (pa2.to fun a o ha e=>sb.extBut a o (Nat.ne_of_gt (pa2.1 a ha)) e) ((t1.at fun o e=>kp _ o d1 e).at fun o e=>sb.extBut _ o nl1 e) ((t2.at fun o e=>kp _ o d2 e).at fun o e=>sb.extBut _ o nl2 e)
   (fun b o' h1 h2 e=>sb.extBut b o' h1 (kp b o' h2 (hold b o' h1 h2 e))) q3 fun g3 tk3 q4 k4=>hR g3 tk3 q4 k4
  subst z
  rcases hc with rfl | rfl | rfl | rfl | rfl
  ·exact Nat.lt_irrefl _ lz
  ·exact Nat.lt_irrefl _ lti
  ·exact Nat.lt_irrefl _ lto
  ·exact Nat.lt_irrefl _ li1
  ·exact Nat.lt_irrefl _ li2
end
section
variable {P:Program} {w:World} {A:Around} {E:Value->Shared->Prop} {s:Shared} {b1 b2:Bool} {z ti to i1 i2 l1 l2:Addr} {xs ys:Array Value}
theorem dict_zip {more:List (Key × Value)} {Q:Value->Shared->Prop} (hh:A.handled=none) (D:L3.ZNe z ti to i1 i2) (d1:L3.ZOff z to i1 i2 l1) (d2:L3.ZOff z to i1 i2 l2) (Z:L3.ZAt b1 b2 s.heap z ti to i1 i2 l1 l2 .none 0) (t1:L3.SqAt b1 s.heap l1 xs) (t2:L3.SqAt b2 s.heap l2 ys)
  (hxy:xs.size=ys.size) (hml:more.length=xs.size) (hn:xs.size <= 1000) (hnd:(more.map (·.1)).Nodup) (hv:∀ (i:Nat) x y,xs[i]?=some x->ys[i]?=some y->∃ k t,x=.str k t /\ more[i]?=some (Sum.inr k,y))
  (h:∀ g tk,g.DictOf (yg P w) s.heap.objs.size more->(∀ b o,L3.ZOff z to i1 i2 b->s.heap.get? b=some o->g.get? b=some o)->Q (.ref s.heap.objs.size) { s with heap:=g,toks:=tk }):wpAny (model P w) A (call (.type "dict") [.ref z]) Q E s:=by
 refine callType_codes (Q₁:=fun obj y=>obj=.ref s.heap.objs.size /\ y={ s with heap:=s.heap.push { cls:=.type "dict", data:=.dict #[] } }) F.kt_called_dict (F.kt_typeCall_dict_1 _) F.entry_dict_init (kt_code_dict_new _ ⟨rfl,rfl⟩) ?_
 rintro obj y ⟨rfl,rfl⟩
 obtain ⟨zz,its,⟨oa,ob,out⟩,one,two⟩:=id Z
 have lz:z < s.heap.objs.size:=Heap.lt_size zz
 have lti:ti < s.heap.objs.size:=Heap.lt_size its
 have lto:to < s.heap.objs.size:=Heap.lt_size out
 have li:∀ {b:Bool} {it l:Addr} {i:Nat},L3.ItAt b s.heap it l i->it < s.heap.objs.size:=fun {b it l i} q=>by
  cases b with
  | true=>obtain ⟨o,e,_⟩:=(show s.heap.IsTupleIter it l i from q); exact Heap.lt_size e
  | false=>obtain ⟨o,e,_⟩:=(show s.heap.IsListIter it l i from q); exact Heap.lt_size e
 have ls:∀ {b:Bool} {l:Addr} {xs:Array Value},L3.SqAt b s.heap l xs->l < s.heap.objs.size:=fun {b l xs} q=>by
  cases b with
  | true=>obtain ⟨o,e,_⟩:=(show s.heap.IsTuple l xs from q); exact Heap.lt_size e
  | false=>obtain ⟨o,e,_⟩:=(show s.heap.IsList l xs from q); exact Heap.lt_size e
 have new:(s.heap.push { cls:=.type "dict", data:=.dict #[] }).DictOf (yg P w) s.heap.objs.size []:=Heap.DictOf.new s.heap
 have kp1:∀ b u,s.heap.get? b=some u->(s.heap.push { cls:=.type "dict", data:=.dict #[] }).get? b=some u:=fun b u e=>Heap.get?_push_of_some _ e
 have zz1:=kp1 z _ zz
 have ty1:Shared.TypeIs { s with heap:=s.heap.push { cls:=.type "dict", data:=.dict #[] } } (.ref z) "zip":=⟨_,zz1,rfl⟩
 refine ⟨new.typeIs,F.args_dict_init_2 _ _,?_⟩
 unfold Builtin.«dict.__init__»
 refine wpAny_bind ?_
 unfold Builtin.Dict.selfAndRest
 refine wpAny_bind (wpAny_notOrdered_dict new.typeIs ?_)
 show wpAny _ _ (pure (s.heap.objs.size,[Value.ref z])) _ _ _
 refine wpAny_pure ?_
 show wpAny _ _ (Builtin.Dict.updateFrom "dict.__init__" s.heap.objs.size (.ref z) [] .none) _ _ _
 unfold Builtin.Dict.updateFrom
 refine wpAny_bind (wpAny_typeOf ty1 ?_)
 rw [if_pos (by decide)]
 refine wpAny_bind (t5 zz1 (by simpa using hh) fun g tk kp2=>?_)
 rw [if_pos (show (Option.none:Option Value).isNone=true from rfl)]
 have up:∀ b o,s.heap.get? b=some o->g.get? b=some o:=fun b o e=>kp2 b o (kp1 b o e)
 refine wpAny_bind (wpAny_rule (wpAny_bind (wpAny_pyIter_zip (s:={ s with heap:=g,toks:=tk }) (up z _ zz) ?_)))
 refine wpAny_pure ⟨plainId_quiet xg _,?_⟩
 have q0:g.DictOf (yg P w) s.heap.objs.size []:=by
  obtain ⟨o,es,ep,ho,mm⟩:=new
  exact ⟨o,es,ep,kp2 _ _ ho,mm⟩
 refine T4 (h0:=s.heap) (b1:=b1) (b2:=b2) (ys:=ys) (by simpa using hh) D d1 d2 lz lti lto (li one) (li two) (Nat.ne_of_lt (ls t1)) (Nat.ne_of_lt (ls t2)) hxy hml hn hnd hv xs.size 0 _ _ [] (Nat.sub_zero _) (Nat.zero_le _) rfl
  (.inl ⟨rfl,up _ _ zz,up _ _ its,⟨oa,ob,up _ _ out⟩,one.at fun o e=>up _ o e,two.at fun o e=>up _ o e⟩) ⟨(fun _ q=>nomatch q),List.nodup_nil,fun j a e=>by simp at e⟩ (t1.at fun o e=>up _ o e) (t2.at fun o e=>up _ o e) (fun b o _ _ e=>up b o e) q0 fun g2 tk2 q2 k2=>?_
 exact ⟨rfl,h g2 tk2 q2 fun b o q e=>k2 b o (Nat.ne_of_lt (Heap.lt_size e)) q e⟩
end
end LQ
namespace L3
open PySem PySem.Spec L2
open PyProof.Rows hiding St
noncomputable def Oe (K:W.Frag) (ta:TA):TE:=fun σ H Q=>ta σ H fun vs H1=>∃ b1 b2 l1 l2 xs ys,∃ zs:List Str,vs=[.ref l1,.ref l2] /\ SqK b1 K H1 l1 xs /\ SqK b2 K H1 l2 ys /\ xs=zs.map V.str /\ xs.length=ys.length /\ xs.length <= 1000 /\ zs.Nodup /\
 ∀ l,H1 l=none->Q (.ref l) (upd H1 l (.dK ((zs.map Sum.inr).zip ys)))
theorem Tf {X:Cx} {a b:Expr} {ta:TA} {p p2 pos pos2:Pos} (hc:X.calm=true) (hg:Gl X "dict") (hm:X.mg "dict" = none) (hg2:Gl X "zip") (hm2:X.mg "zip" = none) (ha:PA X [a,b] ta)
  (h1:starEach [.Call (.Name "zip" p2) [a,b] [] pos2] X.env=(false,eval (.Call (.Name "zip" p2) [a,b] [] pos2) X.env) :: starEach [] X.env:=by rfl)
  (he:starEach [a,b] X.env=(false,eval a X.env) :: starEach [b] X.env:=by rfl) (hpl:(backTo pos2 (starEach [b] X.env)).any (·.1)=false:=by rfl) :
  PE X (.Call (.Name "dict" p) [.Call (.Name "zip" p2) [a,b] [] pos2] [] pos) (Oe X.K ta):=by
 intro pn s σ H Q I h
 refine wpAny_Call_Name_kw (rj I hg hm DL.boot_dict' ?_ (by decide) (by decide))
 refine PyProof.Rows.callWith_type1 ?_ h1 (by rfl)
 rw [h1]
 show wpAny _ _ (spliced ((false,eval _ X.env) :: backTo pos (starEach [] X.env))) _ _ s
 refine Calls.spliced_cons ?_
 refine wpAny_Call_Name_kw (rj I hg2 hm2 X1 ?_ (by decide) (by decide))
 refine PyProof.Rows.callWith_type1 (thn (ha pos2 pn s σ H _ I h) fun us s1 ⟨vs,H1,I1,r1,b1,b2,l1,l2,xs,ys,zs,e,e1,e2,ez,hl,hn,nd,q⟩=>?_) he hpl
 subst e
 obtain ⟨u,v,rfl,ru,rv⟩:=K6 r1
 cases ru
 cases rv
 obtain ⟨its1,r1,g1⟩:=Z6 I1 e1
 obtain ⟨its2,r2,g2⟩:=Z6 I1 e2
 refine Vn (xs:=its1.toArray) (ys:=its2.toArray) g1 g2 fun g Z kp=>Calls.spliced_nil ?_
 have D:ZNe (s1.heap.objs.size + 4) (s1.heap.objs.size + 2) (s1.heap.objs.size + 3) s1.heap.objs.size (s1.heap.objs.size + 1):=by
  constructor <;> (intro z; exact absurd (show (_:Nat)=_ from z) (by omega))
 have off:∀ {c:Addr},c < s1.heap.objs.size->ZOff (s1.heap.objs.size + 4) (s1.heap.objs.size + 3) s1.heap.objs.size (s1.heap.objs.size + 1) c:=fun {c} q=>⟨Nat.ne_of_lt (Nat.lt_of_lt_of_le q (Nat.le_add_right _ _)),Nat.ne_of_lt (Nat.lt_of_lt_of_le q (Nat.le_add_right _ _)),Nat.ne_of_lt q,Nat.ne_of_lt (Nat.lt_of_lt_of_le q (Nat.le_add_right _ _))⟩
 have lts:∀ {b:Bool} {l:Addr} {its:List Value},SqAt b s1.heap l its.toArray->l < s1.heap.objs.size:=fun {b l its} q=>by
  cases b with
  | true=>obtain ⟨o,e,_⟩:=(show s1.heap.IsTuple _ _ from q); exact Heap.lt_size e
  | false=>obtain ⟨o,e,_⟩:=(show s1.heap.IsList _ _ from q); exact Heap.lt_size e
 have big:s1.heap.objs.size + 4 < g.objs.size:=Heap.lt_size Z.zz
 have n1:=r1.length
 have n2:=r2.length
 have hb:=I1.big
 have ex:∀ (zs:List Str) (its1 its2:List Value) (ys:List V),Vals (zs.map V.str) its1->Vals ys its2->zs.length=ys.length->∃ more:List (Key × Value),KV ((zs.map (Sum.inr:Str->Key)).zip ys) more /\ more.length=its1.length /\ more.map (·.1)=zs.map (Sum.inr:Str->Key) /\
   ∀ (i:Nat) x y,its1[i]?=some x->its2[i]?=some y->∃ k t,x=.str k t /\ more[i]?=some (Sum.inr k,y):=by
  intro zs
  induction zs with
  | nil =>
   intro its1 its2 ys r1 r2 l
   cases r1
   cases ys with
   | nil=>exact ⟨[],.nil,rfl,rfl,fun i x y e=>by simp at e⟩
   | cons _ _=>simp at l
  | cons zt zs ih =>
   intro its1 its2 ys r1 r2 l
   cases ys with
   | nil=>simp at l
   | cons y ys =>
    cases r1 with
    | cons h1 t1 =>
     cases r2 with
     | cons h2 t2 =>
      obtain ⟨more,k1,k2,k3,k4⟩:=ih _ _ ys t1 t2 (by simpa using l)
      obtain ⟨tt,rfl⟩:=h1
      rename_i u2 _
      refine ⟨(Sum.inr zt,u2) :: more,.cons ⟨rfl,h2⟩ k1,by simp [k2],by simp [k3],fun i x y' e e'=>?_⟩
      cases i with
      | zero =>
       simp at e e'
       subst e e'
       exact ⟨zt,tt,rfl,rfl⟩
      | succ i =>
       obtain ⟨k,t,e3,e4⟩:=k4 i x y' (by simpa using e) (by simpa using e')
       exact ⟨k,t,e3,by simpa using e4⟩
 subst ez
 obtain ⟨more,k1,k2,k3,k4⟩:=ex zs its1 its2 ys r1 r2 (by simpa using hl)
 rw [zLm] at hn n1 hl
 refine LQ.dict_zip (s:={ s1 with heap:=g }) (A:=X.A) (more:=more) (I1.ok.hd hc) D (off (lts g1)) (off (lts g2)) Z (g1.at fun o e=>kp _ o e) (g2.at fun o e=>kp _ o e) (by rw [List.size_toArray,List.size_toArray]; omega) (by rw [List.size_toArray]; exact k2) (by rw [List.size_toArray]; omega) (by
   rw [k3]
   exact List.Pairwise.map _ (fun a b h e=>h (Sum.inr.inj e)) nd) (fun i x y e e'=>k4 i x y (by simpa using e) (by simpa using e')) fun h' tk qd keep=>?_
 dsimp only at keep qd ⊢
 have keep':∀ b o,s1.heap.get? b=some o->h'.get? b=some o:=fun b o e=>keep b o (off (Heap.lt_size e)) (kp b o e)
 have gb:(s1.heap.objs.size:Nat) <= g.objs.size:=by have:(s1.heap.objs.size + 4:Nat) < g.objs.size:=big; omega
 have fr:H1 g.objs.size=none:=I1.hok.fresh gb
 refine ⟨.ref g.objs.size,_,I1.laid (o:=.dK ((zs.map Sum.inr).zip ys)) (t':=tk) keep' gb ?_,rfl,q _ fr⟩
 have lk:=k1.length
 exact Pn (by rw [lk,k2,<- n1]; exact Nat.le_trans hn (by decide)) (by simpa using Nat.ne_of_gt (Nat.lt_of_lt_of_le hb gb)) k1 qd
end L3
namespace DL
open PySem PySem.Spec L2 L3
open PyProof.Rows hiding St
variable {Γ:Hp->Prop} {l:Nat}
section
variable {X:Cx} {a b e oe:Expr} {t:TDs} {te:TD} {x y:Str} {p p2 pos pos2 pos' np apos cpos:Pos}
noncomputable def Ly (t:TDs):TD:=fun ρ φ=>t ρ fun rs=>∃ (zs:List Str) (ds:List D),(match rs with
 | [r1,r2]=>(r1.d=.lst (zs.map D.str) \/ r1.d=.tup (zs.map D.str)) /\ (r2.d=.lst ds \/ r2.d=.tup ds)
 | _=>False) /\ zs.length=ds.length /\ zs.length <= 1000 /\ zs.Nodup /\ φ (df (.dk (zs.map Sum.inr) ds))
theorem Sx {K:W.Frag} {H:Hp} {O:List Addr} {d:D} {v:V} {ds:List D} (h:View K H O d v) (e:d=.lst ds \/ d=.tup ds):∃ b l xs,v=.ref l /\ SqK b K H l xs /\ Reps K H O ds xs:=by
 rcases e with rfl | rfl
 ·obtain ⟨a,xs,rfl,q,r⟩:=h
  exact ⟨false,a,xs,rfl,SqL.of q,r⟩
 ·obtain ⟨a,xs,rfl,q,r⟩:=h
  exact ⟨true,a,xs,rfl,q.1,r⟩
theorem Uw (hm:X.mg "dict" = none) (hm2:X.mg "zip" = none) (ha:EA Γ X [a,b] t) (hc:X.calm=true:=by rfl) (hg:Gl X "dict":=by rfl) (hg2:Gl X "zip":=by rfl)
  (h1:starEach [.Call (.Name "zip" p2) [a,b] [] pos2] X.env=(false,eval (.Call (.Name "zip" p2) [a,b] [] pos2) X.env) :: starEach [] X.env:=by rfl)
  (he:starEach [a,b] X.env=(false,eval a X.env) :: starEach [b] X.env:=by rfl) (hpl:(backTo pos2 (starEach [b] X.env)).any (·.1)=false:=by rfl) :
  ED Γ X (.Call (.Name "dict" p) [.Call (.Name "zip" p2) [a,b] [] pos2] [] pos) (Ly t):=fun H₀ =>
 impE (Tf hc hg hm hg2 hm2 (ha H₀) h1 he hpl) fun σ H Q q=>by
  obtain ⟨ρ,oo,R,φ,hφ,kk⟩:=q
  refine ⟨ρ,oo,R,_,hφ,fun vs rs H1 s1 rvs h1=>?_⟩
  obtain ⟨zs,ds,h0,hl,hn,nd,h1⟩:=h1
  split at h0
  ·rename_i r1 r2
   obtain ⟨v1,ws,rfl,rv1,v2,ws2,rfl,rv2,e⟩:=rvs
   cases (show ws2=[] from e)
   obtain ⟨b1,l1,xs,rfl,q1,rp1⟩:=Sx rv1.view h0.1
   obtain ⟨b2,l2,ys,rfl,q2,rp2⟩:=Sx rv2.view h0.2
   have ex:=Zb rp1
   have m2:=rp2.length
   refine ⟨b1,b2,l1,l2,xs,ys,zs,rfl,q1,q2,ex,by rw [ex,zLm]; omega,by rw [ex,zLm]; exact hn,nd,fun p hp=>?_⟩
   have n:=zw hp (HO.dK ((zs.map Sum.inr).zip ys))
   refine kk (.ref p) (df (.dk (zs.map Sum.inr) ds)) _ (s1.trans n) ⟨p,rfl,s1.free hp,R.ofree (s1.free hp),ys,zi,by rw [zLm]; exact hl,List.Pairwise.map _ (fun a b h e=>h (Sum.inr.inj e)) nd,Reps.grow (cz hp) _ _ rp2⟩ h1
  ·exact h0.elim
noncomputable def Lb (l j:Nat) (tp:TP) (te:TD):TQS:=fun ρ Z=>tp ρ fun π=>∃ d ks ds,slot ρ l=some (dv d) /\ atQ π d=some (.dk ks ds) /\ j < ρ.length /\ te (hid j ρ) fun r=>match r with
 | ⟨.fre,.dk ks2 ds2⟩=>zu ds2 /\ ks.length + ks2.length <= 1000 /\ (ks ++ ks2).Nodup /\ Z.nx (hid j (setS ρ l (dv (putQ π d (.dk (ks ++ ks2) (ds ++ ds2))))))
 | _=>False
theorem Oy (j:Nat) (hj:j ≠ l) (hN:X.N.Nodup) (hp:EPQ Γ l X oe tp) (he:ED Γ X e te) (hi:X.N[j]?=some x:=by rfl) (hx:Loc X.env.scope x:=by first | exact Or.inl rfl | exact Or.inr rfl)
  (hs:swapsWith oe (some (.Name x pos')) pos.line X.env=pure false:=by rfl) (hf:X.fn x=true \/ X.env.scope.names.lookup x=some .local:=by first | exact .inl rfl | exact .inr rfl | assumption)
  (hv:Vis X.env.scope x:=by first | exact Or.inl rfl | exact Or.inr (Or.inl rfl) | exact Or.inr (Or.inr rfl)) (hd:(x == ("__debug__" : Str))=false:=by decide) (hcd:(x == ("__classdict__" : Str))=false:=by decide)
  (hpp:∀ {ta tb:TE},PE X (.Name x np) ta->PE X e tb->PS X (.Expr (.Call (.Attribute (.Name x np) "update" apos) [e] [] cpos) pos2) (Z4 (Gi ta tb)):=by
   intro ta tb h1 h2
   exact vo (Jd h1 h2 ⟨rfl,rfl,rfl,rfl⟩)) :
  QSs Γ l X [.Assign [.Name x pos'] oe pos,.Expr (.Call (.Attribute (.Name x np) "update" apos) [e] [] cpos) pos2] (Lb l j tp te):=fun H₀ =>
 Yj (xx (rg hN hi hx (hp H₀) hs hf) (k8 (hpp (wt hi hv hd hcd) (he H₀)))) fun Dz σ H h=>by
  obtain ⟨ρ,o,A,d,v,S,Z,hZ,k1,k2,k3,k4⟩:=h
  refine ⟨ρ,o,A,d,v,S,_,hZ,fun u π H1 s1 vp h1=>?_⟩
  obtain ⟨d',ks,ds,es,ea,hjl,h1⟩:=h1
  have e2:some (dv d')=some (dv d):=by rw [<- es]; exact xc S.hd
  cases e2
  have S1:=(S.to s1).letgo hj u
  have sl:σ.length=ρ.length:=S.R.len
  obtain ⟨u',A1,hv1,f1,n1,sub,dm,_⟩:=S1.focQ ea
  cases vp.fn hv1
  obtain ⟨b,xs,At,rfl,q,ln,nd,rfl,fs⟩:=f1
  have xl:ks.length=xs.length:=by rw [ln,fs.length]
  refine ⟨.ref b,List.getElem?_set_self (by omega),b,_,rfl,q,hid j ρ,o,S1.R,_,h1,fun w r H2 s2 rv h2=>?_⟩
  split at h2
  ·rename_i ks2 ds2
   obtain ⟨pd,hlen,hnd,h2⟩:=h2
   obtain ⟨c,rfl,mc,nc,ys,qc,ln2,nd2,rc⟩:=rv
   have yl:ks2.length=ys.length:=by rw [ln2,rc.length]
   have hne:b ≠ c:=fun z=>by
    subst z
    rw [q] at mc
    cases mc
   have fs2:Fts X.K H2 ds xs At:=Fts.keep (Gt.same s2) _ _ _ (fun a _ x hx=>s2 _ _ hx) fs
   have ndc:=List.nodup_cons.mp n1
   obtain ⟨A',S',g,_⟩:=S1.putH (e:=.dk (ks ++ ks2) (ds ++ ds2)) (ho:=.dK ((ks ++ ks2).zip (xs ++ ys))) (A1':=At ++ []) ea ⟨b,xs,At,rfl,q,ln,nd,rfl,fs⟩ n1 (fun u A2 hv2 f2 n2=>by
    cases hv1.fn hv2
    exact ⟨rfl,Ft.uniq _ _ _ _ f2 ⟨b,xs,At,rfl,q,ln,nd,rfl,fs⟩⟩) s2 (fs2.app (Reps.fts _ _ pd rc)) (by rw [List.append_nil]; exact ndc.2) (fun a ha=>by rw [List.append_nil] at ha; exact .inl ha) (fun _ z=>by cases z) (fun _ _ z=>by cases z)
    (fun H' hb f=>⟨b,_,_,rfl,hb,by rw [zLa,zLa,ln,ln2],hnd,rfl,f⟩)
   refine ⟨c,_,_,rfl,hne,s2 _ _ q,qc,?_,?_,?_⟩
   ·rw [List.length_zip,List.length_zip,<- xl,<- yl,Nat.min_self,Nat.min_self]
    exact Nat.le_trans hlen (by decide)
   ·rw [<- X7 ks xs ks2 ys xl,t5 _ _ (by rw [zLa,zLa,xl,yl])]
    exact hnd
   ·rw [<- X7 ks xs ks2 ys xl]
    rw [<- uf _ _ (Ne.symm hj)] at S'
    exact k1 _ _ _ _ _ _ S' h2
  ·exact h2.elim
end
noncomputable def El (K:W.Frag) (H₀:Hp) (l:Nat) (t:TF):TE:=fun σ H Q=>∃ ρ o A d v,ST K H₀ H σ ρ o l A d v /\ ∃ φ,t ρ φ /\ ∀ u e H',Same H H'->RepN K H' (fun a=>H₀ a=none) e u->φ e->Q u H'
noncomputable def Jr (K:W.Frag) (H₀:Hp) (l:Nat) (t:TFs):TA:=fun σ H Q=>∃ ρ o A d v,ST K H₀ H σ ρ o l A d v /\ ∃ φ,t ρ φ /\ ∀ us es H',Same H H'->x9 K H' (fun a=>H₀ a=none) es us->φ es->Q us H'
noncomputable def ER (G:Hp->Prop) (l:Nat) (X:Cx) (e:Expr) (t:TF):Prop:=∀ H₀:{H:Hp // G H},PE X e (El X.K H₀.1 l t)
noncomputable def ERs (G:Hp->Prop) (l:Nat) (X:Cx) (es:List Expr) (t:TFs):Prop:=∀ H₀:{H:Hp // G H},PA X es (Jr X.K H₀.1 l t)
section
variable {X:Cx} {x y m:Str} {e:Expr} {es:List Expr} {te:TD} {np apos cpos pos:Pos}
noncomputable def rE (te:TD):TF:=fun ρ φ=>te ρ fun r=>zh r.d /\ φ r.d
theorem Mc (he:ED Γ X e te):ER Γ l X e (rE te):=fun H₀=>impE (he H₀) fun σ H Q q=>by
 obtain ⟨ρ,o,A,d,v,S,φ,hφ,k⟩:=q
 exact ⟨ρ,o,S.R,_,hφ,fun u r H1 s1 rv h1=>k u r.d H1 s1 (Rep.toN _ _ h1.1 rv.view.rep0) h1.2⟩
noncomputable def rP (l:Nat) (tp:TP):TF:=fun ρ φ=>tp ρ fun π=>∃ d d1,slot ρ l=some (dv d) /\ atQ π d=some d1 /\ φ d1
theorem qm (hp:EPQ Γ l X e tp):ER Γ l X e (rP l tp):=fun H₀=>impE (hp H₀) fun σ H Q q=>by
 obtain ⟨ρ,o,A,d,v,S,φ,hφ,k⟩:=q
 refine ⟨ρ,o,A,d,v,S,_,hφ,fun u π H1 s1 vp h1=>?_⟩
 obtain ⟨d',d1,es,ea,h1⟩:=h1
 have e2:some (dv d')=some (dv d):=by rw [<- es]; exact xc S.hd
 cases e2
 obtain ⟨u',A1,hv,f1,_,sub,_⟩:=(S.to s1).focQ ea
 cases vp.fn hv
 exact k u d1 H1 s1 (Ft.repN _ _ _ (fun a ha=>S.frA a (sub a ha)) f1) h1
theorem Pc:ERs Γ l X [] fNil:=fun H₀=>impA wu fun σ H Q q=>by
 obtain ⟨ρ,o,A,d,v,S,φ,hφ,k⟩:=q
 exact k [] [] H (Same.refl H) rfl hφ
theorem v8 {te:TF} {tr:TFs} (he:ER Γ l X e te) (hr:ERs Γ l X es tr) (hs:starEach (e :: es) X.env=(false,eval e X.env) :: starEach es X.env:=by rfl):ERs Γ l X (e :: es) (Hk te tr):=fun H₀=>impA (yo (he H₀) (hr H₀) hs) fun σ H Q q=>by
 obtain ⟨ρ,o,A,d,v,S,φ,hφ,k⟩:=q
 refine ⟨ρ,o,A,d,v,S,_,hφ,fun u e1 H1 s1 f1 h1=>⟨ρ,o,A,d,v,S.to s1,_,h1,fun us es1 H2 s2 f2 h2=>?_⟩⟩
 exact k (u :: us) (e1 :: es1) H2 (s1.trans s2) ⟨u,us,rfl,RepN.to s2 (fun _ z=>z) _ _ f1,f2⟩ h2
theorem Lr {t:TFs} {x1} (h:ERs Γ l X es t):ER Γ l X (.Tuple es x1 pos) (fTup t):=fun H₀=>impE (gw (h H₀)) fun σ H Q q=>by
 obtain ⟨ρ,o,A,d,v,S,φ,hφ,k⟩:=q
 refine ⟨ρ,o,A,d,v,S,_,hφ,fun us es1 H1 s1 f h1=>⟨by rw [f.length,sizeLine_eq]; omega,fun p hp=>?_⟩⟩
 have n:=zw hp (HO.tup us)
 exact k (.ref p) (.tup es1) _ (s1.trans n) ⟨p,us,rfl,⟨SqT.of zi,zi⟩,x9.to n (fun _ z=>z) _ _ f⟩ h1.2
noncomputable def Gy (t:TF):TQS:=fun ρ Z=>t ρ fun d=>Z.rt d ρ
theorem Q2 {t:TF} (h:ER Γ l X e t):RS Γ l X (.Return (some e) pos) (Gy t):=fun H₀=>impS (Ub (h H₀)) fun Dz σ H h=>by
 obtain ⟨ρ,o,A,d,v,S,Z,hZ,k1,k2⟩:=h
 exact ⟨ρ,o,A,d,v,S,_,hZ,fun u e H1 s1 r h1=>k2 u e ρ H1 (S.Q.same.trans s1) r h1⟩
end
structure FMR (P:Program) (w:World) (K:W.Frag) (mg:Str->Option Value) (base:Heap) (k:Nat) (C:Addr) (ns:List Str) (m:Str) (ps:List Str) (T:FTR):Prop where
 ex:∃ f fd,FnOk P w K mg base CX0 k f fd ps (spR K ps.length T) /\ wz K fd ps [] /\ Meth K C m f
 no:m ∉ ns
section
variable {P:Program} {w:World} {K:W.Frag} {mg:Str->Option Value} {base:Heap}
theorem Dc {x qual m:Str} {st:Stmt} {f:Addr} {fd:FuncData} {N ps:List Str} {k:Nat} {T:FTR} {C:Addr} {ns:List Str} (F:Fun K x qual st f fd) (S:zn N ps (zb st)) (b:wz K fd ps []) (hm:Meth K C m f) (no:m ∉ ns)
  (qY:∀ (qZ:Value) (A:Around) (outer:List Env) (s:Shared) (H:Hp) (E:XK) (d:D) (ds:List D) (φ:D->Prop),Room k (A.deeper (envOfC qual (zb st) s.heap.objs.size f qZ))->ds.length + 1=ps.length->T d ds φ ->
   ∃ t,RSs (fun _=>True) 0 (cxOf CX0 P w K mg base N qual (zb st) f qZ A outer s H E).nox (yc st) t /\ t (xh N.length (d :: ds)) { nx:=fun _=>False,rt:=fun r _=>φ r }):FMR P w K mg base (k + 1) C ns m ps T:=by
 obtain ⟨f',fd',ok,b',kp',e⟩:=(Cm (mg:=fun _=>some (.ref f)) (P:=P) (w:=w) (base:=base) (x:=x) (k:=0) (T:=fun _ _ _=>False) F S b rfl fun _ _ _ _ _ _ _ _ _ _ _ h=>h.elim).ex
 refine ⟨⟨f,fd,F.ok S (fun vs H Q E h=>?_) (fun qZ A outer s H vs Q E hr h=>?_),b,hm⟩,no⟩
 ·obtain ⟨d,ds,v,ws,A,φ,rfl,hl,_,_,r,_⟩:=h
  rw [zLc,r.length,hl]
 ·obtain ⟨d,ds,v,ws,Af,φ,rfl,hl,ft,nd,r,hT,kk⟩:=h
  obtain ⟨t,ht,hq⟩:=qY qZ A outer s H E d ds φ hr hl hT
  have S0:=Vv (N:=N) ft nd r
  refine ⟨Ul K (xj Af H) 0 t,ht ⟨xj Af H,trivial⟩,xh N.length (d :: ds),[],Af,d,v,S0,_,hq,fun ρ' σ' H' o' A' d2 S' h'=>h'.elim,fun u e ρ' H' s' re h'=>?_⟩
  refine kk u e H' (fun b x hb hn=>s' b x (by rw [ye hn]; exact hb)) (RepN.to (Same.refl _) (fun a ha=>?_) _ _ re) h'
  by_cases hA:a ∈ Af
  ·exact .inl hA
  ·rw [ye hA] at ha
   exact .inr ha
theorem ST.make {H₀ H H2:Hp} {σ:St} {ρ:DE} {o:List (Nat × Addr)} {l:Nat} {A:List Addr} {d:D} {v:V} (R:REnv K H₀ H σ ρ o) (hl:l < ρ.length) (s:Same H H2) (f:Ft K H2 d v A) (nd:A.Nodup) (fr:∀ a ∈ A,H a=none) :
  ST K H₀ H2 (σ.set l (some v)) (setS ρ l (dv d)) o l A d v:=by
 have R2:=R.to s
 have dis:∀ a ∈ A,a ∉ o.map Prod.snd:=fun a ha=>R.ofree (fr a ha)
 refine ⟨⟨R2.same,fun p hp=>?_,fun p hp=>?_,fun p hp=>?_,?_,fun i q e=>?_,?_⟩,?_,?_,f⟩
 ·rcases List.mem_append.mp hp with hp | hp
  ·exact R.fresh p hp
  ·obtain ⟨a,ha,rfl⟩:=List.mem_map.mp hp
   exact R.same.free (fr a ha)
 ·rcases List.mem_append.mp hp with hp | hp
  ·exact R2.trk p hp
  ·obtain ⟨a,ha,rfl⟩:=List.mem_map.mp hp
   obtain ⟨u,hu,_⟩:=Ft.dom _ _ _ f a ha
   exact ⟨u,hu⟩
 ·rcases List.mem_append.mp hp with hp | hp
  ·exact R2.mtb p hp
  ·obtain ⟨a,ha,rfl⟩:=List.mem_map.mp hp
   obtain ⟨u,hu,n1,n2⟩:=Ft.dom _ _ _ f a ha
   refine ⟨fun xs z=>?_,fun ob w z=>?_⟩
   ·rw [hu] at z; cases z; exact n1 _ rfl
   ·rw [hu] at z; cases z; exact n2 _ _ rfl
 ·rw [xf,List.nodup_append]
  exact ⟨R.nda,nd,fun a ha b hb e=>dis b hb (e ▸ ha)⟩
 ·rw [cy] at e
  obtain ⟨hi,e⟩:=ut e
  obtain ⟨w,ew,q⟩:=R.slots i q e
  refine ⟨w,by rw [List.getElem?_set_ne (Ne.symm hi)]; exact ew,?_⟩
  rw [xf]
  have g:Grow (o.map Prod.snd) (o.map Prod.snd ++ A) H H2:=⟨fun b u hb n=>⟨s _ _ hb,fun z=>(List.mem_append.mp z).elim n fun z=>by rw [fr b z] at hb; cases hb⟩,fun b xs hb=>s _ _ hb,fun b ob u hb=>s _ _ hb⟩
  rcases q with ⟨k,q⟩ | ⟨k,c,e1,m,cc⟩
  ·exact .inl ⟨k,Rep.grow g _ _ q⟩
  ·exact .inr ⟨k,c,e1,List.mem_append_left _ m,cc.grow (fun u h=>s _ _ h) g⟩
 ·rw [cy,vh,List.length_set,List.length_set]; exact R.len
 ·rw [xq,List.getElem?_set_self hl]
 ·rw [List.getElem?_set_self (by rw [R.len]; exact hl)]
end
section
variable {X:Cx} {x:Str} {e:Expr} {te:TD} {pos pos':Pos}
noncomputable def Fb (j:Nat) (te:TD):TQS:=fun ρ Z=>te ρ fun r=>frs2 r /\ Z.nx (setS ρ j (dv r.d))
theorem Kt (j:Nat) (hj:j ≠ l) (hN:X.N.Nodup) (he:ED Γ X e te) (hi:X.N[j]?=some x:=by rfl) (hx:Loc X.env.scope x:=by first | exact Or.inl rfl | exact Or.inr rfl) (hs:swapsWith e (some (.Name x pos')) pos.line X.env=pure false:=by rfl)
  (hf:X.fn x=true \/ X.env.scope.names.lookup x=some .local:=by first | exact .inl rfl | exact .inr rfl | assumption):QS Γ l X (.Assign [.Name x pos'] e pos) (Fb j te):=fun H₀=>impS (rg hN hi hx (he H₀) hs hf) fun Dz σ H h=>by
 obtain ⟨ρ,o,A,d,v,S,Z,hZ,k1,k2,k3,k4⟩:=h
 refine ⟨ρ,o,S.R,_,hZ,fun w r H1 s1 rv h1=>?_⟩
 obtain ⟨B,f,nd,fr⟩:=P3 rv h1.1
 refine k1 _ _ H1 o A d ((S.to s1).setR hj (Ft.rep _ _ _ (fun a ha z=>?_) f)) h1.2
 rcases List.mem_append.mp z with z | z
 ·exact S.R.ofree (fr a ha) z
 ·obtain ⟨y,hy,_⟩:=Ft.dom _ _ _ S.ft a z
  rw [fr a ha] at hy
  cases hy
end
theorem at_0 {α:Type} (a:α) (r:List α):atI (a :: r) (0:Int)=some a:=by
 unfold atI ixN
 rw [if_pos (by decide),if_pos (by rw [zLc]; omega)]
 rfl
theorem Mo {α:Type} (a b:α) (r:List α):atI (a :: b :: r) (1:Int)=some b:=by
 unfold atI ixN
 rw [if_pos (by decide),if_pos (by rw [zLc,zLc]; omega)]
 rfl
theorem Ps (rs us:List D) (h:us ≠ []):cutD (rs ++ us) (some (-(us.length:Int))) none=us /\ cutD (rs ++ us) none (some (-(us.length:Int)))=rs:=by
 have hp:=List.length_pos_iff.mpr h
 have e:HT.sIx (rs ++ us).length 0 (some (-(us.length:Int)))=rs.length:=by
  unfold HT.sIx
  simp only [zLa]
  rw [if_pos (by omega)]
  omega
 have e2:HT.sIx (rs ++ us).length (rs ++ us).length (some (-(us.length:Int)))=rs.length:=by
  unfold HT.sIx
  simp only [zLa]
  rw [if_pos (by omega)]
  omega
 refine ⟨?_,?_⟩
 ·unfold cutD
  rw [e]
  rw [List.drop_left]
  show us.take ((rs ++ us).length - rs.length)=us
  rw [zLa]
  exact List.take_of_length_le (by omega)
 ·unfold cutD
  rw [e2]
  show (rs ++ us).take (rs.length - 0)=rs
  rw [Nat.sub_zero,List.take_left]
theorem Nr (n:Nat):ixN (n + 1) (-1:Int)=some n:=by
 unfold ixN
 rw [if_neg (by decide),if_pos (by omega)]
 congr 1
 omega
end DL
namespace L2
open PySem PySem.Spec PyProof.Rows
theorem U4:Manifest.owners.lookup (String.ofList ['d','e','s','r','e','v','e','r'].reverse)=some Manifest.sig_reversed:=by kernel_rfl
theorem qx:Slot "reversed" "__next__" "reversed.__next__" :=
 .of (owner:="reversed") (n:="__next__") (by rw [typeLookup_type,builtinLookup_eq_fast]; kernel_rfl) (by decide +kernel) (by decide +kernel) (by decide +kernel)
  (by first | exact .inl (by decide +kernel) | exact .inr (by decide +kernel)) (by rw [isSubtype_type]; kernel_rfl)
theorem U5:entryFor table "reversed.__next__" = some Builtin.«reversed.__next__»:=entryFor_of_tree (by kernel_rfl)
theorem Q1 (a:Value):argsOk "reversed.__next__" ⟨[a],[]⟩:=by
 unfold argsOk; rw [signature?_of (id:="reversed.__next__") (n:=['_','_','t','x','e','n','_','_']) (o:=['d','e','s','r','e','v','e','r']) (by kernel_rfl) U4]; kernel_rfl
theorem Ry:Slot "reversed" "__iter__" "reversed.__iter__" :=
 .of (owner:="reversed") (n:="__iter__") (by rw [typeLookup_type,builtinLookup_eq_fast]; kernel_rfl) (by decide +kernel) (by decide +kernel) (by decide +kernel)
  (by first | exact .inl (by decide +kernel) | exact .inr (by decide +kernel)) (by rw [isSubtype_type]; kernel_rfl)
theorem Ot (a:Value):argsOk "reversed.__iter__" ⟨[a],[]⟩:=by
 unfold argsOk; rw [signature?_of (id:="reversed.__iter__") (n:=['_','_','r','e','t','i','_','_']) (o:=['d','e','s','r','e','v','e','r']) (by kernel_rfl) U4]; kernel_rfl
theorem Rz:entryFor table "reversed.__iter__" = some Builtin.«dict_keyiterator.__iter__» :=
 entryFor_alias (id':="dict_keyiterator.__iter__") (by kernel_rfl) (by first | rfl | decide +kernel | (unfold String.splitOn; simp +decide [String.splitOnAux])) (by decide +kernel) (by kernel_rfl)
theorem Oq:typeLookup (.type "tuple") "__reversed__" = pure none:=by rw [typeLookup_type,builtinLookup_eq_fast]; kernel_rfl
theorem Rx:isSubtype (.type "tuple") (.type "dict")=pure false:=by rw [isSubtype_type]; kernel_rfl
theorem Kq:Slot "reversed" "__init__" "object.__init__" :=
 .of (owner:="object") (n:="__init__") (by rw [typeLookup_type,builtinLookup_eq_fast]; kernel_rfl) (by decide +kernel) (by decide +kernel) (by decide +kernel)
  (by first | exact .inl (by decide +kernel) | exact .inr (by decide +kernel)) (by rw [isSubtype_type]; kernel_rfl)
theorem Q0:TypeCalled "reversed" "reversed.__new__" "object.__init__":=⟨by decide +kernel,F.create_reversed,⟨_,_,F.mro_reversed⟩,F.made_reversed,F.plain_reversed_new,F.sub_reversed_self,Kq⟩
noncomputable def Gu (l:Addr) (i:Int):Obj:={ cls:=.type "reversed", data:=.fields #[.ref l,rawInt i] }
noncomputable def RtIt (h:Heap) (a l:Addr) (i:Int):Prop:=∃ o,h.get? a=some o /\ o.cls=.type "reversed" /\ o.data=.fields #[.ref l,rawInt i]
theorem RtIt.typeIs {s:Shared} {a l:Addr} {i:Int} (x:RtIt s.heap a l i):s.TypeIs (.ref a) "reversed":=let ⟨o,ho,hc,_⟩:=x; ⟨o,ho,hc⟩
theorem RtIt.at {h h':Heap} {a l:Addr} {i:Int} (x:RtIt h a l i) (e:∀ o,h.get? a=some o->h'.get? a=some o):RtIt h' a l i:=let ⟨o,ho,r⟩:=x; ⟨o,e _ ho,r⟩
section
variable {prog:Program} {w:World} {A:Around} {E:Value->Shared->Prop} {s:Shared}
theorem Gr (l:Addr) (items:Array Value) (hfit:(items.size:Int) < 2 ^ 63) :
  Meets (Builtin.«reversed.__new__» ⟨[.type "reversed", .ref l],[]⟩) (fun _ R s=>IsTup s.heap l items /\ R (.ok (.ret (.ref s.heap.objs.size))) { s with heap:=s.heap.push (Gu l ((items.size:Int) - 1)),toks:=s.toks + 1 + 1 }) :=
 .of_wp fun prog w A R s h=>by
  obtain ⟨ht,h⟩:=h
  unfold Builtin.«reversed.__new__»
  refine wpAny_bind (wpAny_of_eq (newClass_reversed _) ?_)
  try dsimp only
  refine wpAny_bind (wpAny_of_eq (a:=()) (by first | rfl | kernel_rfl) ?_)
  refine wpAny_bind (wpAny_of_eq (a:=()) (by first | rfl | kernel_rfl) ?_)
  try dsimp only
  refine wpAny_bind (wpAny_specialOf ht.typeIs Oq ?_)
  try dsimp only
  refine wpAny_bind ?_
  show wpAny _ _ (isInstance (.ref l) (.type "dict") >>= _) _ _ s
  refine wpAny_bind (wpAny_isInstance ht.typeIs Rx ?_)
  rw [if_neg Bool.false_ne_true]
  refine wpAny_bind (wpAny_specialOf ht.typeIs F.slot_tuple_getitem.lookup ?_)
  show wpAny _ _ (if (["tuple.__getitem__", "str.__getitem__", "bytes.__getitem__", "bytearray.__getitem__", "memoryview.__getitem__", "numpy.ndarray.__getitem__", "sqlite3.Row.__getitem__"].contains "tuple.__getitem__")=true then _ else _) _ _ s
  rw [if_pos (by decide)]
  refine wpAny_pure ?_
  rw [if_neg (by decide)]
  refine wpAny_bind (len_tuple ht hfit ?_)
  refine wpAny_bind (wpAny_of_eq (a:=some ((items.size:Int))) rfl ?_)
  refine wpAny_bind ?_
  show wpAny _ _ (newObj (Value.type "reversed") (.fields #[Value.ref l,rawInt ((items.size:Int) - 1)])) _ _ _
  exact wpAny_newObj_type (wpAny_pure ⟨_,rfl,h⟩) (by size_fits)
theorem Ko {it l:Addr} {i:Nat} {items:Array Value} {x:Value} {Q:Option Value->Shared->Prop} (hfit:(items.size:Int) < 2 ^ 63) (hit:RtIt s.heap it l (i:Int)) (hl:IsTup s.heap l items) (hx:items[i]?=some x)
  (hQ:∀ h',RtIt h' it l ((i:Int) - 1)->Heap.SameBut it s.heap h'->Q (some x) { s with heap:=h',toks:=s.toks + 1 }):wpAny (model prog w) A (pyNext (.ref it)) Q E s:=by
 obtain ⟨o,ho,hc,hd⟩:=id hit
 have hi:i < items.size:=(Array.getElem?_eq_some_iff.mp hx).1
 unfold pyNext
 refine wpAny_bind (wpAny_attempt (wpAny_callSpecial?_slot (name:=Str.ofString "__next__") hit.typeIs qx
  (wpAny_call_entry qx hit.typeIs U5 ?_ (Q1 _))))
 unfold Builtin.«reversed.__next__»
 refine wpAny_bind (wpAny_of_eq (a:=(Value.ref it,[])) rfl ?_)
 try dsimp only
 refine wpAny_bind (wpAny_field ho hd (x:=.ref l) rfl ?_)
 refine wpAny_bind (wpAny_field ho hd (x:=rawInt (i:Int)) rfl ?_)
 show wpAny _ _ (if (i:Int) < 0 then _ else _) _ _ s
 rw [if_neg (by omega)]
 refine wpAny_bind (wpAny_specialOf hl.typeIs F.slot_tuple_getitem.lookup ?_)
 show wpAny _ _ (if (Option.isNone (some (Value.builtin "tuple.__getitem__")))=true then _ else _) _ _ s
 rw [if_neg (by decide)]
 refine wpAny_bind (wpAny_mkInt ?_)
 refine wpAny_bind (wpAny_attempt (PyProof.Rows.getItem_tuple (s:={ s with toks:=s.toks + 1 }) hl (by omega) (by omega) (j:=i) ?_ hx ?_))
 ·exact seqIndex_of (by omega) (by omega)
 refine wpAny_bind (wpAny_field (s:={ s with toks:=s.toks + 1 }) ho hd (x:=rawInt (i:Int)) rfl ?_)
 show wpAny _ _ (setField (.ref it) 1 (rawInt ((i:Int) - 1)) >>= _) _ _ _
 refine wpAny_bind (wpAny_setField (s:={ s with toks:=s.toks + 1 }) ho hd (by simp) ?_)
 first
 | refine wpAny_pure ⟨x,rfl,wpAny_pure (hQ _ ?_ (Heap.SameBut.update ..))⟩
 | refine wpAny_bind (wpAny_pure (wpAny_pure ⟨x,rfl,wpAny_pure (hQ _ ?_ (Heap.SameBut.update ..))⟩))
 exact ⟨_,Heap.get?_update_self _ ho (Obj.isFreed_of_fields (Obj.data_mapFields hd _)),(Obj.cls_mapFields ..).trans hc,by
  rw [Obj.data_mapFields hd]; simp⟩
theorem Gs {it l:Addr} {Q:Option Value->Shared->Prop} (hh:A.handled=none) (hit:RtIt s.heap it l (-1))
  (hQ:∀ h',Heap.ExtBut it s.heap h'->Q none { s with heap:=h' }):wpAny (model prog w) A (pyNext (.ref it)) Q E s:=by
 obtain ⟨o,ho,hc,hd⟩:=id hit
 unfold pyNext
 refine wpAny_bind (wpAny_attempt (wpAny_callSpecial?_slot (name:=Str.ofString "__next__") hit.typeIs qx
  (wpAny_call_entry qx hit.typeIs U5 ?_ (Q1 _))))
 unfold Builtin.«reversed.__next__»
 refine wpAny_bind (wpAny_of_eq (a:=(Value.ref it,[])) rfl ?_)
 try dsimp only
 refine wpAny_bind (wpAny_field ho hd (x:=.ref l) rfl ?_)
 refine wpAny_bind (wpAny_field ho hd (x:=rawInt (-1)) rfl ?_)
 show wpAny _ _ (if (-1:Int) < 0 then _ else _) _ _ s
 rw [if_pos (by decide)]
 refine wpAny_bind (wpAny_rule ?_)
 refine wpAny_bind ?_
 show wpAny _ _ (setField (.ref it) 1 (rawInt (-1)) >>= _) _ _ _
 refine wpAny_bind (wpAny_setField ho hd (by simp) ?_)
 have g1:=Heap.get?_update_self (h:=s.heap) (Obj.mapFields (·.setIfInBounds 1 (rawInt (-1)))) ho (Obj.isFreed_of_fields (Obj.data_mapFields hd _))
 have d1:(Obj.mapFields (·.setIfInBounds 1 (rawInt (-1))) o).data=_:=Obj.data_mapFields hd _
 refine wpAny_setField g1 d1 (by simp) ?_
 refine wpAny_bind ?_
 show wpAny _ _ (newExc (.type "StopIteration") [] >>= _) _ _ _
 refine wpAny_bind ?_
 simp only [newExc,newTuple]
 refine wpAny_bind (wpAny_newObj_type ?_ (by size_fits))
 refine wpAny_bind (m:=firstArgMember _ _) (wpAny_of_eq (a:=Value.none) (by first | rfl | (simp only [firstArgMember]; rfl)) ?_)
 refine wpAny_newObj_type ?_ (by size_fits)
 simp only [raiseNew]
 refine wpAny_bind (wpAny_handled ?_)
 first | rw [show A.in1.handled=none from hh] | rw [hh]
 refine wpAny_bind (wpAny_pure (wpAny_throw ?_))
 refine wpAny_bind (wpAny_isInstance (T:="StopIteration") (b:=true) ⟨_,Heap.get?_push_size _ rfl,rfl⟩ isSubtype_stop ?_)
 refine wpAny_pure (hQ _ ?_)
 exact ((((Heap.SameBut.update ..).trans (Heap.SameBut.update ..)).extBut).push _).push _
theorem Rv {it l:Addr} {i:Int} {Q:Value->Shared->Prop} (hit:RtIt s.heap it l i) (h:Q (.ref it) s):wpAny (model prog w) A (pyIter (.ref it)) Q E s:=by
 refine wpAny_pyIter_slot hit.typeIs Ry (wpAny_call_entry Ry hit.typeIs Rz ?_ (Ot _))
 show wpAny _ _ (ret (.ref it)) _ _ s
 exact wpAny_pure ⟨_,rfl, "reversed", _,hit.typeIs,qx.lookup,h⟩
end
noncomputable def Itbt (K:W.Frag) (a:Addr) (n:Nat):It:=⟨fun i H=>(∃ xs,SqT K H a xs /\ xs.length=n) /\ i < n,fun i H x H'=>H'=H /\ ∀ xs,SqT K H a xs->xs[n - 1 - i]?=some x,fun i H=>(∃ xs,SqT K H a xs /\ xs.length=n) /\ i=n⟩
theorem Sy {P:Program} {w:World} {K:W.Frag} {tg:Expr} (a it:Addr) (n:Nat):Turn P w K tg (Itbt K a n) [it] it (fun i h=>RtIt h it a ((n:Int) - 1 - (i:Int))) where
 mem:=by simp
 obj:=fun i h st b hb=>by
  have e:b=it:=by simpa using hb
  subst e
  obtain ⟨o,e,c,d⟩:=st
  exact ⟨o,e,fun v z=>by rw [d] at z; cases z⟩
 keep:=fun i h h' st k=>st.at fun o e=>k it (by simp) o e
 item:=by
  intro X hP hw hK hc i pn s σ H E I hf st hg
  subst hP hw hK
  obtain ⟨⟨xs,hq,hl⟩,hi⟩:=hg
  obtain ⟨its,rv,p,hz⟩:=I.tuple hq
  obtain ⟨x,hx⟩:∃ x,xs[n - 1 - i]?=some x:=⟨xs[n - 1 - i]'(by omega),by simp⟩
  obtain ⟨u,hu,ru⟩:=rv.get hx
  obtain ⟨f0,f1,f2,f3,f4,f5⟩:=hf it (by simp)
  have en:(n:Int) - 1 - (i:Int)=((n - 1 - i:Nat):Int):=by omega
  rw [en] at st
  have h63:=t4
  have hln:=rv.length
  refine Ko (by rw [List.size_toArray]; omega) st p (x:=u) (by simpa using hu) fun h' st' sb=>?_
  have I1:Inv X pn σ H { s with heap:=h',toks:=s.toks + 1 }:=I.turned (t':=s.toks + 1) (fun b o hb e=>(sb.2 b hb).trans e) f0 f1 f3 f4 f5
  obtain ⟨o,e,c,d⟩:=id st'
  have en2:((n - 1 - i:Nat):Int) - 1=(n:Int) - 1 - ((i + 1:Nat):Int):=by omega
  rw [en2] at st'
  exact ⟨u,rfl,Qz (s:={ s with heap:=h',toks:=s.toks + 1 }) e c d (by decide) ⟨x,H,I1,ru,⟨rfl,fun ys hy=>by rw [I.tuple_inj hy hq]; exact hx⟩,st',fun b hb=>(hf b hb).1⟩⟩
 done:=by
  intro X hP hw hK hc i pn s σ H E I hf st hg
  subst hP hw hK
  obtain ⟨⟨xs,hq,hl⟩,hi⟩:=hg
  obtain ⟨f0,f1,f2,f3,f4,f5⟩:=hf it (by simp)
  have en:(n:Int) - 1 - (i:Int) = -1:=by omega
  rw [en] at st
  exact Gs (I.ok.hd hc) st fun h' eb=>⟨rfl,I.turned (t':=s.toks) (fun b o hb e=>eb b o hb e) f0 f1 f3 f4 f5⟩
 self:=fun _ _ _ _ _ st h=>Rv st h
noncomputable def Ck (K:W.Frag) (ta:TA):TI:=fun σ H R=>ta σ H fun vs H1=>∃ l xs,vs=[.ref l] /\ SqT K H1 l xs /\ R (Itbt K l xs.length) H1
theorem J9 {X:Cx} {tg a:Expr} {ta:TA} {p pos:Pos} (hg:Gl X "reversed") (hm:X.mg "reversed" = none) (ha:PA X [a] ta)
  (he:starEach [a] X.env=(false,eval a X.env) :: starEach [] X.env:=by rfl):PI X tg (.Call (.Name "reversed" p) [a] [] pos) (Ck X.K ta):=by
 intro pn s σ H R I h
 refine wpAny_Call_Name_kw (rj I hg hm gd ?_ (by decide) (by decide))
 refine PyProof.Rows.callWith_type1 (thn (ha pos pn s σ H _ I h) fun us s1 ⟨vs,H1,I1,r1,l,xs,e,e1,q⟩=>?_) he (by rfl)
 subst e
 obtain ⟨u,rfl,ru⟩:=Z1 r1
 cases ru
 obtain ⟨its,rv,pl,hz⟩:=I1.tuple e1
 have hl:=rv.length
 have h63:=t4
 refine callType_new Q0 (by decide) (F.typeCall_reversed_1 _) (F.newCall_reversed_1 _) (fun obj=>F.args_object_init_2 obj _) F.entry_reversed_new (Gr l its.toArray (by rw [List.size_toArray]; omega)) ⟨pl,?_⟩
 have st:RtIt (s1.heap.push (Gu l ((its.toArray.size:Int) - 1))) s1.heap.objs.size l ((xs.length:Int) - 1 - ((0:Nat):Int)):=by
  refine ⟨_,Heap.get?_push_size _ rfl,rfl,?_⟩
  show Data.fields #[.ref l,rawInt ((its.toArray.size:Int) - 1)]=_
  rw [show ((its.toArray.size:Int) - 1)=(xs.length:Int) - 1 - ((0:Nat):Int) by rw [List.size_toArray]; omega]
 refine ⟨⟨_,Heap.get?_push_size _ rfl,rfl⟩,?_⟩
 refine Rv st ?_
 refine ⟨s1.heap.objs.size,[s1.heap.objs.size],_,_,H1,rfl,I1.kept (t':=s1.toks + 1 + 1) fun b o e=>Heap.get?_push_of_some _ e,Sy l _ xs.length,st,fun b hb=>?_,q⟩
 have e:b=s1.heap.objs.size:=by simpa using hb
 subst e
 exact I1.fpOk (Nat.le_refl _) (I1.hok.fresh (Nat.le_refl _))
end L2
namespace DL
open PySem PySem.Spec L2 L3
open PyProof.Rows hiding St
variable {Γ:Hp->Prop}
section
variable {X:Cx}
noncomputable def iBT (t:TDs):TID:=fun ρ φ=>t ρ fun rs=>match rs with
 | [r]=>(match r.k with | .own=>False | _=>True) /\ (match r.d with
  | .tup l=>φ l.reverse
  | _=>False)
 | _=>False
theorem Jy {K:W.Frag} {l:Addr} {ds:List D}:ItD K (Itbt K l ds.length) ds.reverse (fun H O=>Rep K H O (.tup ds) (.ref l)) where
 go:=fun H O i d hp e=>by
  obtain ⟨a,xs,ea,q,r⟩:=hp
  cases ea
  have hi:i < ds.length:=by have:=(List.getElem?_eq_some_iff.mp e).1; simpa using this
  rw [List.getElem?_reverse hi] at e
  obtain ⟨v,ev,rv⟩:=r.get e
  refine ⟨⟨⟨xs,q.1,r.length⟩,hi⟩,fun x H' y=>?_⟩
  obtain ⟨e1,y⟩:=y
  subst e1
  have:=y xs q.1
  rw [ev] at this
  cases this
  exact ⟨Same.refl _,rv⟩
 stop:=fun H O hp=>by
  obtain ⟨a,xs,ea,q,r⟩:=hp
  cases ea
  exact ⟨⟨xs,q.1,r.length⟩,by rw [List.length_reverse]⟩
 keep:=fun O O' H H' hp g=>Rep.grow g _ _ hp
theorem Yv {tg a:Expr} {t:TDs} {p pos:Pos} (hm:X.mg "reversed" = none) (ha:EA Γ X [a] t) (hg:Gl X "reversed":=by rfl)
  (he:starEach [a] X.env=(false,eval a X.env) :: starEach [] X.env:=by rfl):EI Γ X tg (.Call (.Name "reversed" p) [a] [] pos) (iBT t):=fun H₀=>impI (J9 hg hm (ha H₀) he) fun σ H R q=>by
 obtain ⟨ρ,o,RE,φ,hφ,k⟩:=q
 refine ⟨ρ,o,RE,_,hφ,fun vs rs H1 s1 rvs h1=>?_⟩
 split at h1
 ·rename_i r
  obtain ⟨n1,h1⟩:=h1
  obtain ⟨v1,w1,rfl,q1,rfl⟩:=rvs
  have p1:=q1.solid (vf n1)
  obtain ⟨kd,d⟩:=r
  cases d with
  | tup l =>
   obtain ⟨a,xs,rfl,q,r⟩:=id p1
   refine ⟨a,xs,rfl,q.1,?_⟩
   rw [r.length]
   exact k _ _ _ H1 s1 Jy p1 h1
  | _=>exact h1.elim
 ·exact h1.elim
end
end DL
namespace DL
open PySem PySem.Spec L2 L3
open PyProof.Rows hiding St
open PySem.Builtin.Int (intBits)
variable {Γ:Hp->Prop}
section
variable {X:Cx} {C:Addr} {ns ps:List Str} {m:Str} {T:FT} {te:TD} {t:TDs} {k:Nat} {o e:Expr} {es:List Expr} {apos pos:Pos}
structure FMD (P:Program) (w:World) (K:W.Frag) (mg:Str->Option Value) (base:Heap) (k:Nat) (C:Addr) (ns:List Str) (m:Str) (ps:List Str) (T:FT):Prop where
 ex:∃ f fd,FnOk P w K mg base CX0 k f fd ps (spD K ps.length T) /\ wz K fd ps [] /\ Meth K C m f
 no:m ∉ ns
noncomputable def Dm (n:Nat) (C:Addr) (ns:List Str) (T:FT) (te:TD) (t:TDs):TD:=fun ρ φ=>te ρ fun r=>(∃ ds,r.d=.ob C ns ds) /\ t ρ fun rs=>Nat.beq (rs.length + 1) n=true /\ T (r.d :: rs.map EV.d) φ
theorem Pi {pl:Sem Bool} (O:CO X.K C ns) (F:FMD X.prog X.w X.K X.mg X.base k C ns m ps T) (hr:Room k X.A) (ho:ED Γ X o te) (ha:EA Γ X (e :: es) t)
  (hst:starEach (e :: es) X.env=(false,eval e X.env) :: starEach es X.env:=by rfl) (hpl:(backTo pos (starEach es X.env)).any (·.1)=false:=by rfl)
  (ht:eval (.Call (.Attribute o m apos) (e :: es) [] pos) X.env=(do
   let ov <- eval o X.env
   standAt apos.atName
   let (f,first) <- holding [ov] (getMethod ov m pl)
   callWith pos f first (backTo pos (starEach (e :: es) X.env)) (backToKw pos (keywordEach [] X.env))):=by rfl) :
  ED Γ X (.Call (.Attribute o m apos) (e :: es) [] pos) (Dm ps.length C ns T te t):=fun H₀=>by
 obtain ⟨f,fd,ok,b,hm⟩:=F.ex
 refine impE (Qa (ho H₀) O.cl hm ok hr b .nil Xn (ha H₀) hst hpl ht) fun σ H Q q=>?_
 obtain ⟨ρ,o,R,φ,hφ,k⟩:=q
 refine ⟨ρ,o,R,_,hφ,fun v r H1 s1 rv h1=>?_⟩
 obtain ⟨⟨ds,ed⟩,h1⟩:=h1
 have vw:=rv.view
 obtain ⟨kd,d⟩:=r
 cases ed
 have v0:Rep X.K H1 [] (.ob C ns ds) v:=vw.rep0
 obtain ⟨a,dx,xs,rfl,q,_,ln,nd,rr⟩:=vw
 refine ⟨a,dx,_,rfl,q,uz F.no,ρ,o,R.to s1,_,h1,fun vs rs H2 s2 rvs h2=>?_⟩
 show spD X.K ps.length T (.ref a :: (vs ++ [])) H2 Q E0
 rw [List.append_nil]
 refine ⟨.ob C ns ds :: rs.map EV.d,φ,by rw [zLc,zLm]; exact Nat.eq_of_beq_eq_true h2.1,⟨_,_,rfl,Rep.grow (Grow.same s2) _ _ v0,rvs.reps0⟩,h2.2,fun u r' H3 s3 rv' pr h3=>?_⟩
 exact k u r' H3 ((s1.trans s2).trans s3) (RV.start (rv'.lift pr fun a e=>R.ofree ((s1.trans s2).free e)) (s1.trans s2)) h3
theorem Dd {P:Program} {w:World} {K:W.Frag} {mg:Str->Option Value} {base:Heap} {x qual m:Str} {st:Stmt} {f:Addr} {fd:FuncData} {N ps:List Str} {k:Nat} {T:FT} {C:Addr} {ns:List Str} (F:Fun K x qual st f fd) (S:zn N ps (zb st)) (b:wz K fd ps []) (hm:Meth K C m f) (no:m ∉ ns)
  (qY:∀ (qZ:Value) (A:Around) (outer:List Env) (s:Shared) (H:Hp) (E:XK) (ds:List D) (φ:EV->Prop),Room k (A.deeper (envOfC qual (zb st) s.heap.objs.size f qZ))->ds.length=ps.length->T ds φ ->
   ∃ t,SDs (fun _=>True) (cxOf CX0 P w K mg base N qual (zb st) f qZ A outer s H E).nox (yc st) t /\ t (xh N.length ds) { nx:=fun _=>φ (dv .non),rt:=fun r=>ui r /\ φ r }):FMD P w K mg base (k + 1) C ns m ps T :=
 ⟨⟨f,fd,P6 F S qY,b,hm⟩,no⟩
end
end DL
namespace L2
open PySem PySem.Spec PyProof.Rows
structure FunV (K:W.Frag) (x qual:Str) (st:Stmt) (f:Addr) (v:Value) (fd:FuncData):Prop where
 ex:∃ (T:Addr) (oT:Obj) (n:Nat) (oc:Value) (od:Option Addr) (kV doc pm:Value) (an:Option Addr) (qZ ct:Value) (osl:Array (Option Value)),
  fd=W.fnOf x qual (wk st) (yc st) (zb st) (.ref T) kV doc pm an qZ ct /\ K.lookup f=some ⟨oc,od,.func fd,osl⟩ /\ W.codeIn K qZ qual=true /\ K.lookup T=some oT /\ oT.data=.seq #[v] n
 kp:W.keepIn K (.ref f)=true
section
variable {P:Program} {w:World} {K:W.Frag} {mg:Str->Option Value} {base:Heap}
theorem FunV.ok {x qual:Str} {st:Stmt} {f:Addr} {v:Value} {fd:FuncData} {N ps:List Str} {k:Nat} {sp:Sp} (F:FunV K x qual st f v fd) (S:zn N ps (zb st)) (len:∀ vs H Q E,sp vs H Q E->vs.length=ps.length)
  (qY:∀ (qZ:Value) (A:Around) (outer:List Env) (s:Shared) (H:Hp) (vs:List V) (Q:VK) (E:XK),Room k (A.deeper (envOfC qual (zb st) s.heap.objs.size f qZ))->sp vs H Q E ->
   ∃ t,PSs (cxOf CX0 P w K mg base N qual (zb st) f qZ A outer s H E).nox (yc st) t /\ t { nx:=fun _ H'=>Q .non H',rt:=Q } (start N vs) H):FnOk P w K mg base CX0 (k + 1) f fd ps sp:=by
 obtain ⟨T,oT,n,oc,od,kV,doc,pm,an,qZ,ct,osl,rfl,lk,hcd,_⟩:=F.ex
 refine D9 lk hcd S len fun A outer s H vs Q E hr hsp=>?_
 obtain ⟨t,h,q⟩:=qY qZ A outer s H vs Q E hr hsp
 exact ⟨t,h.nox,q⟩
theorem FunV.binds {x qual:Str} {st:Stmt} {f:Addr} {v:Value} {fd:FuncData} {ps:List Str} {ds:List Value} (F:FunV K x qual st f v fd)
  (h:∀ (T:Addr) (kV doc pm:Value) (an:Option Addr) (qZ ct:Value) (us:List Value),(us ++ ds).length=ps.length->∃ k:Option (Array Value)->Sem (List (Str × Value)),bindArgs (W.fnOf x qual (wk st) (yc st) (zb st) (.ref T) kV doc pm an qZ ct) ⟨us,[]⟩=seqItems? (.ref T) >>= k /\ k (some #[v])=pure (ps.zip (us ++ ds))):wz K fd ps ds:=by
 obtain ⟨T,oT,n,oc,od,kV,doc,pm,an,qZ,ct,osl,rfl,lk,hcd,lT,dT⟩:=F.ex
 intro s us KX hl
 obtain ⟨k,h1,h2⟩:=h T kV doc pm an qZ ct us hl
 exact .of_defaults (T:=T) (o:=oT) (items:=#[v]) (n:=n) rfl (KX _ _ lT) dT h1 h2
end
end L2
namespace DL
open PySem PySem.Spec L2 L3
open PyProof.Rows hiding St
variable {Γ:Hp->Prop} {l:Nat}
section
variable {P:Program} {w:World} {K:W.Frag} {mg:Str->Option Value} {base:Heap}
theorem D8 {qual m:Str} {st s0 s1 s2 s3 s4:Stmt} {f C:Addr} {fd:FuncData} {N ps:List Str} {k nI nM l:Nat} {T:FT} {TI:FTQ} {TM:FTR} {ns:List Str} {as1:List Expr}
  (hok:∀ {sp:Sp},(∀ vs H Q E,sp vs H Q E->vs.length=ps.length)->(∀ (qZ:Value) (A:Around) (outer:List Env) (s:Shared) (H:Hp) (vs:List V) (Q:VK) (E:XK),Room k (A.deeper (envOfC qual (zb st) s.heap.objs.size f qZ))->sp vs H Q E ->
   ∃ t,PSs (cxOf CX0 P w K mg base N qual (zb st) f qZ A outer s H E).nox (yc st) t /\ t { nx:=fun _ H'=>Q .non H',rt:=Q } (L2.start N vs) H)->FnOk P w K mg base CX0 (k + 1) f fd ps sp) (no:m ∉ ns) (hb:yc st=[s0,s1,s2,s3,s4]) (lM:nM=1)
  (qY:∀ (qZ:Value) (A:Around) (outer:List Env) (s:Shared) (H:Hp) (E:XK) (ds:List D) (φ:EV->Prop),Room k (A.deeper (envOfC qual (zb st) s.heap.objs.size f qZ))->ds.length=ps.length->T ds φ ->
   ∃ t0 ta t2 t3,SD (fun _=>True) (cxOf CX0 P w K mg base N qual (zb st) f qZ A outer s H E).nox s0 t0 /\ EA (fun _=>True) (cxOf CX0 P w K mg base N qual (zb st) f qZ A outer s H E).nox as1 ta /\
    (∀ {t:TA},PA (cxOf CX0 P w K mg base N qual (zb st) f qZ A outer s H E).nox as1 t->PS (cxOf CX0 P w K mg base N qual (zb st) f qZ A outer s H E).nox s1 (tAsg (d7 C (spQ K nI TI) [] E0 t) (ug l))) /\
    QS (fun _=>True) l (cxOf CX0 P w K mg base N qual (zb st) f qZ A outer s H E).nox s2 t2 /\ QS (fun _=>True) l (cxOf CX0 P w K mg base N qual (zb st) f qZ A outer s H E).nox s3 t3 /\
    PS (cxOf CX0 P w K mg base N qual (zb st) f qZ A outer s H E).nox s4 (tRet (Oc C m (spR K nM TM) [] E0 (tVar l) tNil)) /\
    t0 (xh N.length ds) { nx:=fun ρ=>l < ρ.length /\ ta ρ fun rs=>(∀ r ∈ rs,r.k ≠ .own) /\ rs.length + 1=nI /\ TI (.ob C [] []) (rs.map EV.d) fun r0 d=>r0=.non /\ t2 (setS ρ l (dv d)) { nx:=fun ρ1=>t3 ρ1 { nx:=fun ρ2=>∃ ds,slot ρ2 l=some (dv (.ob C ns ds)) /\ TM (.ob C ns ds) [] fun e=>φ ⟨.new,e⟩,rt:=fun _ _=>False },rt:=fun _ _=>False },rt:=fun _=>False }):FnOk P w K mg base CX0 (k + 1) f fd ps (spD K ps.length T):=by
 refine hok (fun vs H Q E h=>?_) (fun qZ A outer s H vs Q E hr h=>?_)
 ·obtain ⟨ds,φ,hl,r,_⟩:=h
  rw [r.length,hl]
 ·obtain ⟨ds,φ,hl,r,hT,kk⟩:=h
  obtain ⟨t0,ta,t2,t3,h0,ha,h1,h2,h3,h4,hq⟩:=qY qZ A outer s H E ds φ hr hl hT
  rw [hb]
  refine ⟨_,xx (h0 ⟨H,trivial⟩) (xx (h1 (ha ⟨H,trivial⟩)) (xx (h2 ⟨H,trivial⟩) (xx (h3 ⟨H,trivial⟩) (k8 h4)))),?_⟩
  have R0:=ud (N:=N) (ds:=ds) (vs:=vs) (H:=H) r
  refine ⟨_,[],R0,_,hq,fun ρ σ1 H1 o1 g1 R1 hn=>?_,fun _ _ _ _ _ _ q=>q.elim,fun _ _ _ _ _ _ q=>q.elim,fun _ _ _ _ _ q=>q.elim⟩
  obtain ⟨hlt,hn⟩:=hn
  refine ⟨ρ,o1,R1,_,hn,fun us rs H2 s2' rvs hn2=>?_⟩
  obtain ⟨hown,hlen,hn2⟩:=hn2
  intro x0 dx hx0 hdx hne
  have sx:Same H2 (upd (upd H2 dx (.own x0)) x0 (.ins C dx [])):=(zw hdx _).trans (zw (by rw [y0 (Ne.symm hne)]; exact hx0) _)
  show spQ K nI TI (.ref x0 :: (us ++ [])) _ _ E0
  rw [List.append_nil]
  have rr:=rvs.reps hown
  have gx:Grow (o1.map Prod.snd) [x0] H2 (upd (upd H2 dx (.own x0)) x0 (.ins C dx [])):=⟨fun c u hc _=>⟨sx _ _ hc,fun z=>by rw [List.mem_singleton.mp z,hx0] at hc; cases hc⟩,fun c xs hc=>sx _ _ hc,fun c ob u hc=>sx _ _ hc⟩
  refine ⟨.ob C [] [],rs.map EV.d,.ref x0,us,[x0],_,rfl,by rw [zLm]; exact hlen,⟨x0,dx,[],[],rfl,zi,rfl,List.nodup_nil,rfl,rfl,rfl⟩,by simp,Reps.grow gx _ _ rr,hn2,fun u r0 d H3 A3 g3 ft3 nd3 fr3 pr3 rp3 hn3=>?_⟩
  obtain ⟨rfl,hn3⟩:=hn3
  have s13:Same H1 H3:=fun c u hc=>(g3.keep c u (sx _ _ (s2' _ _ hc)) fun z=>by rw [List.mem_singleton.mp z] at hc; rw [s2' _ _ hc] at hx0; cases hx0).1
  have fr13:∀ a ∈ A3,H1 a=none:=fun a ha=>by
   rcases fr3 a ha with z | z
   ·rw [List.mem_singleton.mp z]; exact s2'.free hx0
   ·exact s2'.free (sx.free z)
  refine ⟨rp3,?_⟩
  have S3:=ST.make (l:=l) R1 hlt s13 ft3 nd3 fr13
  refine ⟨_,o1,A3,d,.ref x0,S3,_,hn3,fun ρ4 σ4 H4 o4 A4 d4 S4 hn4=>⟨ρ4,o4,A4,d4,.ref x0,S4,_,hn4,fun ρ5 σ5 H5 o5 A5 d5 S5 hn5=>?_,fun _ _ _ _ _ _ _ q=>q.elim,fun _ _ _ _ _ _ _ q=>q.elim,fun _ _ _ _ _ _ _ _ _ _ _ q=>q.elim⟩,fun _ _ _ _ _ _ _ q=>q.elim,fun _ _ _ _ _ _ _ q=>q.elim,fun _ _ _ _ _ _ _ _ _ _ _ q=>q.elim⟩
  obtain ⟨es,esl,hn5⟩:=hn5
  have e5:some (dv d5)=some (dv (.ob C ns es)):=by rw [<- esl]; exact (xc S5.hd).symm
  cases e5
  obtain ⟨a5,dx5,xs5,B5,ev5,q5,ln5,nn5,eA5,r5⟩:=id S5.ft
  refine ⟨.ref x0,S5.hv,a5,dx5,_,ev5,q5,uz no,?_⟩
  show spR K nM TM (.ref x0 :: ([] ++ [])) H5 Q E0
  refine ⟨_,[],.ref x0,[],A5,_,rfl,by rw [lM]; rfl,S5.ft,S5.ndA,rfl,hn5,fun u5 e H6 k6 rn6 hn6=>?_⟩
  refine kk u5 ⟨.new,e⟩ H6 (fun c u hc=>k6 c u (S5.Q.same _ _ hc) fun z=>by have z2:H c=none:=S5.frA c z; rw [z2] at hc; cases hc) (RepN.to (Same.refl _) (fun a ha=>⟨by simp,?_⟩) _ _ rn6) trivial hn6
  exact ha.elim (S5.frA a) fun z=>S5.Q.same.free z
end
end DL
namespace DL
open PySem PySem.Spec L2 L3
open PyProof.Rows hiding St
variable {Γ:Hp->Prop}
noncomputable def gL6 (i j l m n q:Nat):TGD:=fun d ρ ψ=>match d with
 | .lst [a,b,c,e,f,g]=>ψ (setS (setS (setS (setS (setS (setS ρ i (dv a)) j (dv b)) l (dv c)) m (dv e)) n (dv f)) q (dv g))
 | _=>False
theorem Hc {K:W.Frag} (i j l m n q:Nat):gf K (gLst K 6 (qg (ug i) (qg (ug j) (qg (ug l) (qg (ug m) (qg (ug n) (qg (ug q) gNil))))))) (gL6 i j l m n q):=fun H₀ H σ ρ o d v ψ Q R h hg k=>by
 unfold gL6 at hg
 split at hg
 ·obtain ⟨p,xs,rfl,q,n,r⟩:=h
  obtain ⟨v1,r1,rfl,h1,v2,r2,rfl,h2,v3,r3,rfl,h3,v4,r4,rfl,h4,v5,r5,rfl,h5,v6,r6,rfl,h6,rfl⟩:=r
  refine ⟨p,_,rfl,SqL.of q,rfl,v1,_,rfl,v2,_,rfl,v3,_,rfl,v4,_,rfl,v5,_,rfl,v6,_,rfl,rfl,?_⟩
  exact k _ _ ((((((R.setV i h1).setV j h2).setV l h3).setV m h4).setV _ h5).setV _ h6) hg
 ·exact hg.elim
section
variable {X:Cx} {e1 e2:Expr} {t1 t2:TD} {pos:Pos}
noncomputable def di (i:Nat) (t1 t2:TD):TDS:=fun ρ Z=>match slot ρ i with
 | some ⟨.own,.lst ds⟩=>match popD ds with
  | some (ds',d)=>t1 ρ fun r1=>r1.k=.val /\ t2 ρ fun r2=>r2.k=.val /\ ds'.length <= 100000 /\ slot (setS ρ i (dO (.lst ds'))) i=some (dO (.lst ds')) /\ Z.nx (setS (setS ρ i (dO (.lst ds'))) i (dO (.lst (ds' ++ [.tup [r1.d,r2.d,d]]))))
  | none=>False
 | _=>False
theorem Tc (i:Nat) {x:Str} {x1} {np np2 apos apos2 cpos cpos2 tpos:Pos} (h1:ED Γ X e1 t1) (h2:ED Γ X e2 t2) (hi:X.N[i]?=some x:=by rfl) (hv:Vis X.env.scope x:=by first | exact Or.inl rfl | exact Or.inr (Or.inl rfl) | exact Or.inr (Or.inr rfl))
  (hd:(x == ("__debug__" : Str))=false:=by decide) (hcd:(x == ("__classdict__" : Str))=false:=by decide)
  (hp:∀ {ta tb tc td:TE},PE X (.Name x np) ta->PE X (.Name x np2) tb->PE X e1 tc->PE X e2 td->PS X (.Expr (.Call (.Attribute (.Name x np) "append" apos) [.Tuple [e1,e2,.Call (.Attribute (.Name x np2) "pop" apos2) [] [] cpos2] x1 tpos] [] cpos) pos)
    (Z4 (tBM X.K "list" qy ta (rq (tTup (rq tc (rq td (rq (tBM0 X.K "list" rPop tb) tNil)))) tNil))):=by
   intro ta tb tc td h1 h2 h3 h4
   exact vo (Xm PySem.F.plainAttrs_list PySem.F.slot_list_append PySem.F.type_list_append u3 h1 (yo (gw (yo h3 (yo h4 (yo (Ug PySem.F.plainAttrs_list PySem.F.slot_list_pop PySem.F.type_list_pop Uk h2) wu)))) wu))) :
  SD Γ X (.Expr (.Call (.Attribute (.Name x np) "append" apos) [.Tuple [e1,e2,.Call (.Attribute (.Name x np2) "pop" apos2) [] [] cpos2] x1 tpos] [] cpos) pos) (di i t1 t2):=fun H₀=>impS (hp (wt hi hv hd hcd) (wt hi hv hd hcd) (h1 H₀) (h2 H₀)) fun D σ H h=>by
 obtain ⟨ρ,o,R,Z,hZ,k1,k2,k3,k4⟩:=h
 unfold di at hZ
 split at hZ
 ·rename_i ds es'
  obtain ⟨v0,ev0,q0⟩:=R.slots i _ (yn es')
  rcases q0 with ⟨k,_⟩ | ⟨_,a,rfl,m,c⟩
  ·cases k
  obtain ⟨xs,hx,rx⟩:=c
  split at hZ
  ·rename_i ds' d ep
   refine ⟨.ref a,ev0,.inl ⟨rfl,xs,SqL.of hx⟩,ρ,o,R,_,hZ,fun v1 r1 H1 s1 rv1 g1=>⟨ρ,o,R.to s1,_,g1.2,fun v2 r2 H2 s2 rv2 g2=>?_⟩⟩
   obtain ⟨hk2,hdl,hsl,hn⟩:=g2
   have hk1:=g1.1
   have R2:=(R.to s1).to s2
   obtain ⟨v0',ev0',q0'⟩:=R2.slots i _ (yn es')
   rcases q0' with ⟨k,_⟩ | ⟨_,a2,rfl,m2,c2⟩
   ·cases k
   have ea:a2=a:=by
    rw [ev0] at ev0'
    cases ev0'
    rfl
   subst ea
   obtain ⟨xs2,hx2,rx2⟩:=c2
   obtain ⟨yv,ey,hyv,rd⟩:=dj rx2 ep
   obtain ⟨R3,g3⟩:=R2.chg (d':=.lst ds') (ho:=.lst xs2.dropLast) (yn es') ev0 m2 ⟨fun _ z=>(by cases z),fun _ _ z=>(by cases z)⟩ fun gr=>⟨xs2.dropLast,zi,gr _ _ rd⟩
   have hy3:=Rep.grow g3 _ _ hyv
   have w1:Rep X.K H1 (o.map Prod.snd) r1.d v1:=by
    unfold RV at rv1
    rw [hk1] at rv1
    exact rv1
   have w2:Rep X.K H2 (o.map Prod.snd) r2.d v2:=by
    unfold RV at rv2
    rw [hk2] at rv2
    exact rv2
   have w1':=Rep.grow g3 _ _ (Rep.grow (Grow.same s2) _ _ w1)
   have w2':=Rep.grow g3 _ _ w2
   refine ⟨.ref a2,ev0,.inl ⟨rfl,xs2,SqL.of hx2⟩,a2,xs2,yv,rfl,rfl,hx2,ey,?_⟩
   refine ⟨by show 3 <= sizeLine; rw [sizeLine_eq]; decide,fun p hpn=>?_⟩
   have s4:=zw hpn (.tup [v1,v2,yv])
   have R4:=R3.to s4
   obtain ⟨v5,ev5,q5⟩:=R4.slots i _ (yn hsl)
   rcases q5 with ⟨k,_⟩ | ⟨_,a5,rfl,m5,c5⟩
   ·cases k
   have ea5:a5=a2:=by
    rw [ev0] at ev5
    cases ev5
    rfl
   subst ea5
   obtain ⟨xs5,hx5,rx5⟩:=c5
   refine ⟨a5,xs5,.ref p,rfl,rfl,hx5,by rw [rx5.length]; exact Nat.lt_of_le_of_lt hdl (by decide),?_⟩
   obtain ⟨R6,g6⟩:=R4.chg (d':=.lst (ds' ++ [.tup [r1.d,r2.d,d]])) (ho:=.lst (xs5 ++ [.ref p])) (yn hsl) ev0 m5 ⟨fun _ z=>(by cases z),fun _ _ z=>(by cases z)⟩ fun gr =>
    ⟨xs5 ++ [.ref p],zi,gr _ _ (rx5.append (Reps.one (d:=.tup [r1.d,r2.d,d]) (v:=.ref p) ⟨p,[v1,v2,yv],rfl,⟨SqT.of zi,zi⟩,v1,_,rfl,Rep.grow (Grow.same s4) _ _ w1',v2,_,rfl,Rep.grow (Grow.same s4) _ _ w2',yv,_,rfl,Rep.grow (Grow.same s4) _ _ hy3,rfl⟩))⟩
   exact k1 _ σ _ o ((Grow.same s1).trans ((Grow.same s2).trans (g3.trans ((Grow.same s4).trans g6)))) R6 hn
  ·exact hZ.elim
 ·exact hZ.elim
end
end DL
namespace DL
open PySem PySem.Spec L2 L3
open PyProof.Rows hiding St
variable {Γ:Hp->Prop} {l:Nat}
noncomputable def C1 (l:Nat) (b:Bool) (te:TD) (t2 t3:TQS) (tr:TDS):TDS:=fun ρ Z=>l < ρ.length /\ te ρ fun r=>zh r.d /\ t2 (setS ρ l (dv (.lst [.lst [],.lst [],r.d,.bl b]))) { nx:=fun ρ1=>t3 ρ1 { nx:=fun ρ2=>tr ρ2 { nx:=fun _=>False,rt:=Z.rt },rt:=fun _ _=>False },rt:=fun _ _=>False }
theorem Kg {X:Cx} {e:Expr} {te:TD} {s2 s3:Stmt} {rest:List Stmt} {t2 t3:TQS} {tr:TDS} {x:Str} {b:Bool} {p1 p2 p3 p4 p5 pos:Pos} {j} (l:Nat) (hN:X.N.Nodup) (he:ED Γ X e te) (h2:QS Γ l X s2 t2) (h3:QS Γ l X s3 t3) (hr:SDs Γ X rest tr)
  (hi:X.N[l]?=some x:=by rfl) (hx:Loc X.env.scope x:=by first | exact Or.inl rfl | exact Or.inr rfl) (hs:swapsWith (.List [.List [] p1,.List [] p2,e,.Constant (.bool b) j p3] p4) (some (.Name x p5)) pos.line X.env=pure false:=by rfl)
  (hf:X.fn x=true \/ X.env.scope.names.lookup x=some .local:=by first | exact .inl rfl | exact .inr rfl | assumption)
  (g1:starEach [.List [] p1,.List [] p2,e,.Constant (.bool b) j p3] X.env=(false,eval (.List [] p1) X.env) :: starEach [.List [] p2,e,.Constant (.bool b) j p3] X.env:=by rfl)
  (g2:starEach [.List [] p2,e,.Constant (.bool b) j p3] X.env=(false,eval (.List [] p2) X.env) :: starEach [e,.Constant (.bool b) j p3] X.env:=by rfl)
  (g3:starEach [e,.Constant (.bool b) j p3] X.env=(false,eval e X.env) :: starEach [.Constant (.bool b) j p3] X.env:=by rfl)
  (g4:starEach [.Constant (.bool b) j p3] X.env=(false,eval (.Constant (.bool b) j p3) X.env) :: starEach [] X.env:=by rfl) :
  SDs Γ X (.Assign [.Name x p5] (.List [.List [] p1,.List [] p2,e,.Constant (.bool b) j p3] p4) pos :: s2 :: s3 :: rest) (C1 l b te t2 t3 tr):=fun H₀ =>
 Yj (xx (rg hN hi hx (Zg (yo (Zg wu) (yo (Zg wu) (yo (he H₀) (yo E3 wu g4) g3) g2) g1)) hs hf) (xx (h2 H₀) (xx (h3 H₀) (hr H₀)))) fun Dz σ H h=>by
  obtain ⟨ρ,o,R,Z,⟨hl,hZ⟩,k1,k2,k3,k4⟩:=h
  refine ⟨by rw [sizeLine_eq]; simp,fun a ha=>⟨by rw [sizeLine_eq]; simp,fun c hc=>?_⟩⟩
  have n1:=zw ha (HO.lst [])
  have n2:=zw hc (HO.lst [])
  have hc0:H c=none:=n1.free hc
  refine ⟨ρ,o,R.to (n1.trans n2),_,hZ,fun u r H3 s3' rv h1=>?_⟩
  obtain ⟨pr,h1⟩:=h1
  refine ⟨by rw [sizeLine_eq]; simp,fun q hq=>?_⟩
  have n4:=zw hq (HO.lst [.ref a,.ref c,u,.bl b])
  have hq3:=s3'.free hq
  have hq2:=n2.free hq3
  have hq0:=n1.free hq2
  have ac:a ≠ c:=fun z=>by subst z; rw [zi] at hc; cases hc
  have aq:a ≠ q:=fun z=>by subst z; rw [zi] at hq2; cases hq2
  have cq:c ≠ q:=fun z=>by subst z; rw [zi] at hq3; cases hq3
  have S:=ST.make (l:=l) R hl (((n1.trans n2).trans s3').trans n4) (A:=[q,a,c]) (d:=.lst [.lst [],.lst [],r.d,.bl b]) (v:=.ref q)
   ⟨q,_,[a,c],rfl,zi,rfl,.ref a,_,[a],[c],rfl,rfl,⟨a,[],[],rfl,n4 _ _ (s3' _ _ (n2 _ _ zi)),rfl,rfl,rfl⟩,.ref c,_,[c],[],rfl,rfl,⟨c,[],[],rfl,n4 _ _ (s3' _ _ zi),rfl,rfl,rfl⟩,u,_,[],[],rfl,rfl,Ft.keep (Gt.same n4) _ _ _ (fun _ hb=>by cases hb) (Rep.ft _ _ pr rv.view.rep0),.bl b,[],[],[],rfl,rfl,⟨rfl,rfl⟩,rfl,rfl⟩
   (by simp [ac,Ne.symm aq,Ne.symm cq]) (fun z hz=>by
    rcases List.mem_cons.mp hz with rfl | hz
    ·exact hq0
    rcases List.mem_cons.mp hz with rfl | hz
    ·exact ha
    rw [List.mem_singleton.mp hz]; exact hc0)
  refine ⟨_,o,_,_,_,S,_,h1,fun ρ1 σ1 H1 o1 A1 d1 S1 q1=>⟨ρ1,o1,A1,d1,_,S1,_,q1,fun ρ2 σ2 H2 o2 A2 d2 S2 q2=>⟨ρ2,o2,S2.R,_,q2,fun _ _ _ _ _ _ z=>z.elim,fun _ _ _ _ _ _ z=>z.elim,fun _ _ _ _ _ _ z=>z.elim,k4⟩,fun _ _ _ _ _ _ _ z=>z.elim,fun _ _ _ _ _ _ _ z=>z.elim,fun _ _ _ _ _ _ _ _ _ _ _ z=>z.elim⟩,fun _ _ _ _ _ _ _ z=>z.elim,fun _ _ _ _ _ _ _ z=>z.elim,fun _ _ _ _ _ _ _ _ _ _ _ z=>z.elim⟩
theorem sj {α:Type} {us:List α} (h:us.length=1):∃ a0,us=[a0]:=match us,h with
 | [a0],_=>⟨a0,rfl⟩
theorem ur {α:Type} {us:List α} (h:us.length=2):∃ a0 a1,us=[a0,a1]:=match us,h with
 | [a0,a1],_=>⟨a0,a1,rfl⟩
theorem c6 {α:Type} {us:List α} (h:us.length=3):∃ a0 a1 a2,us=[a0,a1,a2]:=match us,h with
 | [a0,a1,a2],_=>⟨a0,a1,a2,rfl⟩
theorem Ju {α:Type} {us:List α} (h:us.length=4):∃ a0 a1 a2 a3,us=[a0,a1,a2,a3]:=match us,h with
 | [a0,a1,a2,a3],_=>⟨a0,a1,a2,a3,rfl⟩
theorem Em {α:Type} {us:List α} (h:us.length=5):∃ a0 a1 a2 a3 a4,us=[a0,a1,a2,a3,a4]:=match us,h with
 | [a0,a1,a2,a3,a4],_=>⟨a0,a1,a2,a3,a4,rfl⟩
end DL
namespace K13
open PySem PySem.Spec L2 L3 DL
open PyProof.Rows hiding St
open PySem.Builtin.Int (intBits)
theorem eD_ {p:Prop} (h:¬p:=by decide):p=False:=eq_false h
theorem Wj:(("give" : Str) = "let")=False:=eD_
theorem Zx:(("give" : Str) = "less")=False:=eD_
theorem We:(("let" : Str) = "give")=False:=eD_
theorem Wd:(("let" : Str) = "less")=False:=eD_
theorem Zv:(("less" : Str) = "give")=False:=eD_
theorem Wf:(("less" : Str) = "let")=False:=eD_
theorem Zu:(("list" : Str) = "give")=False:=eD_
theorem Wc:(("list" : Str) = "let")=False:=eD_
theorem Zt:(("list" : Str) = "less")=False:=eD_
theorem Wb:(("list" : Str) = "num")=False:=eD_
theorem Zp:(("tree" : Str) = "give")=False:=eD_
theorem Xy:(("tree" : Str) = "let")=False:=eD_
theorem Zo:(("tree" : Str) = "less")=False:=eD_
theorem Zn:(("tree" : Str) = "list")=False:=eD_
theorem Xx:(("tree" : Str) = "num")=False:=eD_
theorem S8:(("num" : Str) = "var")=False:=eD_
theorem S9:(("num" : Str) = "nil")=False:=eD_
theorem W3:(("num" : Str) = "leaf")=False:=eD_
theorem W4:(("num" : Str) = "call")=False:=eD_
theorem Tv:(("var" : Str) = "num")=False:=eD_
theorem Tw:(("var" : Str) = "nil")=False:=eD_
theorem Xv:(("var" : Str) = "leaf")=False:=eD_
theorem Xw:(("var" : Str) = "call")=False:=eD_
theorem Sb:(("nil" : Str) = "num")=False:=eD_
theorem Sa:(("nil" : Str) = "var")=False:=eD_
theorem W9:(("nil" : Str) = "leaf")=False:=eD_
theorem Wa:(("nil" : Str) = "call")=False:=eD_
theorem Wh:(("leaf" : Str) = "num")=False:=eD_
theorem Wg:(("leaf" : Str) = "var")=False:=eD_
theorem Wi:(("leaf" : Str) = "nil")=False:=eD_
theorem Zw:(("leaf" : Str) = "call")=False:=eD_
theorem Wp:(("call" : Str) = "num")=False:=eD_
theorem Wo:(("call" : Str) = "var")=False:=eD_
theorem Wq:(("call" : Str) = "nil")=False:=eD_
theorem Y2:(("call" : Str) = "leaf")=False:=eD_
theorem Y3:(("call" : Str) = "cons")=False:=eD_
theorem Y1:(("call" : Str) = "node")=False:=eD_
theorem Wr:(("call" : Str) = "add")=False:=eD_
theorem Wl:(("cons" : Str) = "num")=False:=eD_
theorem Wk:(("cons" : Str) = "var")=False:=eD_
theorem Wm:(("cons" : Str) = "nil")=False:=eD_
theorem Zz:(("cons" : Str) = "leaf")=False:=eD_
theorem Y0:(("cons" : Str) = "call")=False:=eD_
theorem Zy:(("cons" : Str) = "node")=False:=eD_
theorem Wn:(("cons" : Str) = "add")=False:=eD_
theorem W6:(("node" : Str) = "num")=False:=eD_
theorem W5:(("node" : Str) = "var")=False:=eD_
theorem W7:(("node" : Str) = "nil")=False:=eD_
theorem Zq:(("node" : Str) = "leaf")=False:=eD_
theorem Zs:(("node" : Str) = "call")=False:=eD_
theorem Zr:(("node" : Str) = "cons")=False:=eD_
theorem W8:(("node" : Str) = "add")=False:=eD_
theorem Se:(("add" : Str) = "num")=False:=eD_
theorem Sd:(("add" : Str) = "var")=False:=eD_
theorem Sf:(("add" : Str) = "nil")=False:=eD_
theorem Wt:(("add" : Str) = "leaf")=False:=eD_
theorem Wv:(("add" : Str) = "call")=False:=eD_
theorem Wu:(("add" : Str) = "cons")=False:=eD_
theorem Ws:(("add" : Str) = "node")=False:=eD_
theorem Tz:(("sub" : Str) = "num")=False:=eD_
theorem Tx:(("sub" : Str) = "var")=False:=eD_
theorem S6:(("sub" : Str) = "nil")=False:=eD_
theorem W0:(("sub" : Str) = "leaf")=False:=eD_
theorem W2:(("sub" : Str) = "call")=False:=eD_
theorem W1:(("sub" : Str) = "cons")=False:=eD_
theorem Xz:(("sub" : Str) = "node")=False:=eD_
theorem S7:(("sub" : Str) = "add")=False:=eD_
theorem cg:(("body" : Str) = "value")=False:=eD_
theorem cj:(("body" : Str) = "apply")=False:=eD_
theorem ci:(("body" : Str) = "bring")=False:=eD_
theorem jr:(("body" : Str) = "choose")=False:=eD_
theorem c9:(("value" : Str) = "body")=False:=eD_
theorem jk:(("value" : Str) = "apply")=False:=eD_
theorem jj:(("value" : Str) = "bring")=False:=eD_
theorem ku:(("value" : Str) = "choose")=False:=eD_
theorem ck:(("apply" : Str) = "body")=False:=eD_
theorem jt:(("apply" : Str) = "value")=False:=eD_
theorem ju:(("apply" : Str) = "bring")=False:=eD_
theorem j5:(("apply" : Str) = "choose")=False:=eD_
theorem cf:(("bring" : Str) = "body")=False:=eD_
theorem jp:(("bring" : Str) = "value")=False:=eD_
theorem jq:(("bring" : Str) = "apply")=False:=eD_
theorem j4:(("bring" : Str) = "choose")=False:=eD_
theorem jo:(("choose" : Str) = "body")=False:=eD_
theorem kz:(("choose" : Str) = "value")=False:=eD_
theorem j3:(("choose" : Str) = "apply")=False:=eD_
theorem j0:(("choose" : Str) = "bring")=False:=eD_
theorem ca:(("leave" : Str) = "body")=False:=eD_
theorem jl:(("leave" : Str) = "value")=False:=eD_
theorem jn:(("leave" : Str) = "apply")=False:=eD_
theorem jm:(("leave" : Str) = "bring")=False:=eD_
theorem ky:(("leave" : Str) = "choose")=False:=eD_
local macro_rules | `(tactic| walk_at "dl")=>do
 let ids <- (("sNil sSeq sRet sIf sSet Gp sUn d2 d1 Sr dC slot setS EV.sto EV.ret aNil Mq dTup dLst Ml dCB sy vAnd vOr vNot vIf bAnd bOr bNot bYes tTru tBo truD sSub sFd sMod sPow sLt sGt sGe sI sI0 sAdd sMul sNeg sEq sNe sIs U2 Nt sIx sSl dSl Ef Ee sLen sIsI sTupC sListC sApp iSeq iR1 Lm gN gT2 xh V0 Yb Sj V6 V3 Ye V2 Wz Wy cm Wx Y7 Yc cv V4 List.map_cons List.map_nil zLc zLn List.cons_append List.nil_append List.replicate_succ List.replicate_zero Nat.reduceAdd Nat.reduceSub Nat.zero_add Nat.sub_self Bool.and_self Bool.and_true Bool.true_and true_and and_true Bool.not_true Bool.not_false forall_const true_implies false_implies Bool.true_eq_false Bool.false_eq_true reduceCtorEq implies_true yp Zh Xo Qg Ho Hn Ls ui zh zu Bool.not_eq_eq_eq_not beq_eq_false_iff_ne beq_iff_eq ne_eq decide_eq_true_eq decide_eq_false_iff_not Bool.not_eq_true Bool.not_eq_false not_true_eq_false not_false_eq_true Cu Ct Cs and_self Nat.beq_eq Nat.ble_eq Nat.reduceLeDiff eq_self Nat.reduceEqDiff sIxx keyD sIn cp10 Int.reduceLE Int.reduceToNat Rb Hw zLm Option.map_some Int.zero_add Gq Int.reduceEq Int.reduceNeg Int.reduceLT Option.map_none sFrz frzS iZ Om Oj Ol Yi sPop Xh sExt sAug Dl Dn Cr Ud dr On Y9 cr cu Yh cw Y8 V1 Yd Si V5 Yg sDictP Kn seqD qSeq qSet Fa qE qT qB qIf qNil qRet Fc Fe hid Kw La Q5 dFld fE2 fTup Hk fNil qFld Kx Fg Ky Fd Q6 Oz pFld pIxQ Jg Ly Lb rE rP Gy List.getElem?_cons_succ List.getElem?_cons_zero ix0 ix1 ix2 ix3 ix4 ix5 ix6 ix7 Fb qq at_0 Mo Dm Wj Zx We Wd Zv Wf Zu Wc Zt Wb Zp Xy Zo Zn Xx S8 S9 W3 W4 Tv Tw Xv Xw Sb Sa W9 Wa Wh Wg Wi Zw Wp Wo Wq Y2 Y3 Y1 Wr Wl Wk Wm Zz Y0 Zy Wn W6 W5 W7 Zq Zs Zr W8 Se Sd Sf Wt Wv Wu Ws Tz Tx S6 W0 W2 W1 Xz S7 cg cj ci jr c9 jk jj ku ck jt ju j5 cf jp jq j4 jo kz j3 j0 ca jl jn jm ky gL6 di".splitOn " ").toArray).mapM fun s=>`(Lean.Parser.Tactic.simpLemma| $(Lean.mkIdent s.toName):ident)
 `(tactic| simp only [$ids,*])
seal SDs SD ED EA ET EW EQ QA QT QS QSs QL
structure Tops (mg:Str->Option Value):Prop where
 ValueError:mg "ValueError" = none
 all:mg "all" = none
 bool:mg "bool" = none
 dict:mg "dict" = none
 int:mg "int" = none
 isinstance:mg "isinstance" = none
 len:mg "len" = none
 list:mg "list" = none
 range:mg "range" = none
 reversed:mg "reversed" = none
 tuple:mg "tuple" = none
 zip:mg "zip" = none
section
variable {P:Program} {w:World} {K:W.Frag} {mg:Str->Option Value} {base:Heap} {f C:Addr} {fd:FuncData}
noncomputable def mth (i:Nat):Stmt:=x6 (top 17) i
noncomputable def zf:List Str:=["functions", "most", "calls", "steps", "frames", "tasks", "ready", "is_cut"]
theorem ix0:ixF zf "functions" = some 0:=by decide
theorem ix1:ixF zf "most" = some 1:=by decide
theorem ix2:ixF zf "calls" = some 2:=by decide
theorem ix3:ixF zf "steps" = some 3:=by decide
theorem ix4:ixF zf "frames" = some 4:=by decide
theorem ix5:ixF zf "tasks" = some 5:=by decide
theorem ix6:ixF zf "ready" = some 6:=by decide
theorem ix7:ixF zf "is_cut" = some 7:=by decide
structure MS where
 calls:List D
 steps:List D
 frames:List (Int × List (Str × D))
 tasks:List D
 ready:List D
 cut:Bool
noncomputable def dkD (rows:List (Str × D)):D:=.dk (rows.map fun p=>Sum.inr p.1) (rows.map Prod.snd)
noncomputable def frD (p:Int × List (Str × D)):D:=.tup [.int p.1,dkD p.2]
noncomputable def msD (C:Addr) (fns:List (Str × D)) (most:Int) (s:MS):D:=.ob C zf [dkD fns,.int most,.lst s.calls,.lst s.steps,.lst (s.frames.map frD),.lst s.tasks,.lst s.ready,.bl s.cut]
noncomputable def yu (most:Int) (n:Int) (k:Str) (s:MS):Bool × MS:=if most <= s.steps.length then (false,{ s with cut:=true }) else (true,{ s with steps:=s.steps ++ [.tup [.int n,.str k]] })
noncomputable def Oa (C:Addr):FTQ:=fun d ds φ=>∃ fns most s n k,d=msD C fns most s /\ ds=[.int n,.str k] /\ s.steps.length <= 10000 /\ φ (.bl (yu most n k s).1) (msD C fns most (yu most n k s).2)
theorem He (T:Tops mg) (O:CO K C zf) (F:Fun K "step" "Run.step" (mth 3) f fd) (hm:Meth K C "step" f):FM P w K mg base 1 C zf "step" ["self", "number", "kind"] (Oa C):=by
 have S:zn ["self", "number", "kind"] ["self", "number", "kind"] (zb (mth 3)):=⟨rfl,rfl,rfl,by decide +kernel,rfl,by decide +kernel,by decide +kernel⟩
 refine uh F S (F.binds fun _ _ _ _ _ _ us hl=>(by obtain ⟨_,_,_,rfl⟩:=c6 hl; rfl)) hm (by decide) fun qZ A outer s H E d0 ds φ hr hl hT=>?_
 have hu:=hr.units
 refine ⟨_,(zo (xb (xm (Df (wf T.len (z9 (wg O (z0 0)) zc)) (wg O (z0 0)))) (zo (U7 O zr (yd wy))
    (zj (ve (t8 wy)))) wm)
   (zo (x4 (x3 O zr) (yd (zp (z9 (z0 1) (z9 (z0 2) zc)))))
   (zj (ve (t8 wy))))),?_⟩
 obtain ⟨fns,most,ms,n,k,rfl,rfl,hl5,h⟩:=hT
 unfold msD at h ⊢
 walk_at "dl"
 unfold yu at h
 refine ⟨fun q=>⟨trivial,_,_,rfl,rfl,by decide,_,rfl,?_⟩,fun q=>⟨_,_,rfl,rfl,_,_,rfl,rfl,by omega,⟨trivial,trivial,trivial⟩,_,rfl,?_⟩⟩
 ·rw [if_pos q] at h
  exact h
 ·rw [if_neg q] at h
  exact h
noncomputable def rowG:List (Str × D)->Str->Option D
 | [],_=>none
 | p :: r,z=>if p.1=z then some p.2 else rowG r z
theorem ki (z:Str):∀ rows:List (Str × D),qf (rows.map fun p=>(Sum.inr p.1:Key)) (rows.map Prod.snd) (Sum.inr z)=rowG rows z
 | []=>rfl
 | p :: r=>by
  show (if (Sum.inr p.1:Key)=Sum.inr z then some p.2 else qf (r.map fun p=>(Sum.inr p.1:Key)) (r.map Prod.snd) (Sum.inr z))=_
  unfold rowG
  by_cases h:p.1=z
  ·rw [if_pos h,if_pos (by rw [h])]
  ·rw [if_neg h,if_neg (fun e=>h (Sum.inr.inj e))]
   exact ki z r
theorem fm:∀ (zs:List Str) (vs:List D),zs.length=vs.length->(zs.map Sum.inr:List Key)=(zs.zip vs).map fun p=>(Sum.inr p.1:Key)
 | [],_,_=>rfl
 | _ :: _,[],h=>by simp at h
 | z :: zs,v :: vs,h=>by rw [List.map_cons,List.zip_cons_cons,List.map_cons,fm zs vs (by simpa using h)]
noncomputable def tOwn (C:Addr):FTQ:=fun d ds φ=>∃ fns most s k fs n rows,d=msD C fns most s /\ ds=[.str k] /\ s.steps.length <= 10000 /\ s.frames=fs ++ [(n,rows)] /\ φ (.bl (yu most n k s).1) (msD C fns most (yu most n k s).2)
noncomputable def Rc (C:Addr):FTQ:=fun d ds φ=>∃ fns most s fs n rows,∃ zs:List Str,∃ vs:List D,d=msD C fns most s /\ ds=[.tup (zs.map D.str),.tup vs] /\ s.frames=fs ++ [(n,rows)] /\ zs.length=vs.length /\ zs.length <= 10 /\ rows.length <= 900 /\ (rows.map Prod.fst ++ zs).Nodup /\ zu vs /\ φ .non (msD C fns most { s with frames:=fs ++ [(n,rows ++ zs.zip vs)] })
noncomputable def Vs (C:Addr):FTQ:=fun d ds φ=>∃ fns most s,∃ rs us:List D,d=msD C fns most s /\ ds=[.int us.length] /\ s.ready=rs ++ us /\ us ≠ [] /\ us.length <= 10 /\ zu us /\ zu rs /\ s.ready.length <= 10000 /\ φ (.tup us) (msD C fns most { s with ready:=rs })
theorem Vc (T:Tops mg) (O:CO K C zf) (Bm:FM P w K mg base 1 C zf "step" ["self", "number", "kind"] (Oa C)) (F:Fun K "own_step" "Run.own_step" (mth 4) f fd) (hm:Meth K C "own_step" f):FM P w K mg base 2 C zf "own_step" ["self", "kind"] (tOwn C):=by
 have S:zn ["self", "kind"] ["self", "kind"] (zb (mth 4)):=⟨rfl,rfl,rfl,by decide +kernel,rfl,by decide +kernel,by decide +kernel⟩
 refine uh F S (F.binds fun _ _ _ _ _ _ us hl=>(by obtain ⟨_,_,rfl⟩:=ur hl; rfl)) hm (by decide) fun qZ A outer s H E d0 ds φ hr hl hT=>?_
 have hu:=hr.units
 refine ⟨_,(zj (ve (y7 O Bm (hr.mono (by decide)) (k7 (t8 (ze hu (ze hu (wg O (z0 0)) (tm za)) za)) (zd (z0 1) y3))))),?_⟩
 obtain ⟨fns,most,ms,k,fs,n,rows,rfl,rfl,hl5,hf,h⟩:=hT
 have hfr:ms.frames.map frD=fs.map frD ++ [.tup [.int n,dkD rows]]:=by rw [hf,zMa]; rfl
 have e0:msD C fns most ms=.ob C zf [dkD fns,.int most,.lst ms.calls,.lst ms.steps,.lst (fs.map frD ++ [.tup [.int n,dkD rows]]),.lst ms.tasks,.lst ms.ready,.bl ms.cut]:=by unfold msD; rw [hfr]
 rw [e0]
 walk_at "dl"
 refine ⟨_,rfl,fns,most,ms,n,k,e0.symm,rfl,hl5,_,rfl,h⟩
theorem M3 (T:Tops mg) (O:CO K C zf) (F:Fun K "stand" "Run.stand" (mth 6) f fd) (hm:Meth K C "stand" f):FM P w K mg base 1 C zf "stand" ["self", "names", "things"] (Rc C):=by
 have S:zn ["self", "names", "things", "standing"] ["self", "names", "things"] (zb (mth 6)):=⟨rfl,rfl,rfl,by decide +kernel,rfl,by decide +kernel,by decide +kernel⟩
 refine uh F S (F.binds fun _ _ _ _ _ _ us hl=>(by obtain ⟨_,_,_,rfl⟩:=c6 hl; rfl)) hm (by decide) fun qZ A outer s H E d0 ds φ hr hl hT=>?_
 have hu:=hr.units
 refine ⟨_,(Oy 3 (by decide) S.nd (Ze (Ze (x3 O zr) (tm za)) za) (Uw T.dict T.zip (z9 (z0 1) (z9 (z0 2) zc)))),?_⟩
 obtain ⟨fns,most,ms,fs,n,rows,zs,vs,rfl,rfl,hf,hl1,hl2,hl3,nd,pv,h⟩:=hT
 unfold msD at h ⊢
 rw [hf,zMa,List.map_cons,List.map_nil]
 have nd2:zs.Nodup:=(List.nodup_append.mp nd).2.1
 walk_at "dl"
 have lf:(fs.map frD ++ [frD (n,rows)]).length=fs.length + 1:=by rw [zLa,zLm]; rfl
 have at4:(fs.map frD ++ [frD (n,rows)])[fs.length]?=some (frD (n,rows)):=by
  have:=List.getElem?_append_right (l₁:=fs.map frD) (l₂:=[frD (n,rows)]) (i:=fs.length) (by rw [zLm]; exact Nat.le_refl _)
  rw [this,zLm,Nat.sub_self]
  rfl
 have q1:∀ π,atQ (4 :: fs.length :: π) (.ob C zf [dkD fns,.int most,.lst ms.calls,.lst ms.steps,.lst (fs.map frD ++ [frD (n,rows)]),.lst ms.tasks,.lst ms.ready,.bl ms.cut])=atQ π (frD (n,rows)):=fun π=>by
  show (match (fs.map frD ++ [frD (n,rows)])[fs.length]? with | some x=>atQ π x | none=>none)=_
  rw [at4]
 refine ⟨_,_,rfl,rfl,_,_,_,_,fs.length,rfl,rfl,rfl,rfl,by rw [lf]; exact Nr _,_,_,_,_,1,rfl,q1 [],rfl,rfl,rfl,_,_,_,rfl,q1 [1],by decide,zs,vs,⟨.inr rfl,.inr rfl⟩,hl1,by omega,nd2,pv,by rw [zLm]; show rows.length + zs.length <= 1000; omega,?_,_,rfl,?_⟩
 ·have e:(rows.map fun (p:Str × D)=>(Sum.inr p.1:Key)) ++ zs.map Sum.inr=(rows.map Prod.fst ++ zs).map Sum.inr:=by rw [zMa,List.map_map]; rfl
  show ((rows.map fun (p:Str × D)=>(Sum.inr p.1:Key)) ++ zs.map Sum.inr).Nodup
  rw [e]
  exact List.Pairwise.map _ (fun a b h e=>h (Sum.inr.inj e)) nd
 ·have e1:(rows.map fun p=>(Sum.inr p.1:Key)) ++ zs.map Sum.inr=(rows ++ zs.zip vs).map fun p=>(Sum.inr p.1:Key):=by
   rw [zMa]
   rw [fm zs vs hl1]
  have e2:rows.map Prod.snd ++ vs=(rows ++ zs.zip vs).map Prod.snd:=by rw [zMa,wr hl1]
  have e3:putQ [4,fs.length,1] (.ob C zf [dkD fns,.int most,.lst ms.calls,.lst ms.steps,.lst (fs.map frD ++ [frD (n,rows)]),.lst ms.tasks,.lst ms.ready,.bl ms.cut]) (.dk ((rows.map fun p=>(Sum.inr p.1:Key)) ++ zs.map Sum.inr) (rows.map Prod.snd ++ vs))=.ob C zf [dkD fns,.int most,.lst ms.calls,.lst ms.steps,.lst (fs.map frD ++ [frD (n,rows ++ zs.zip vs)]),.lst ms.tasks,.lst ms.ready,.bl ms.cut]:=by
   rw [e1,e2]
   show D.ob C zf [dkD fns,.int most,.lst ms.calls,.lst ms.steps,(match (fs.map frD ++ [frD (n,rows)])[fs.length]? with | some x=>D.lst ((fs.map frD ++ [frD (n,rows)]).set fs.length (putQ [1] x (dkD (rows ++ zs.zip vs)))) | none=>.lst (fs.map frD ++ [frD (n,rows)])),.lst ms.tasks,.lst ms.ready,.bl ms.cut]=_
   rw [at4]
   show D.ob C zf [dkD fns,.int most,.lst ms.calls,.lst ms.steps,D.lst ((fs.map frD ++ [frD (n,rows)]).set fs.length (frD (n,rows ++ zs.zip vs))),.lst ms.tasks,.lst ms.ready,.bl ms.cut]=_
   rw [List.set_append_right _ _ (by rw [zLm]; exact Nat.le_refl _),zLm,Nat.sub_self]
   rfl
  have h2:=h
  rw [show (fs ++ [(n,rows ++ zs.zip vs)]).map frD=fs.map frD ++ [frD (n,rows ++ zs.zip vs)] from by rw [zMa]; rfl] at h2
  rw [<- e3] at h2
  exact h2
theorem M2 (T:Tops mg) (O:CO K C zf) (F:Fun K "taken" "Run.taken" (mth 7) f fd) (hm:Meth K C "taken" f):FM P w K mg base 1 C zf "taken" ["self", "many"] (Vs C):=by
 have S:zn ["self", "many", "parts"] ["self", "many"] (zb (mth 7)):=⟨rfl,rfl,rfl,by decide +kernel,rfl,by decide +kernel,by decide +kernel⟩
 refine uh F S (F.binds fun _ _ _ _ _ _ us hl=>(by obtain ⟨_,_,rfl⟩:=ur hl; rfl)) hm (by decide) fun qZ A outer s H E d0 ds φ hr hl hT=>?_
 have hu:=hr.units
 refine ⟨_,(zo (Kt 2 (by decide) S.nd (xo (wg O (z0 0)) (xa (tm (z0 1))) ss))
   (zo (U7 O zr (yd (xo (wg O (z0 0)) ss (xa (tm (z0 1))))))
   (zj (ve (t8 (jb T.tuple (z9 (z0 2) zc))))))),?_⟩
 obtain ⟨fns,most,ms,rs,us,rfl,rfl,hf,ne,hl1,pu,pr,hl2,h⟩:=hT
 unfold msD at h ⊢
 rw [hf]
 obtain ⟨c1,c2⟩:=Ps rs us ne
 walk_at "dl"
 rw [c1,c2]
 exact ⟨pu,pr,_,_,rfl,rfl,by decide,pu,_,rfl,h⟩
noncomputable def vlD (e:D):D:=.tup [.str "value", e]
noncomputable def bdD (b:D):D:=.tup [.str "body", b]
noncomputable def Xd (C:Addr):FTQ:=fun d ds φ=>∃ fns most s,∃ es:List D,∃ t,d=msD C fns most s /\ ds=[.tup es,t] /\ es.length <= 100 /\ zu es /\ zh t /\ s.tasks.length <= 10000 /\ φ .non (msD C fns most { s with tasks:=s.tasks ++ [t] ++ es.reverse.map vlD })
noncomputable def Rh (C:Addr):FTQ:=fun d ds φ=>∃ fns most s fs n rows z e b rs v,d=msD C fns most s /\ ds=[.tup [.str "let", .str z,e,b]] /\ s.frames=fs ++ [(n,rows)] /\ s.ready=rs ++ [v] /\ s.steps.length <= 10000 /\ s.ready.length <= 10000 /\ s.tasks.length <= 10000 /\ zh e /\ zh b /\ zh v /\ zu rs /\ rows.length <= 900 /\ (rows.map Prod.fst ++ [z]).Nodup /\
 φ .non (msD C fns most (match yu most n "let" s with
  | (true,s')=>{ s' with frames:=fs ++ [(n,rows ++ [(z,v)])],ready:=rs,tasks:=s.tasks ++ [bdD b] }
  | (false,s')=>s'))
noncomputable def Xc (C:Addr):FTQ:=fun d ds φ=>∃ fns most s fs n rows e1 e2 b1 b2 rs,∃ x y:Int,d=msD C fns most s /\ ds=[.tup [.str "less", e1,e2,b1,b2]] /\ s.frames=fs ++ [(n,rows)] /\ s.ready=rs ++ [.int x,.int y] /\ s.steps.length <= 10000 /\ s.ready.length <= 10000 /\ s.tasks.length <= 10000 /\ zh b1 /\ zh b2 /\ zu rs /\
 φ .non (msD C fns most (match yu most n "less" s with
  | (true,s')=>{ s' with ready:=rs,tasks:=s.tasks ++ [bdD (if x < y then b1 else b2)] }
  | (false,s')=>s'))
noncomputable def Rf (C:Addr):FTQ:=fun d ds φ=>∃ fns most s fs,∃ n:Nat,∃ rows nm args up rs v cl1 cl2,d=msD C fns most s /\ ds=[] /\ s.frames=fs ++ [((n:Int),rows)] /\ s.ready=rs ++ [v] /\ zh v /\ s.calls=cl1 ++ [.tup [nm,args,up,.bl false,.non]] ++ cl2 /\ cl1.length=n /\ zh nm /\ zh args /\ zh up /\
 φ .non (msD C fns most { s with frames:=fs,calls:=cl1 ++ [.tup [nm,args,up,.bl true,v]] ++ cl2 })
theorem M6 (T:Tops mg) (O:CO K C zf) (Cv:FM P w K mg base 2 C zf "own_step" ["self", "kind"] (tOwn C)) (Bh:FM P w K mg base 1 C zf "stand" ["self", "names", "things"] (Rc C)) (Cy:FM P w K mg base 1 C zf "taken" ["self", "many"] (Vs C)) (F:Fun K "bring" "Run.bring" (mth 11) f fd) (hm:Meth K C "bring" f):FM P w K mg base 3 C zf "bring" ["self", "body"] (Rh C):=by
 have S:zn ["self", "body"] ["self", "body"] (zb (mth 11)):=⟨rfl,rfl,rfl,by decide +kernel,rfl,by decide +kernel,by decide +kernel⟩
 refine uh F S (F.binds fun _ _ _ _ _ _ us hl=>(by obtain ⟨_,_,rfl⟩:=ur hl; rfl)) hm (by decide) fun qZ A outer s H E d0 ds φ hr hl hT=>?_
 have hu:=hr.units
 refine ⟨_,(zj (xb (gq (y7 O Cv (hr.mono (by decide)) (zd zk y3))) (zo (yi (y7 O Bh (hr.mono (by decide)) (zd (xo (z0 1) (xa za) (xa za)) (k7 (y7 O Cy (hr.mono (by decide)) (zd za y3)) y3))))
    (zj (x4 (x3 O zr) (yd (zp (z9 zk (z9 (ze hu (z0 1) za) zc))))))) wm)),?_⟩
 obtain ⟨fns,most,ms,fs,n,rows,z,e,b,rs,v,rfl,rfl,hf,hr1,hl1,hl2,hl3,pe,pb,pv,prs,hl4,nd,h⟩:=hT
 unfold msD
 walk_at "dl"
 refine ⟨_,rfl,fns,most,ms, "let", fs,n,rows,rfl,rfl,hl1,hf,?_⟩
 by_cases q:most <= ms.steps.length
 ·have es:yu most n "let" ms=(false,{ ms with cut:=true }):=by unfold yu; rw [if_pos q]
  rw [es] at h ⊢
  exact ⟨fun y=>(nomatch y),fun _=>⟨_,rfl,h⟩⟩
 ·have es:yu most n "let" ms=(true,{ ms with steps:=ms.steps ++ [.tup [.int n,.str "let"]] }):=by unfold yu; rw [if_neg q]
  rw [es] at h ⊢
  have ec:cutD [D.str "let", .str z,e,b] (some 1) (some 2)=[z].map D.str:=rfl
  have ea:atI [D.str "let", .str z,e,b] (3:Int)=some b:=rm (by decide) rfl
  rw [ec,ea]
  refine ⟨fun _=>⟨_,rfl,by decide,_,rfl,fns,most,{ ms with steps:=ms.steps ++ [.tup [.int n,.str "let"]] },rs,[v],rfl,rfl,hr1,by simp,by simp,⟨pv,trivial⟩,prs,hl2,?_⟩,fun y=>(nomatch y)⟩
  refine ⟨fns,most,{ ms with steps:=ms.steps ++ [.tup [.int n,.str "let"]],ready:=rs },fs,n,rows,[z],[v],rfl,rfl,hf,rfl,by simp,hl4,nd,⟨pv,trivial⟩,?_⟩
  exact ⟨_,_,rfl,rfl,_,_,rfl,rfl,by show ms.tasks.length <= 100000; omega,⟨trivial,pb,trivial⟩,_,rfl,h⟩
theorem P8 (T:Tops mg) (O:CO K C zf) (Cv:FM P w K mg base 2 C zf "own_step" ["self", "kind"] (tOwn C)) (Cy:FM P w K mg base 1 C zf "taken" ["self", "many"] (Vs C)) (F:Fun K "choose" "Run.choose" (mth 12) f fd) (hm:Meth K C "choose" f):FM P w K mg base 3 C zf "choose" ["self", "body"] (Xc C):=by
 have S:zn ["self", "body", "compared"] ["self", "body"] (zb (mth 12)):=⟨rfl,rfl,rfl,by decide +kernel,rfl,by decide +kernel,by decide +kernel⟩
 refine uh F S (F.binds fun _ _ _ _ _ _ us hl=>(by obtain ⟨_,_,rfl⟩:=ur hl; rfl)) hm (by decide) fun qZ A outer s H E d0 ds φ hr hl hT=>?_
 have hu:=hr.units
 refine ⟨_,(zj (xb (gq (y7 O Cv (hr.mono (by decide)) (zd zk y3))) (zo (xt 2 (by decide) S.nd (y7 O Cy (hr.mono (by decide)) (zd za y3)))
    (zj (x4 (x3 O zr) (yd (zp (z9 zk (z9 (qp (Hl (ze hu (z0 2) za) (ze hu (z0 2) za)) (ze hu (z0 1) za) (ze hu (z0 1) za)) zc))))))) wm)),?_⟩
 obtain ⟨fns,most,ms,fs,n,rows,e1,e2,b1,b2,rs,x,y,rfl,rfl,hf,hr1,hl1,hl2,hl3,p1,p2,prs,h⟩:=hT
 unfold msD
 walk_at "dl"
 refine ⟨_,rfl,fns,most,ms, "less", fs,n,rows,rfl,rfl,hl1,hf,?_⟩
 by_cases q:most <= ms.steps.length
 ·have es:yu most n "less" ms=(false,{ ms with cut:=true }):=by unfold yu; rw [if_pos q]
  rw [es] at h ⊢
  exact ⟨fun y=>(nomatch y),fun _=>⟨_,rfl,h⟩⟩
 ·have es:yu most n "less" ms=(true,{ ms with steps:=ms.steps ++ [.tup [.int n,.str "less"]] }):=by unfold yu; rw [if_neg q]
  rw [es] at h ⊢
  refine ⟨fun _=>⟨_,rfl,fns,most,{ ms with steps:=ms.steps ++ [.tup [.int n,.str "less"]] },rs,[.int x,.int y],rfl,rfl,hr1,by simp,by simp,⟨trivial,trivial,trivial⟩,prs,hl2,?_⟩,fun y=>(nomatch y)⟩
  have ea3:atI [D.str "less", e1,e2,b1,b2] (3:Int)=some b1:=rm (by decide) rfl
  have ea4:atI [D.str "less", e1,e2,b1,b2] (4:Int)=some b2:=rm (by decide) rfl
  refine ⟨_,_,rfl,rfl,_,_,rfl,rfl,by show ms.tasks.length <= 100000; omega,?_⟩
  simp only [at_0,Mo,ea3,ea4]
  refine ⟨fun q=>⟨⟨trivial,p1,trivial⟩,_,rfl,?_⟩,fun q=>⟨⟨trivial,p2,trivial⟩,_,rfl,?_⟩⟩
  ·rw [if_pos q] at h
   exact h
  ·rw [if_neg q] at h
   exact h
theorem M4 (T:Tops mg) (O:CO K C zf) (F:Fun K "leave" "Run.leave" (mth 17) f fd) (hm:Meth K C "leave" f):FM P w K mg base 1 C zf "leave" ["self"] (Rf C):=by
 have S:zn ["self", "frame"] ["self"] (zb (mth 17)):=⟨rfl,rfl,rfl,by decide +kernel,rfl,by decide +kernel,by decide +kernel⟩
 refine uh F S (F.binds fun _ _ _ _ _ _ us hl=>(by obtain ⟨_,rfl⟩:=sj hl; rfl)) hm (by decide) fun qZ A outer s H E d0 ds φ hr hl hT=>?_
 have hu:=hr.units
 refine ⟨_,(zo (y4 (Zd 1 (by decide) S.nd (x3 O zr)))
   (zj (y4 (k5 (x3 O zr) (ze hu (z0 1) za) (vk (xo (ze hu (wg O (z0 0)) (ze hu (z0 1) za)) ss (xa za)) (zp (z9 wy (z9 (ze hu (wg O (z0 0)) (tm za)) zc)))))))),?_⟩
 obtain ⟨fns,most,ms,fs,n,rows,nm,args,up,rs,v,cl1,cl2,rfl,rfl,hf,hr1,pv,hc,hn,p1,p2,p3,h⟩:=hT
 have hfr:ms.frames.map frD=fs.map frD ++ [frD ((n:Int),rows)]:=by rw [hf,zMa]; rfl
 have e0:msD C fns most ms=.ob C zf [dkD fns,.int most,.lst (cl1 ++ [.tup [nm,args,up,.bl false,.non]] ++ cl2),.lst ms.steps,.lst (fs.map frD ++ [frD ((n:Int),rows)]),.lst ms.tasks,.lst (rs ++ [v]),.bl ms.cut]:=by unfold msD; rw [hfr,hc,hr1]
 rw [e0]
 refine zg (fun ρ=>ρ=[some (dv (.ob C zf [dkD fns,.int most,.lst (cl1 ++ [.tup [nm,args,up,.bl false,.non]] ++ cl2),.lst ms.steps,.lst (fs.map frD),.lst ms.tasks,.lst (rs ++ [v]),.bl ms.cut])),some (dv (frD ((n:Int),rows)))]) ?_ ?_
 ·walk_at "dl"
  refine ⟨_,_,rfl,rfl,_,_,frD ((n:Int),rows),rfl,rfl,?_,?_⟩
  ·rw [zLa]
   show (fs.map frD ++ [frD ((n:Int),rows)])[(fs.map frD).length + 1 - 1]?=_
   rw [Nat.add_sub_cancel,List.getElem?_append_right (Nat.le_refl _),Nat.sub_self]
   rfl
  ·rw [List.dropLast_concat]
   rfl
 rintro _ rfl
 have ha:atI (cl1 ++ [D.tup [nm,args,up,.bl false,.non]] ++ cl2) (n:Int)=some (.tup [nm,args,up,.bl false,.non]):=rm (by omega) (by
  rw [show ((n:Int)).toNat=cl1.length from by omega,List.append_assoc,List.getElem?_append_right (Nat.le_refl _),Nat.sub_self]
  rfl)
 simp only [frD]
 refine ⟨fun ρ=>∃ d',slot ρ 0=some (dv d') /\ φ .non d',?_,fun _ y=>y⟩
 walk_at "dl"
 simp only [ha,qq]
 have ec:cutD [nm,args,up,D.bl false,D.non] none (some 3)=[nm,args,up]:=rfl
 rw [ec]
 refine ⟨fun y=>absurd y.2 (by unfold HT.sIx; simp),by simp,by rw [sizeLine_eq]; show 5 <= _; decide,⟨p1,p2,p3,trivial,pv,trivial⟩,_,_,rfl,rfl,_,_,_,n,rfl,rfl,rfl,?_,_,rfl,?_⟩
 ·unfold ixN
  rw [if_pos (by omega),if_pos (by rw [zLa,zLa]; simp; omega)]
  rfl
 ·have es:(cl1 ++ [D.tup [nm,args,up,.bl false,.non]] ++ cl2).set n (.tup ([nm,args,up] ++ [D.bl true,v]))=cl1 ++ [.tup [nm,args,up,.bl true,v]] ++ cl2:=by
   rw [List.append_assoc,List.set_append_right _ _ (by omega),hn,Nat.sub_self,List.append_assoc]
   rfl
  unfold msD at h
  simp only [hr1] at h
  rw [es]
  exact h
end
section
variable {P:Program} {w:World} {K:W.Frag} {mg:Str->Option Value} {base:Heap} {f C:Addr} {fd:FuncData} {R:Str->D->Int->Prop}
structure Con (K:W.Frag) (mg:Str->Option Value):Prop where
 c_MOST_CALLS:GC K mg "MOST_CALLS" (.int 20)
 c_MOST_SIZE:GC K mg "MOST_SIZE" (.int 100)
noncomputable def Vt (R:Str->D->Int->Prop):FT:=g2 fun a b φ=>∃ sh v n,a=.str sh /\ b=v /\ R sh v n /\ φ (dv (.int n))
noncomputable def d7 (C:Addr) (R:Str->D->Int->Prop):FTQ:=fun d ds φ=>∃ fns most s fs n rows sh v sz,d=msD C fns most s /\ ds=[.str sh,v] /\ s.frames=fs ++ [(n,rows)] /\ s.steps.length <= 10000 /\ s.ready.length <= 10000 /\ zh v /\ R sh v sz /\
 φ .non (msD C fns most (if 100 < sz then { s with cut:=true } else match yu most n "make" s with
  | (true,s')=>{ s' with ready:=s.ready ++ [v] }
  | (false,s')=>s'))
theorem Hf (T:Tops mg) (Z:Con K mg) (O:CO K C zf) (Cv:FM P w K mg base 2 C zf "own_step" ["self", "kind"] (tOwn C)) (Am:FD P w K mg base 5 "size_of" ["shape", "value"] (Vt R)) (F:Fun K "make" "Run.make" (mth 15) f fd) (hm:Meth K C "make" f):FM P w K mg base 6 C zf "make" ["self", "shape", "thing"] (d7 C R):=by
 have S:zn ["self", "shape", "thing"] ["self", "shape", "thing"] (zb (mth 15)):=⟨rfl,rfl,rfl,by decide +kernel,rfl,by decide +kernel,by decide +kernel⟩
 refine uh F S (F.binds fun _ _ _ _ _ _ us hl=>(by obtain ⟨_,_,_,rfl⟩:=c6 hl; rfl)) hm (by decide) fun qZ A outer s H E d0 ds φ hr hl hT=>?_
 have hu:=hr.units
 refine ⟨_,(zj (xb (xm (Hm (ya Am (hr.mono (by decide)) (z9 (z0 1) (z9 (z0 2) zc))) (Pj Z.c_MOST_SIZE))) (zj (U7 O zr (yd wy))) (zj (xb (gq (y7 O Cv (hr.mono (by decide)) (zd zk y3))) (zj (x4 (x3 O zr) (yd (z0 2)))) wm)))),?_⟩
 obtain ⟨fns,most,ms,fs,n,rows,sh,v,sz,rfl,rfl,hf,hl1,hl2,pv,hR,h⟩:=hT
 unfold msD
 walk_at "dl"
 simp only [Vt,DL.g2]
 refine ⟨sh,v,sz,rfl,rfl,hR,fun q=>⟨trivial,_,_,rfl,rfl,by decide,_,rfl,?_⟩,fun q=>⟨_,rfl,fns,most,ms, "make", fs,n,rows,rfl,rfl,hl1,hf,?_⟩⟩
 ·rw [if_pos q] at h
  exact h
 rw [if_neg q] at h
 have fv:frs2 (dv v):=by
  cases v <;> first | exact pv | exact pv.elim
 by_cases q2:most <= ms.steps.length
 ·have es:yu most n "make" ms=(false,{ ms with cut:=true }):=by unfold yu; rw [if_pos q2]
  rw [es] at h ⊢
  exact ⟨fun y=>(nomatch y),fun _=>⟨_,rfl,h⟩⟩
 ·have es:yu most n "make" ms=(true,{ ms with steps:=ms.steps ++ [.tup [.int n,.str "make"]] }):=by unfold yu; rw [if_neg q2]
  rw [es] at h ⊢
  exact ⟨fun _=>⟨_,_,rfl,rfl,_,_,rfl,rfl,by show ms.ready.length <= 100000; omega,fv,_,rfl,h⟩,fun y=>(nomatch y)⟩
theorem Pr (v:D) (r:List D):DL.cutD (v :: r) (some 1) none=r:=by
 unfold DL.cutD
 simp [HT.sIx]
noncomputable def qu (C:Addr):FTQ:=fun d ds φ=>∃ fns most s fs n rows,∃ kd x:Str,∃ b1 b2,d=msD C fns most s /\ s.frames=fs ++ [(n,rows)] /\ s.tasks.length <= 10000 /\ zh b1 /\ zh b2 /\ rows.length <= 900 /\
 ((∃ bs th,ds=[.tup (.str kd :: .str x :: b1 :: bs),th] /\ (th=.non \/ th=.tup []) /\ φ .non (msD C fns most { s with tasks:=s.tasks ++ [bdD b1] })) \/
  (∃ h t:Str,∃ v r,ds=[.tup [.str "list", .str x,b1,.str h,.str t,b2],.tup (v :: r)] /\ okD 40 (.tup (v :: r)) /\ zh v /\ zu r /\ (rows.map Prod.fst ++ [h,t]).Nodup /\ φ .non (msD C fns most { s with frames:=fs ++ [(n,rows ++ [(h,v),(t,.tup r)])],tasks:=s.tasks ++ [bdD b2] })) \/
  (∃ l m r:Str,∃ v1 v2 v3,ds=[.tup [.str "tree", .str x,b1,.str l,.str m,.str r,b2],.tup [v1,v2,v3]] /\ okD 40 (.tup [v1,v2,v3]) /\ zh v1 /\ zh v2 /\ zh v3 /\ (rows.map Prod.fst ++ [l,m,r]).Nodup /\ φ .non (msD C fns most { s with frames:=fs ++ [(n,rows ++ [(l,v1),(m,v2),(r,v3)])],tasks:=s.tasks ++ [bdD b2] })))
theorem P7 (T:Tops mg) (O:CO K C zf) (Bh:FM P w K mg base 1 C zf "stand" ["self", "names", "things"] (Rc C)) (F:Fun K "follow" "Run.follow" (mth 10) f fd) (hm:Meth K C "follow" f):FM P w K mg base 2 C zf "follow" ["self", "body", "thing"] (qu C):=by
 have S:zn ["self", "body", "thing", "parts"] ["self", "body", "thing"] (zb (mth 10)):=⟨rfl,rfl,rfl,by decide +kernel,rfl,by decide +kernel,by decide +kernel⟩
 refine uh F S (F.binds fun _ _ _ _ _ _ us hl=>(by obtain ⟨_,_,_,rfl⟩:=c6 hl; rfl)) hm (by decide) fun qZ A outer s H E d0 ds φ hr hl hT=>?_
 have hu:=hr.units
 refine ⟨_,(zo (xb (xm (EW.et (uu (Vi (z0 2) yy) (t7 (xu hu (z0 2) (zp zc)))))) (zo (x4 (x3 O zr) (yd (zp (z9 zk (z9 (ze hu (z0 1) za) zc)))))
    (zj Ku)) wm)
   (zo (qz 3 (by decide) S.nd (qp (xu hu (ze hu (z0 1) za) zk) (zp (z9 (ze hu (z0 2) za) (z9 (xo (z0 2) (xa za) ss) zc))) (z0 2)))
   (zo (yi (y7 O Bh (hr.mono (by decide)) (zd (xo (z0 1) (xa za) (xa (tm za))) (zd (z0 3) y3))))
   (zj (x4 (x3 O zr) (yd (zp (z9 zk (z9 (ze hu (z0 1) (tm za)) zc))))))))),?_⟩
 obtain ⟨fns,most,ms,fs,n,rows,kd,x,b1,b2,rfl,hf,hl1,p1,p2,hl4,h⟩:=hT
 unfold msD
 have ok0:okD 40 (.tup []):=by intro x h; cases h
 rcases h with ⟨bs,th,rfl,ht,h⟩ | ⟨z1,z2,v,r,rfl,ok,pv,pr,nd,h⟩ | ⟨z1,z2,z3,v1,v2,v3,rfl,ok,pv1,pv2,pv3,nd,h⟩
 ·rcases ht with rfl | rfl
  ·walk_at "dl"
   exact ⟨_,_,rfl,rfl,_,_,rfl,rfl,by show ms.tasks.length <= 100000; omega,⟨trivial,p1,trivial⟩,_,rfl,h⟩
  ·walk_at "dl"
   refine ⟨ok0,ok0,fun _=>?_,fun q=>(nomatch q)⟩
   exact ⟨_,_,rfl,rfl,_,_,rfl,rfl,by show ms.tasks.length <= 100000; omega,⟨trivial,p1,trivial⟩,_,rfl,h⟩
 ·walk_at "dl"
  have ea:atI [D.str "list", .str x,b1,.str z1,.str z2,b2] (-1:Int)=some b2:=qq (xs:=[D.str "list", .str x,b1,.str z1,.str z2]) ..
  rw [ea]
  have ec:DL.cutD (v :: r) (some 1) none=r:=Pr v r
  rw [ec]
  refine ⟨ok,ok0,fun q=>(nomatch q),fun _=>⟨fun y=>absurd y.1 ?_,_,rfl,fun y=>(nomatch y.1),?_⟩⟩
  ·unfold HT.sIx; simp
  refine ⟨fns,most,ms,fs,n,rows,[z1,z2],[v,.tup r],rfl,rfl,hf,rfl,by simp,hl4,nd,⟨pv,pr,trivial⟩,?_⟩
  exact ⟨_,_,rfl,rfl,_,_,rfl,rfl,by show ms.tasks.length <= 100000; omega,⟨trivial,p2,trivial⟩,_,rfl,h⟩
 ·walk_at "dl"
  have ea:atI [D.str "tree", .str x,b1,.str z1,.str z2,.str z3,b2] (-1:Int)=some b2:=qq (xs:=[D.str "tree", .str x,b1,.str z1,.str z2,.str z3]) ..
  have e0:(Str.ofString "tree" = Str.ofString "list")=False:=by decide
  rw [ea]
  simp only [e0,not_false_eq_true,forall_const,false_implies,true_and]
  refine ⟨ok,ok0,fun q=>(nomatch q),fun _=>?_⟩
  refine ⟨_,rfl,fun y=>(nomatch y.1),?_⟩
  refine ⟨fns,most,ms,fs,n,rows,[z1,z2,z3],[v1,v2,v3],rfl,rfl,hf,rfl,by simp,hl4,nd,⟨pv1,pv2,pv3,trivial⟩,?_⟩
  exact ⟨_,_,rfl,rfl,_,_,rfl,rfl,by show ms.tasks.length <= 100000; omega,⟨trivial,p2,trivial⟩,_,rfl,h⟩
theorem j8 {v:D} (pv:zh v):frs2 (dv v):=by
 cases v <;> first | exact pv | exact pv.elim
theorem P9 (T:Tops mg) (O:CO K C zf) (F:Fun K "behind" "Run.behind" (mth 8) f fd) (hm:Meth K C "behind" f):FM P w K mg base 1 C zf "behind" ["self", "parts", "task"] (Xd C):=by
 have S:zn ["self", "parts", "task"] ["self", "parts", "task"] (zb (mth 8)):=⟨rfl,rfl,rfl,by decide +kernel,rfl,by decide +kernel,by decide +kernel⟩
 refine uh F S (F.binds fun _ _ _ _ _ _ us hl=>(by obtain ⟨_,_,_,rfl⟩:=c6 hl; rfl)) hm (by decide) fun qZ A outer s H E d0 ds φ hr hl hT=>?_
 have hu:=hr.units
 refine ⟨_,(zo (y4 (x4 (x3 O zr) (yd (z0 2))))
   (zj (y4 (Kv (x3 O zr) (sv (T:=["part"]) (F:=[]) (js:=[]) (Yv T.reversed (z9 (z0 1) zc)) (show y9 (zb (mth 8)) _ ["part"] [] from ⟨rfl,by decide +kernel,by decide +kernel,by decide +kernel,by decide +kernel,by decide +kernel⟩) .nil (by decide) (fun cl C fp s H=>(yb (i:=0) (show ((["part"]:List Str) ++ ([]:List Str)).Nodup by decide +kernel) rfl (by walk_at "o"))) (w6 (by decide)) (w5 0) (fun cl C fp s H=>va) (fun cl C fp s H=>(zp (z9 zk (z9 (z0 0) zc))))))))),?_⟩
 obtain ⟨fns,most,ms,es,t,rfl,rfl,hl1,pe,pt,hl2,h⟩:=hT
 have ft:frs2 (dv t):=j8 pt
 refine zg (fun ρ=>ρ=[some (dv (msD C fns most { ms with tasks:=ms.tasks ++ [t] })),some (dv (.tup es)),some (dv t)]) ?_ ?_
 ·unfold msD
  walk_at "dl"
  exact ⟨_,_,rfl,rfl,_,_,rfl,rfl,by show ms.tasks.length <= 100000; omega,ft,rfl⟩
 rintro _ rfl
 refine ⟨fun ρ=>∃ d',slot ρ 0=some (dv d') /\ φ .non d',?_,fun _ y=>y⟩
 unfold msD
 simp only [Ky,pFld,Jg,slot,List.getElem?_cons_zero,ix5]
 refine ⟨_,_,rfl,rfl,_,_,rfl,rfl,by show (ms.tasks ++ [t]).length <= 100000; rw [zLa]; simp; omega,?_⟩
 refine wo es.reverse ?_ (fun d=>some (vlD d)) (by rw [List.length_reverse]; omega) ?_ ?_
 ·intro ψ hψ
  unfold iBT
  walk_at "dl"
  exact hψ
 ·intro d hd
  unfold ρ0
  walk_at "dl"
  rfl
 ·have ef:es.reverse.filterMap (fun d=>some (vlD d))=es.reverse.map vlD:=by rw [<- List.filterMap_eq_map]; rfl
  rw [ef]
  refine ⟨?_,by rw [zLm,List.length_reverse]; omega,_,rfl,?_⟩
  ·refine yw.mpr fun x hx=>?_
   obtain ⟨y,hy,rfl⟩:=List.mem_map.mp hx
   exact ⟨trivial,yw.mp pe y (List.mem_reverse.mp hy),trivial⟩
  ·exact h
noncomputable def Xa (C:Addr):FT:=fun ds φ=>∃ fns most s z fs n rows v,ds=[msD C fns most s,.str z] /\ s.frames=fs ++ [(n,rows)] /\ rowG rows z=some v /\ zh v /\ φ (dv v)
theorem Yo (T:Tops mg) (O:CO K C zf) (F:Fun K "standing" "Run.standing" (mth 5) f fd) (hm:Meth K C "standing" f):FMD P w K mg base 1 C zf "standing" ["self", "name"] (Xa C):=by
 have S:zn ["self", "name"] ["self", "name"] (zb (mth 5)):=⟨rfl,rfl,rfl,by decide +kernel,rfl,by decide +kernel,by decide +kernel⟩
 refine Dd F S (F.binds fun _ _ _ _ _ _ us hl=>(by obtain ⟨_,_,rfl⟩:=ur hl; rfl)) hm (by decide) fun qZ A outer s H E ds φ hr hl hT=>?_
 have hu:=hr.units
 refine ⟨_,(zx (yf (ze hu (ze hu (ze hu (wg O (z0 0)) (tm za)) za) (z0 1)))),?_⟩
 obtain ⟨fns,most,ms,z,fs,n,rows,v,rfl,hf,hv,pv,h⟩:=hT
 unfold msD
 rw [hf,zMa,List.map_cons,List.map_nil]
 simp only [frD]
 walk_at "dl"
 unfold dkD
 simp only [ki,hv]
 exact ⟨pv,h⟩
noncomputable def apD (e:D):D:=.tup [.str "apply", e]
noncomputable def tVal (C:Addr):FTQ:=fun d ds φ=>∃ fns most s,d=msD C fns most s /\ s.tasks.length <= 10000 /\ s.ready.length <= 10000 /\
 ((∃ v,ds=[.tup [.str "num", v]] /\ zh v /\ φ .non (msD C fns most { s with ready:=s.ready ++ [v] })) \/
  (∃ fs n rows z v,ds=[.tup [.str "var", .str z]] /\ s.frames=fs ++ [(n,rows)] /\ rowG rows z=some v /\ zh v /\ φ .non (msD C fns most { s with ready:=s.ready ++ [v] })) \/
  (ds=[.tup [.str "nil"]] /\ φ .non (msD C fns most { s with ready:=s.ready ++ [.tup []] })) \/
  (ds=[.tup [.str "leaf"]] /\ φ .non (msD C fns most { s with ready:=s.ready ++ [.non] })) \/
  (∃ f es,ds=[.tup [.str "call", f,.tup es]] /\ es.length <= 100 /\ zh f /\ zu es /\ φ .non (msD C fns most { s with tasks:=s.tasks ++ [apD (.tup [.str "call", f,.tup es])] ++ es.reverse.map vlD })) \/
  (∃ kd:Str,∃ es,ds=[.tup (.str kd :: es)] /\ (kd = "cons" \/ kd = "node" \/ kd = "add" \/ kd = "sub") /\ es.length <= 100 /\ zu es /\ φ .non (msD C fns most { s with tasks:=s.tasks ++ [apD (.tup (.str kd :: es))] ++ es.reverse.map vlD })))
theorem Z3 {d:D} {ds:List D} {φ ψ:D->D->Prop} (h:qu C d ds φ) (k:∀ d,φ .non d->ψ .non d):qu C d ds ψ:=by
 obtain ⟨fns,most,ms,fs,n,rows,kd,x,b1,b2,e,hf,hl1,p1,p2,hl4,h⟩:=h
 refine ⟨fns,most,ms,fs,n,rows,kd,x,b1,b2,e,hf,hl1,p1,p2,hl4,?_⟩
 rcases h with ⟨bs,th,e,ht,h⟩ | ⟨z1,z2,v,r,e,ok,pv,pr,nd,h⟩ | ⟨z1,z2,z3,v1,v2,v3,e,ok,pv1,pv2,pv3,nd,h⟩
 ·exact .inl ⟨bs,th,e,ht,k _ h⟩
 ·exact .inr (.inl ⟨z1,z2,v,r,e,ok,pv,pr,nd,k _ h⟩)
 ·exact .inr (.inr ⟨z1,z2,z3,v1,v2,v3,e,ok,pv1,pv2,pv3,nd,k _ h⟩)
noncomputable def brD (b:D):D:=.tup [.str "bring", b]
noncomputable def chD (b:D):D:=.tup [.str "choose", b]
noncomputable def Kf (C:Addr):FTQ:=fun d ds φ=>∃ fns most s,d=msD C fns most s /\ s.tasks.length <= 10000 /\
 ((∃ e,ds=[.tup [.str "give", e]] /\ zh e /\ φ .non (msD C fns most { s with tasks:=s.tasks ++ [vlD e] })) \/
  (∃ z e b,ds=[.tup [.str "let", z,e,b]] /\ zh z /\ zh e /\ zh b /\ φ .non (msD C fns most { s with tasks:=s.tasks ++ [brD (.tup [.str "let", z,e,b])] ++ [vlD e] })) \/
  (∃ e1 e2 b1 b2,ds=[.tup [.str "less", e1,e2,b1,b2]] /\ zh e1 /\ zh e2 /\ zh b1 /\ zh b2 /\ φ .non (msD C fns most { s with tasks:=s.tasks ++ [chD (.tup [.str "less", e1,e2,b1,b2])] ++ [vlD e2,vlD e1] })) \/
  (∃ kd x:Str,∃ bs fs n rows th,ds=[.tup (.str kd :: .str x :: bs)] /\ (kd = "list" \/ kd = "tree") /\ s.frames=fs ++ [(n,rows)] /\ s.steps.length <= 10000 /\ rowG rows x=some th /\ zh th /\
    (match yu most n "open" s with
   | (true,s')=>qu C (msD C fns most s') [.tup (.str kd :: .str x :: bs),th] φ
   | (false,s')=>φ .non (msD C fns most s'))))
theorem jw (T:Tops mg) (O:CO K C zf) (Ba:FM P w K mg base 1 C zf "behind" ["self", "parts", "task"] (Xd C)) (Cz:FMD P w K mg base 1 C zf "standing" ["self", "name"] (Xa C)) (F:Fun K "begin_value" "Run.begin_value" (mth 13) f fd) (hm:Meth K C "begin_value" f):FM P w K mg base 2 C zf "begin_value" ["self", "expression"] (tVal C):=by
 have S:zn ["self", "expression", "kind"] ["self", "expression"] (zb (mth 13)):=⟨rfl,rfl,rfl,by decide +kernel,rfl,by decide +kernel,by decide +kernel⟩
 refine uh F S (F.binds fun _ _ _ _ _ _ us hl=>(by obtain ⟨_,_,rfl⟩:=ur hl; rfl)) hm (by decide) fun qZ A outer s H E d0 ds φ hr hl hT=>?_
 have hu:=hr.units
 refine ⟨_,(zo (qz 2 (by decide) S.nd (ze hu (z0 1) za))
   (zj (xb (xm (xu hu (z0 2) zk)) (zj (x4 (x3 O zr) (yd (ze hu (z0 1) za)))) (zj (xb (xm (xu hu (z0 2) zk)) (zj (x4 (x3 O zr) (yd (Pi O Cz (hr.mono (by decide)) (z0 0) (z9 (ze hu (z0 1) za) zc))))) (zj (xb (xm (xu hu (z0 2) zk)) (zj (x4 (x3 O zr) (yd (zp zc)))) (zj (xb (xm (xu hu (z0 2) zk)) (zj (x4 (x3 O zr) (yd yy))) (zj (xb (xm (xu hu (z0 2) zk)) (zj (yi (y7 O Ba (hr.mono (by decide)) (zd (ze hu (z0 1) za) (zd (zp (z9 zk (z9 (z0 1) zc))) y3))))) (zj (yi (y7 O Ba (hr.mono (by decide)) (zd (xo (z0 1) (xa za) ss) (zd (zp (z9 zk (z9 (z0 1) zc))) y3)))))))))))))))),?_⟩
 obtain ⟨fns,most,ms,rfl,hl1,hl2,h⟩:=hT
 unfold msD
 rcases h with ⟨v,rfl,pv,h⟩ | ⟨fs,n,rows,z,v,rfl,hf,hv,pv,h⟩ | ⟨rfl,h⟩ | ⟨rfl,h⟩ | ⟨ff,es,rfl,hl3,pf,pe,h⟩ | ⟨kd,es,rfl,hk,hl3,pe,h⟩
 ·walk_at "dl"
  exact ⟨_,_,rfl,rfl,_,_,rfl,rfl,by show ms.ready.length <= 100000; omega,j8 pv,_,rfl,h⟩
 ·walk_at "dl"
  refine ⟨_,_,rfl,rfl,_,_,rfl,rfl,by show ms.ready.length <= 100000; omega,⟨_,rfl⟩,?_⟩
  refine ⟨fns,most,ms,z,fs,n,rows,v,rfl,hf,hv,pv,?_⟩
  exact ⟨j8 pv,_,rfl,h⟩
 ·walk_at "dl"
  exact ⟨_,_,rfl,rfl,_,_,rfl,rfl,by show ms.ready.length <= 100000; omega,trivial,_,rfl,h⟩
 ·walk_at "dl"
  exact ⟨_,_,rfl,rfl,_,_,rfl,rfl,by show ms.ready.length <= 100000; omega,trivial,_,rfl,h⟩
 ·walk_at "dl"
  refine ⟨_,rfl,fns,most,ms,es,apD _,rfl,rfl,hl3,pe,⟨trivial,⟨trivial,pf,pe,trivial⟩,trivial⟩,hl1,?_⟩
  exact ⟨_,rfl,h⟩
 ·rcases hk with rfl | rfl | rfl | rfl
  all_goals
   walk_at "dl"
   rw [Pr]
   refine ⟨_,rfl,⟨fun y=>absurd y.1 (by unfold HT.sIx; simp),?_⟩⟩
   refine ⟨fns,most,ms,es,apD _,rfl,rfl,hl3,pe,⟨trivial,⟨trivial,pe⟩,trivial⟩,hl1,?_⟩
   exact ⟨_,rfl,h⟩
theorem bf (T:Tops mg) (O:CO K C zf) (Ba:FM P w K mg base 1 C zf "behind" ["self", "parts", "task"] (Xd C)) (Cv:FM P w K mg base 2 C zf "own_step" ["self", "kind"] (tOwn C)) (Bn:FM P w K mg base 2 C zf "follow" ["self", "body", "thing"] (qu C)) (Cz:FMD P w K mg base 1 C zf "standing" ["self", "name"] (Xa C)) (F:Fun K "begin_body" "Run.begin_body" (mth 9) f fd) (hm:Meth K C "begin_body" f):FM P w K mg base 3 C zf "begin_body" ["self", "body"] (Kf C):=by
 have S:zn ["self", "body", "kind"] ["self", "body"] (zb (mth 9)):=⟨rfl,rfl,rfl,by decide +kernel,rfl,by decide +kernel,by decide +kernel⟩
 refine uh F S (F.binds fun _ _ _ _ _ _ us hl=>(by obtain ⟨_,_,rfl⟩:=ur hl; rfl)) hm (by decide) fun qZ A outer s H E d0 ds φ hr hl hT=>?_
 have hu:=hr.units
 refine ⟨_,(zo (qz 2 (by decide) S.nd (ze hu (z0 1) za))
   (zj (xb (xm (xu hu (z0 2) zk)) (zj (x4 (x3 O zr) (yd (zp (z9 zk (z9 (ze hu (z0 1) za) zc)))))) (zj (xb (xm (xu hu (z0 2) zk)) (zj (yi (y7 O Ba (hr.mono (by decide)) (zd (xo (z0 1) (xa za) (xa za)) (zd (zp (z9 zk (z9 (z0 1) zc))) y3))))) (zj (xb (xm (xu hu (z0 2) zk)) (zj (yi (y7 O Ba (hr.mono (by decide)) (zd (xo (z0 1) (xa za) (xa za)) (zd (zp (z9 zk (z9 (z0 1) zc))) y3))))) (zj (xb (gq (y7 O Cv (hr.mono (by decide)) (zd zk y3))) (zj (yi (y7 O Bn (hr.mono (by decide)) (zd (z0 1) (k7 (t8 (Pi O Cz (hr.mono (by decide)) (z0 0) (z9 (ze hu (z0 1) za) zc))) y3))))) wm))))))))),?_⟩
 obtain ⟨fns,most,ms,rfl,hl1,h⟩:=hT
 unfold msD
 rcases h with ⟨v,rfl,pv,h⟩ | ⟨z,e,b,rfl,p1,p2,p3,h⟩ | ⟨e1,e2,b1,b2,rfl,p1,p2,p3,p4,h⟩ | ⟨kd,x,bs,fs,n,rows,th,rfl,hk,hf,hl2,hv,pv,h⟩
 ·walk_at "dl"
  exact ⟨_,_,rfl,rfl,_,_,rfl,rfl,by show ms.tasks.length <= 100000; omega,⟨trivial,pv,trivial⟩,_,rfl,h⟩
 ·walk_at "dl"
  have ec:DL.cutD [D.str "let", z,e,b] (some 2) (some 3)=[e]:=rfl
  rw [ec]
  refine ⟨_,rfl,fun y=>(nomatch y.1),fns,most,ms,[e],brD _,rfl,rfl,by simp,⟨p2,trivial⟩,⟨trivial,⟨trivial,p1,p2,p3,trivial⟩,trivial⟩,hl1,?_⟩
  exact ⟨_,rfl,h⟩
 ·walk_at "dl"
  have ec:DL.cutD [D.str "less", e1,e2,b1,b2] (some 1) (some 3)=[e1,e2]:=rfl
  rw [ec]
  refine ⟨_,rfl,fun y=>(nomatch y.1),fns,most,ms,[e1,e2],chD _,rfl,rfl,by simp,⟨p1,p2,trivial⟩,⟨trivial,⟨trivial,p1,p2,p3,p4,trivial⟩,trivial⟩,hl1,?_⟩
  exact ⟨_,rfl,h⟩
 ·rcases hk with rfl | rfl
  all_goals
   walk_at "dl"
   refine ⟨_,rfl,fns,most,ms, "open", fs,n,rows,rfl,rfl,hl2,hf,?_⟩
   by_cases q:most <= ms.steps.length
   ·have es:yu most n "open" ms=(false,{ ms with cut:=true }):=by unfold yu; rw [if_pos q]
    rw [es] at h ⊢
    exact ⟨fun y=>(nomatch y),fun _=>⟨_,rfl,h⟩⟩
   ·have es:yu most n "open" ms=(true,{ ms with steps:=ms.steps ++ [.tup [.int n,.str "open"]] }):=by unfold yu; rw [if_neg q]
    rw [es] at h ⊢
    refine ⟨fun _=>?_,fun y=>(nomatch y)⟩
    refine ⟨_,rfl,⟨_,rfl⟩,fns,most,{ ms with steps:=ms.steps ++ [.tup [.int n,.str "open"]] },x,fs,n,rows,th,rfl,hf,hv,pv,pv,?_⟩
    exact Z3 h fun d hd=>⟨_,rfl,hd⟩
noncomputable def pmD (ps:List (Str × D)):D:=.tup (ps.map fun p=>.tup [.str p.1,p.2])
noncomputable def upD (fs:List (Int × List (Str × D))):D:=match fs.getLast? with
 | some p=>.int p.1
 | none=>.non
noncomputable def tj (most:Int) (nm:Str) (as:List D) (ps:List (Str × D)) (b:D) (s:MS):MS:=if 20 <= s.frames.length then { s with cut:=true } else match yu most s.calls.length "call" s with
 | (true,s')=>{ s' with calls:=s.calls ++ [.tup [.str nm,.tup as,upD s.frames,.bl false,.non]],frames:=s.frames ++ [((s.calls.length:Int),(ps.map Prod.fst).zip as)],tasks:=s.tasks ++ [.tup [.str "leave"]] ++ [bdD b] }
 | (false,s')=>s'
noncomputable def gj (C:Addr):FTQ:=fun d ds φ=>∃ fns most s,∃ nm:Str,∃ as:List D,∃ n0 ps sz b,d=msD C fns most s /\ ds=[.str nm,.tup as] /\ rowG fns nm=some (.tup [n0,pmD ps,sz,b]) /\ zh n0 /\ zu (ps.map Prod.snd) /\ zh sz /\ zh b /\ zu as /\ ps.length=as.length /\ as.length <= 10 /\ (ps.map Prod.fst).Nodup /\ s.steps.length <= 10000 /\ s.calls.length <= 10000 /\ s.tasks.length <= 10000 /\
 φ .non (msD C fns most (tj most nm as ps b s))
noncomputable def Rj (C:Addr) (R:Str->D->Int->Prop):FTQ:=fun d ds φ=>∃ fns most s rs,d=msD C fns most s /\ s.ready.length <= 10000 /\ zu rs /\
 ((∃ nm:Str,∃ es us,ds=[.tup [.str "call", .str nm,.tup es]] /\ s.ready=rs ++ us /\ us.length=es.length /\ us ≠ [] /\ us.length <= 10 /\ zu us /\ gj C (msD C fns most { s with ready:=rs }) [.str nm,.tup us] φ) \/
  (∃ e1 e2 v r,ds=[.tup [.str "cons", e1,e2]] /\ s.ready=rs ++ [v,.tup r] /\ zh v /\ zu r /\ r.length <= 10000 /\ d7 C R (msD C fns most { s with ready:=rs }) [.str "list", .tup (v :: r)] φ) \/
  (∃ e1 e2 e3 v1 v2 v3,ds=[.tup [.str "node", e1,e2,e3]] /\ s.ready=rs ++ [v1,v2,v3] /\ zh v1 /\ zh v2 /\ zh v3 /\ d7 C R (msD C fns most { s with ready:=rs }) [.str "tree", .tup [v1,v2,v3]] φ) \/
  (∃ (kd:Str),∃ e1 e2,∃ x y:Int,∃ fs n rows,ds=[.tup [.str kd,e1,e2]] /\ (kd = "add" \/ kd = "sub") /\ s.frames=fs ++ [(n,rows)] /\ s.steps.length <= 10000 /\ s.ready=rs ++ [.int x,.int y] /\
    φ .non (msD C fns most (match yu most n "sum" s with
   | (true,s')=>{ s' with ready:=rs ++ [.int (if kd = "add" then x + y else x - y)] }
   | (false,s')=>s'))))
theorem Xb {d:D} {ds:List D} {φ ψ:D->D->Prop} (h:gj C d ds φ) (k:∀ d,φ .non d->ψ .non d):gj C d ds ψ:=by
 obtain ⟨fns,most,s,nm,as,n0,ps,sz,b,h1,h2,h3,h4,h5,h6,h7,h8,h9,h10,h11,h12,h13,h14,h⟩:=h
 exact ⟨fns,most,s,nm,as,n0,ps,sz,b,h1,h2,h3,h4,h5,h6,h7,h8,h9,h10,h11,h12,h13,h14,k _ h⟩
theorem gi {d:D} {ds:List D} {φ ψ:D->D->Prop} (h:d7 C R d ds φ) (k:∀ d,φ .non d->ψ .non d):d7 C R d ds ψ:=by
 obtain ⟨fns,most,s,fs,n,rows,sh,v,sz,h1,h2,h3,h4,h5,h6,h7,h⟩:=h
 exact ⟨fns,most,s,fs,n,rows,sh,v,sz,h1,h2,h3,h4,h5,h6,h7,k _ h⟩
theorem M5 (T:Tops mg) (Z:Con K mg) (O:CO K C zf) (Bm:FM P w K mg base 1 C zf "step" ["self", "number", "kind"] (Oa C)) (F:Fun K "enter" "Run.enter" (mth 16) f fd) (hm:Meth K C "enter" f):FM P w K mg base 2 C zf "enter" ["self", "name", "args"] (gj C):=by
 have S:zn ["self", "name", "args", "number", "up", "function"] ["self", "name", "args"] (zb (mth 16)):=⟨rfl,rfl,rfl,by decide +kernel,rfl,by decide +kernel,by decide +kernel⟩
 refine uh F S (F.binds fun _ _ _ _ _ _ us hl=>(by obtain ⟨_,_,_,rfl⟩:=c6 hl; rfl)) hm (by decide) fun qZ A outer s H E d0 ds φ hr hl hT=>?_
 have hu:=hr.units
 refine ⟨_,(zo (y4 (xt 3 (by decide) S.nd (t8 (wf T.len (z9 (wg O (z0 0)) zc)))))
   (zj (y4 (xb (xm (Df (wf T.len (z9 (wg O (z0 0)) zc)) (Pj Z.c_MOST_CALLS))) (zj (y4 (U7 O zr (yd wy)))) (zj (y4 (xb (gq (y7 O Bm (hr.mono (by decide)) (zd (z0 3) (zd zk y3)))) (zo (y4 (xt 4 (by decide) S.nd (t8 (qp (yx (wg O (z0 0))) (ze hu (ze hu (wg O (z0 0)) (tm za)) za) yy))))
     (zo (y4 (xt 5 (by decide) S.nd (t8 (ze hu (wg O (z0 0)) (z0 1)))))
     (zo (y4 (x4 (x3 O zr) (yd (zp (z9 (z0 1) (z9 (z0 2) (z9 (z0 4) (z9 wy (z9 yy zc)))))))))
     (zo (y4 (x4 (x3 O zr) (Dh (Uu (yd (z0 3)) (Uu (yd (Uw T.dict T.zip (z9 (sv (T:=["param", "shape"]) (F:=[]) (js:=[]) (vv (ze hu (z0 5) za)) (show y9 (zb (mth 16)) _ ["param", "shape"] [] from ⟨rfl,by decide +kernel,by decide +kernel,by decide +kernel,by decide +kernel,by decide +kernel⟩) .nil (by decide) (fun cl C fp s H=>(Xl (K0:=K) (n:=2) (by rfl) (by rfl) (xn (yb (i:=0) (show ((["param", "shape"]:List Str) ++ ([]:List Str)).Nodup by decide +kernel) rfl (by walk_at "o")) (xn (yb (i:=1) (show ((["param", "shape"]:List Str) ++ ([]:List Str)).Nodup by decide +kernel) rfl (by walk_at "o")) du)))) (P1 (sn vt (V8 vt gz) (w6 (by decide)) (sn vt gz (w6 (by decide)) P2))) (V9 0 1) (fun cl C fp s H=>va) (fun cl C fp s H=>(z0 0))) (z9 (z0 2) zc)))) Hq)))))
     (zo (y4 (x4 (x3 O zr) (yd (zp (z9 zk zc)))))
     (zj (y4 (x4 (x3 O zr) (yd (zp (z9 zk (z9 (ze hu (z0 5) za) zc)))))))))))) wm))))))),?_⟩
 obtain ⟨fns,most,ms,nm,as,n0,ps,sz,b,rfl,rfl,hf,p1,p2,p3,p4,p5,hl,hl2,nd,hl3,hl4,hl5,h⟩:=hT
 refine zg (fun ρ=>ρ=[some (dv (msD C fns most ms)),some (dv (.str nm)),some (dv (.tup as)),some (dv (.int ms.calls.length)),none,none]) ?_ ?_
 ·unfold msD
  walk_at "dl"
 rintro _ rfl
 refine ⟨fun ρ=>∃ d',slot ρ 0=some (dv d') /\ φ .non d',?_,fun _ y=>y⟩
 unfold msD
 walk_at "dl"
 refine ⟨fun q=>⟨fun ρ=>∃ d',slot ρ 0=some (dv d') /\ φ .non d',?_,fun _ y=>y⟩,fun q=>⟨fun ρ=>∃ d',slot ρ 0=some (dv d') /\ φ .non d',?_,fun _ y=>y⟩⟩
 ·unfold tj at h
  rw [if_pos (by omega)] at h
  walk_at "dl"
  exact ⟨trivial,_,_,rfl,rfl,by decide,_,rfl,h⟩
 unfold tj at h
 rw [if_neg (by omega)] at h
 walk_at "dl"
 refine ⟨_,rfl,fns,most,ms,ms.calls.length, "call", rfl,rfl,hl3,?_⟩
 by_cases q2:most <= ms.steps.length
 ·have es:yu most ms.calls.length "call" ms=(false,{ ms with cut:=true }):=by unfold yu; rw [if_pos q2]
  rw [es] at h ⊢
  exact ⟨fun y=>(nomatch y),fun _=>⟨_,rfl,h⟩⟩
 have es:yu most ms.calls.length "call" ms=(true,{ ms with steps:=ms.steps ++ [.tup [.int ms.calls.length,.str "call"]] }):=by unfold yu; rw [if_neg q2]
 rw [es] at h ⊢
 refine ⟨fun _=>?_,fun y=>(nomatch y)⟩
 generalize e1:({ ms with steps:=ms.steps ++ [.tup [.int ms.calls.length,.str "call"]] }:MS)=s1 at h ⊢
 have f1:s1.frames=ms.frames:=by rw [<- e1]
 have f2:s1.calls=ms.calls:=by rw [<- e1]
 have f3:s1.tasks=ms.tasks:=by rw [<- e1]
 refine zg (fun ρ=>ρ=[some (dv (msD C fns most s1)),some (dv (.str nm)),some (dv (.tup as)),some (dv (.int ms.calls.length)),some (dv (upD ms.frames)),none]) ?_ ?_
 ·unfold msD
  rw [f1]
  rcases List.eq_nil_or_concat ms.frames with e | ⟨fs,p,e⟩
  ·rw [e]
   walk_at "dl"
   exact ⟨fun z=>(nomatch z),fun _=>rfl⟩
  ·obtain ⟨pn,pr⟩:=p
   rw [e,List.concat_eq_append,zMa]
   have eu:upD (fs ++ [(pn,pr)])=.int pn:=by unfold upD; simp
   rw [eu]
   simp only [frD,List.map_cons,List.map_nil]
   walk_at "dl"
   exact fun z=>absurd z (by simp)
 rintro _ rfl
 have ppm:zh (pmD ps):=yw.mpr fun x hx=>by
  obtain ⟨y,hy,rfl⟩:=List.mem_map.mp hx
  exact ⟨trivial,yw.mp p2 _ (List.mem_map.mpr ⟨y,hy,rfl⟩),trivial⟩
 refine zg (fun ρ=>ρ=[some (dv (msD C fns most s1)),some (dv (.str nm)),some (dv (.tup as)),some (dv (.int ms.calls.length)),some (dv (upD ms.frames)),some (dv (.tup [n0,pmD ps,sz,b]))]) ?_ ?_
 ·unfold msD
  walk_at "dl"
  unfold dkD
  simp only [ki,hf]
  exact ⟨⟨p1,ppm,p3,p4,trivial⟩,trivial⟩
 rintro _ rfl
 have pu:zh (upD ms.frames):=by unfold upD; split <;> trivial
 refine zg (fun ρ=>ρ=[some (dv (msD C fns most { s1 with calls:=ms.calls ++ [.tup [.str nm,.tup as,upD ms.frames,.bl false,.non]] })),some (dv (.str nm)),some (dv (.tup as)),some (dv (.int ms.calls.length)),some (dv (upD ms.frames)),some (dv (.tup [n0,pmD ps,sz,b]))]) ?_ ?_
 ·unfold msD
  walk_at "dl"
  refine ⟨_,_,rfl,rfl,_,_,rfl,rfl,by show s1.calls.length <= 100000; rw [f2]; omega,⟨trivial,p5,pu,trivial,trivial,trivial⟩,?_⟩
  rw [f2]
  rfl
 rintro _ rfl
 refine zg (fun ρ=>ρ=[some (dv (msD C fns most { s1 with calls:=ms.calls ++ [.tup [.str nm,.tup as,upD ms.frames,.bl false,.non]],frames:=ms.frames ++ [((ms.calls.length:Int),(ps.map Prod.fst).zip as)] })),some (dv (.str nm)),some (dv (.tup as)),some (dv (.int ms.calls.length)),some (dv (upD ms.frames)),some (dv (.tup [n0,pmD ps,sz,b]))]) ?_ ?_
 ·unfold msD
  walk_at "dl"
  refine ⟨_,_,rfl,rfl,_,_,rfl,rfl,by show (s1.frames.map frD).length <= 100000; rw [zLm,f1]; omega,trivial,?_⟩
  refine wo (ps.map fun p=>.tup [.str p.1,p.2]) ?_ (fun d=>match d with | .tup [a,_]=>some a | _=>none) (by rw [zLm]; omega) ?_ ?_
  ·intro ψ hψ
   unfold pmD
   walk_at "dl"
   exact hψ
  ·intro d hd
   obtain ⟨y,hy,rfl⟩:=List.mem_map.mp hd
   unfold ρ0
   walk_at "dl"
  ·have ef:(ps.map fun p=>D.tup [.str p.1,p.2]).filterMap (fun d=>match d with | .tup [a,_]=>some a | _=>none)=(ps.map Prod.fst).map D.str:=by
    rw [List.filterMap_map,List.map_map,<- List.filterMap_eq_map]
    rfl
   rw [ef]
   have lp:(ps.map Prod.fst).length=as.length:=by rw [zLm]; exact hl
   have e5:(ms.frames ++ [((ms.calls.length:Int),(ps.map Prod.fst).zip as)]).map frD=s1.frames.map frD ++ [D.tup [.int ms.calls.length,.dk ((ps.map Prod.fst).map Sum.inr) as]]:=by
    rw [zMa,f1]
    show _ ++ [D.tup [.int ms.calls.length,dkD ((ps.map Prod.fst).zip as)]]=_
    unfold dkD
    rw [<- fm _ _ lp,wr lp]
   refine ⟨ps.map Prod.fst,as,⟨.inl rfl,.inr rfl⟩,lp,by omega,nd,p5,?_⟩
   rw [e5]
   rfl
 rintro _ rfl
 refine zg (fun ρ=>ρ=[some (dv (msD C fns most { s1 with calls:=ms.calls ++ [.tup [.str nm,.tup as,upD ms.frames,.bl false,.non]],frames:=ms.frames ++ [((ms.calls.length:Int),(ps.map Prod.fst).zip as)],tasks:=ms.tasks ++ [.tup [.str "leave"]] })),some (dv (.str nm)),some (dv (.tup as)),some (dv (.int ms.calls.length)),some (dv (upD ms.frames)),some (dv (.tup [n0,pmD ps,sz,b]))]) ?_ ?_
 ·unfold msD
  walk_at "dl"
  refine ⟨_,_,rfl,rfl,_,_,rfl,rfl,by show s1.tasks.length <= 100000; rw [f3]; omega,⟨trivial,trivial⟩,?_⟩
  rw [f3]
  rfl
 rintro _ rfl
 refine ⟨fun ρ=>∃ d',slot ρ 0=some (dv d') /\ φ .non d',?_,fun _ y=>y⟩
 have ea:atI [n0,pmD ps,sz,b] (3:Int)=some b:=rm (by decide) rfl
 unfold msD
 walk_at "dl"
 rw [ea]
 exact ⟨_,_,rfl,rfl,_,_,rfl,rfl,by show (ms.tasks ++ [D.tup [D.str "leave"]]).length <= 100000; rw [zLa]; simp only [zLc,zLn]; omega,⟨trivial,p4,trivial⟩,_,rfl,h⟩
theorem M7 (T:Tops mg) (O:CO K C zf) (Bi:FM P w K mg base 2 C zf "enter" ["self", "name", "args"] (gj C)) (Cy:FM P w K mg base 1 C zf "taken" ["self", "many"] (Vs C)) (Bz:FM P w K mg base 6 C zf "make" ["self", "shape", "thing"] (d7 C R)) (Cv:FM P w K mg base 2 C zf "own_step" ["self", "kind"] (tOwn C)) (F:Fun K "apply" "Run.apply" (mth 14) f fd) (hm:Meth K C "apply" f):FM P w K mg base 7 C zf "apply" ["self", "expression"] (Rj C R):=by
 have S:zn ["self", "expression", "kind", "parts"] ["self", "expression"] (zb (mth 14)):=⟨rfl,rfl,rfl,by decide +kernel,rfl,by decide +kernel,by decide +kernel⟩
 refine uh F S (F.binds fun _ _ _ _ _ _ us hl=>(by obtain ⟨_,_,rfl⟩:=ur hl; rfl)) hm (by decide) fun qZ A outer s H E d0 ds φ hr hl hT=>?_
 have hu:=hr.units
 refine ⟨_,(zo (qz 2 (by decide) S.nd (ze hu (z0 1) za))
   (zj (xb (xm (xu hu (z0 2) zk)) (zj (yi (y7 O Bi (hr.mono (by decide)) (zd (ze hu (z0 1) za) (k7 (y7 O Cy (hr.mono (by decide)) (zd (wf T.len (z9 (ze hu (z0 1) za) zc)) y3)) y3))))) (zj (xb (xm (xu hu (z0 2) zk)) (zo (xt 3 (by decide) S.nd (y7 O Cy (hr.mono (by decide)) (zd za y3)))
     (zj (yi (y7 O Bz (hr.mono (by decide)) (zd zk (zd (jd (zp (z9 (ze hu (z0 3) za) zc)) (ze hu (z0 3) za)) y3)))))) (zj (xb (xm (xu hu (z0 2) zk)) (zj (yi (y7 O Bz (hr.mono (by decide)) (zd zk (k7 (y7 O Cy (hr.mono (by decide)) (zd za y3)) y3))))) (zj (xb (gq (y7 O Cv (hr.mono (by decide)) (zd zk y3))) (zo (xt 3 (by decide) S.nd (y7 O Cy (hr.mono (by decide)) (zd za y3)))
       (zj (x4 (x3 O zr) (yd (qp (xu hu (z0 2) zk) (vk (ze hu (z0 3) za) (ze hu (z0 3) za)) (Pf (ze hu (z0 3) za) (ze hu (z0 3) za))))))) wm))))))))),?_⟩
 obtain ⟨fns,most,ms,rs,rfl,hl1,prs,h⟩:=hT
 unfold msD
 rcases h with ⟨nm,es,us,rfl,hr1,hl2,ne,hl3,pu,h⟩ | ⟨e1,e2,v,r,rfl,hr1,pv,pr,hl2,h⟩ | ⟨e1,e2,e3,v1,v2,v3,rfl,hr1,pv1,pv2,pv3,h⟩ | ⟨kd,e1,e2,x,y,fs,n,rows,rfl,hk,hf,hl2,hr1,h⟩
 ·walk_at "dl"
  refine ⟨_,rfl,_,rfl,fns,most,ms,rs,us,rfl,by rw [hl2],hr1,ne,hl3,pu,prs,hl1,?_⟩
  exact Xb h fun d hd=>⟨_,rfl,hd⟩
 ·walk_at "dl"
  refine ⟨_,rfl,fns,most,ms,rs,[v,.tup r],rfl,rfl,hr1,by simp,by simp,⟨pv,pr,trivial⟩,prs,hl1,_,rfl,?_⟩
  simp only [at_0,Mo]
  refine ⟨pv,pr,by rw [sizeLine_eq]; simp only [zLc,zLn]; omega,?_⟩
  exact gi h fun d hd=>⟨_,rfl,hd⟩
 ·walk_at "dl"
  refine ⟨_,rfl,_,rfl,fns,most,ms,rs,[v1,v2,v3],rfl,rfl,hr1,by simp,by simp,⟨pv1,pv2,pv3,trivial⟩,prs,hl1,?_⟩
  exact gi h fun d hd=>⟨_,rfl,hd⟩
 ·rcases hk with rfl | rfl
  all_goals
   walk_at "dl"
   refine ⟨_,rfl,fns,most,ms, "sum", fs,n,rows,rfl,rfl,hl2,hf,?_⟩
   by_cases q:most <= ms.steps.length
   ·have es:yu most n "sum" ms=(false,{ ms with cut:=true }):=by unfold yu; rw [if_pos q]
    rw [es] at h ⊢
    exact ⟨fun y=>(nomatch y),fun _=>⟨_,rfl,h⟩⟩
   ·have es:yu most n "sum" ms=(true,{ ms with steps:=ms.steps ++ [.tup [.int n,.str "sum"]] }):=by unfold yu; rw [if_neg q]
    rw [es] at h ⊢
    refine ⟨fun _=>⟨_,rfl,fns,most,{ ms with steps:=ms.steps ++ [.tup [.int n,.str "sum"]] },rs,[.int x,.int y],rfl,rfl,hr1,by simp,by simp,⟨trivial,trivial,trivial⟩,prs,hl1,?_⟩,fun y=>(nomatch y)⟩
    simp only [at_0,Mo]
    exact ⟨_,_,rfl,rfl,_,_,rfl,rfl,by show rs.length <= 100000; have:=congrArg List.length hr1; rw [zLa] at this; omega,trivial,_,rfl,h⟩
noncomputable def Does (t:FTQ) (C:Addr) (fns:List (Str × D)) (most:Int) (ds:List D) (s s1:MS):Prop:=∀ φ:D->D->Prop,φ .non (msD C fns most s1)->t (msD C fns most s) ds φ
noncomputable def Mv (C:Addr) (R:Str->D->Int->Prop) (fns:List (Str × D)) (most:Int) (s s1:MS):Prop:=∃ ts,
 (∃ b,s.tasks=ts ++ [bdD b] /\ Does (Kf C) C fns most [b] { s with tasks:=ts } s1) \/
 (∃ e,s.tasks=ts ++ [vlD e] /\ Does (tVal C) C fns most [e] { s with tasks:=ts } s1) \/
 (∃ e,s.tasks=ts ++ [apD e] /\ Does (Rj C R) C fns most [e] { s with tasks:=ts } s1) \/
 (∃ b,s.tasks=ts ++ [brD b] /\ Does (Rh C) C fns most [b] { s with tasks:=ts } s1) \/
 (∃ b,s.tasks=ts ++ [chD b] /\ Does (Xc C) C fns most [b] { s with tasks:=ts } s1) \/
 (s.tasks=ts ++ [.tup [.str "leave"]] /\ Does (Rf C) C fns most [] { s with tasks:=ts } s1)
inductive RunN (C:Addr) (R:Str->D->Int->Prop) (fns:List (Str × D)) (most:Int):Nat->MS->MS->Prop
 | done {s:MS}:(s.tasks=[] \/ s.cut=true)->RunN C R fns most 0 s s
 | step {s s1 s2:MS} {n:Nat}:s.cut=false->Mv C R fns most s s1->RunN C R fns most n s1 s2->RunN C R fns most (n + 1) s s2
noncomputable def tGo (C:Addr) (R:Str->D->Int->Prop):FTQ:=fun d ds φ=>∃ fns most s s1 n,d=msD C fns most s /\ ds=[] /\ RunN C R fns most n s s1 /\ φ .non (msD C fns most s1)
theorem Yk (p:Nat->Prop) (h:∃ n,p n):∃ n,p n /\ ∀ m,p m->n <= m:=by
 obtain ⟨n,hn⟩:=h
 induction n using Nat.strongRecOn with
 | ind n ih =>
  by_cases q:∃ m,m < n /\ p m
  ·obtain ⟨m,lt,pm⟩:=q
   exact ih m lt pm
  ·exact ⟨n,hn,fun m pm=>Nat.le_of_not_lt fun lt=>q ⟨m,lt,pm⟩⟩
noncomputable def kn (p:Nat->Prop):Nat:=by
 classical
 exact if h:∃ n,p n then Classical.choose (Yk p h) else 0
theorem kl {p:Nat->Prop} (h:∃ n,p n):p (kn p) /\ ∀ m,p m->kn p <= m:=by
 unfold kn
 rw [dif_pos h]
 exact Classical.choose_spec (Yk p h)
theorem K7 {tc:TQb} {ρ:DE} {k:Bool->DE->Prop} (b:Bool) (h:∀ k:Bool->DE->Prop,k b ρ->tc ρ k) (hk:k b ρ):tc ρ k:=h k hk
noncomputable def goP (C:Addr) (R:Str->D->Int->Prop) (fns:List (Str × D)) (most:Int) (s1:MS) (ρ:DE) (n:Nat):Prop:=∃ s t,ρ=[some (dv (msD C fns most s)),t] /\ RunN C R fns most n s s1
theorem Co (T:Tops mg) (O:CO K C zf) (Bd:FM P w K mg base 3 C zf "begin_body" ["self", "body"] (Kf C)) (Bb:FM P w K mg base 2 C zf "begin_value" ["self", "expression"] (tVal C)) (A0:FM P w K mg base 7 C zf "apply" ["self", "expression"] (Rj C R)) (A6:FM P w K mg base 3 C zf "bring" ["self", "body"] (Rh C)) (Bo:FM P w K mg base 3 C zf "choose" ["self", "body"] (Xc C)) (A7:FM P w K mg base 1 C zf "leave" ["self"] (Rf C)) (F:Fun K "go" "Run.go" (mth 2) f fd) (hm:Meth K C "go" f):FM P w K mg base 8 C zf "go" ["self"] (tGo C R):=by
 have S:zn ["self", "task"] ["self"] (zb (mth 2)):=⟨rfl,rfl,rfl,by decide +kernel,rfl,by decide +kernel,by decide +kernel⟩
 refine uh F S (F.binds fun _ _ _ _ _ _ us hl=>(by obtain ⟨_,rfl⟩:=sj hl; rfl)) hm (by decide) fun qZ A outer s H E d0 ds φ hr hl hT=>?_
 have hu:=hr.units
 refine ⟨_,(zj (Ox (xm (EW.et (Pb (yx (wg O (z0 0))) (Vg (wx (yx (wg O (z0 0)))))))) (zo (y4 (Zd 1 (by decide) S.nd (x3 O zr)))
    (zj (xb (xm (xu hu (ze hu (z0 1) za) zk)) (zj (yi (y7 O Bd (hr.mono (by decide)) (zd (ze hu (z0 1) za) y3)))) (zj (xb (xm (xu hu (ze hu (z0 1) za) zk)) (zj (yi (y7 O Bb (hr.mono (by decide)) (zd (ze hu (z0 1) za) y3)))) (zj (xb (xm (xu hu (ze hu (z0 1) za) zk)) (zj (yi (y7 O A0 (hr.mono (by decide)) (zd (ze hu (z0 1) za) y3)))) (zj (xb (xm (xu hu (ze hu (z0 1) za) zk)) (zj (yi (y7 O A6 (hr.mono (by decide)) (zd (ze hu (z0 1) za) y3)))) (zj (xb (xm (xu hu (ze hu (z0 1) za) zk)) (zj (yi (y7 O Bo (hr.mono (by decide)) (zd (ze hu (z0 1) za) y3)))) (zj (yi (Ut O A7 (hr.mono (by decide)))))))))))))))))),?_⟩
 obtain ⟨fns,most,ms,s1,n,rfl,rfl,hR,h⟩:=hT
 refine ⟨fun ρ=>∃ n,goP C R fns most s1 ρ n,fun ρ=>kn (goP C R fns most s1 ρ),⟨n,ms,none,rfl,hR⟩,fun ρ1 hP=>?_⟩
 obtain ⟨hm,_⟩:=kl hP
 obtain ⟨m,em⟩:∃ m,m=kn (goP C R fns most s1 ρ1):=⟨_,rfl⟩
 rw [<- em] at hm
 obtain ⟨s,t,rfl,hm⟩:=hm
 refine K7 (!s.tasks.isEmpty && !s.cut) (fun k hk=>?_) ?_
 ·unfold msD at hk ⊢
  walk_at "dl"
  refine ⟨fun z=>?_,fun z=>?_⟩
  ·rw [z] at hk
   exact hk
  ·rw [z] at hk
   exact hk
 refine ⟨fun q=>?_,fun q=>?_⟩
 ·have less:∀ (s2:MS) (t2:Option EV) (m2:Nat),RunN C R fns most m2 s2 s1->m2 < m->(∃ n,goP C R fns most s1 [some (dv (msD C fns most s2)),t2] n) /\ kn (goP C R fns most s1 [some (dv (msD C fns most s2)),t2]) < kn (goP C R fns most s1 [some (dv (msD C fns most s)),t]):=fun s2 t2 m2 h2 lt=>⟨⟨m2,s2,t2,rfl,h2⟩,by rw [<- em]; exact Nat.lt_of_le_of_lt ((kl ⟨m2,s2,t2,rfl,h2⟩).2 m2 ⟨s2,t2,rfl,h2⟩) lt⟩
  cases hm with
  | done hd =>
   rcases hd with hd | hd
   ·rw [hd] at q; cases q
   ·rw [hd] at q; simp at q
  | @step s s2 s3 m hc mv hr2 =>
   obtain ⟨ts,mv⟩:=mv
   rcases mv with ⟨b,et,mv⟩ | ⟨b,et,mv⟩ | ⟨b,et,mv⟩ | ⟨b,et,mv⟩ | ⟨b,et,mv⟩ | ⟨et,mv⟩
   ·refine zg (fun ρ=>ρ=[some (dv (msD C fns most { s with tasks:=ts })),some (dv (bdD b))]) ?_ ?_
    ·unfold msD
     rw [et]
     walk_at "dl"
     refine ⟨_,_,rfl,rfl,_,_,bdD b,rfl,rfl,?_,?_⟩
     ·rw [zLa]
      show (ts ++ [bdD b])[ts.length + 1 - 1]?=_
      rw [Nat.add_sub_cancel,List.getElem?_append_right (Nat.le_refl _),Nat.sub_self]
      rfl
     ·rw [List.dropLast_concat]
      rfl
    rintro _ rfl
    simp only [bdD,vlD,apD,brD,chD]
    unfold msD
    walk_at "dl"
    exact ⟨_,rfl,mv _ (less s2 _ _ hr2 (Nat.lt_succ_self _))⟩
   ·refine zg (fun ρ=>ρ=[some (dv (msD C fns most { s with tasks:=ts })),some (dv (vlD b))]) ?_ ?_
    ·unfold msD
     rw [et]
     walk_at "dl"
     refine ⟨_,_,rfl,rfl,_,_,vlD b,rfl,rfl,?_,?_⟩
     ·rw [zLa]
      show (ts ++ [vlD b])[ts.length + 1 - 1]?=_
      rw [Nat.add_sub_cancel,List.getElem?_append_right (Nat.le_refl _),Nat.sub_self]
      rfl
     ·rw [List.dropLast_concat]
      rfl
    rintro _ rfl
    simp only [bdD,vlD,apD,brD,chD]
    unfold msD
    walk_at "dl"
    exact ⟨_,rfl,mv _ (less s2 _ _ hr2 (Nat.lt_succ_self _))⟩
   ·refine zg (fun ρ=>ρ=[some (dv (msD C fns most { s with tasks:=ts })),some (dv (apD b))]) ?_ ?_
    ·unfold msD
     rw [et]
     walk_at "dl"
     refine ⟨_,_,rfl,rfl,_,_,apD b,rfl,rfl,?_,?_⟩
     ·rw [zLa]
      show (ts ++ [apD b])[ts.length + 1 - 1]?=_
      rw [Nat.add_sub_cancel,List.getElem?_append_right (Nat.le_refl _),Nat.sub_self]
      rfl
     ·rw [List.dropLast_concat]
      rfl
    rintro _ rfl
    simp only [bdD,vlD,apD,brD,chD]
    unfold msD
    walk_at "dl"
    exact ⟨_,rfl,mv _ (less s2 _ _ hr2 (Nat.lt_succ_self _))⟩
   ·refine zg (fun ρ=>ρ=[some (dv (msD C fns most { s with tasks:=ts })),some (dv (brD b))]) ?_ ?_
    ·unfold msD
     rw [et]
     walk_at "dl"
     refine ⟨_,_,rfl,rfl,_,_,brD b,rfl,rfl,?_,?_⟩
     ·rw [zLa]
      show (ts ++ [brD b])[ts.length + 1 - 1]?=_
      rw [Nat.add_sub_cancel,List.getElem?_append_right (Nat.le_refl _),Nat.sub_self]
      rfl
     ·rw [List.dropLast_concat]
      rfl
    rintro _ rfl
    simp only [bdD,vlD,apD,brD,chD]
    unfold msD
    walk_at "dl"
    exact ⟨_,rfl,mv _ (less s2 _ _ hr2 (Nat.lt_succ_self _))⟩
   ·refine zg (fun ρ=>ρ=[some (dv (msD C fns most { s with tasks:=ts })),some (dv (chD b))]) ?_ ?_
    ·unfold msD
     rw [et]
     walk_at "dl"
     refine ⟨_,_,rfl,rfl,_,_,chD b,rfl,rfl,?_,?_⟩
     ·rw [zLa]
      show (ts ++ [chD b])[ts.length + 1 - 1]?=_
      rw [Nat.add_sub_cancel,List.getElem?_append_right (Nat.le_refl _),Nat.sub_self]
      rfl
     ·rw [List.dropLast_concat]
      rfl
    rintro _ rfl
    simp only [bdD,vlD,apD,brD,chD]
    unfold msD
    walk_at "dl"
    exact ⟨_,rfl,mv _ (less s2 _ _ hr2 (Nat.lt_succ_self _))⟩
   ·refine zg (fun ρ=>ρ=[some (dv (msD C fns most { s with tasks:=ts })),some (dv (D.tup [D.str "leave"]))]) ?_ ?_
    ·unfold msD
     rw [et]
     walk_at "dl"
     refine ⟨_,_,rfl,rfl,_,_,D.tup [D.str "leave"],rfl,rfl,?_,?_⟩
     ·rw [zLa]
      show (ts ++ [D.tup [D.str "leave"]])[ts.length + 1 - 1]?=_
      rw [Nat.add_sub_cancel,List.getElem?_append_right (Nat.le_refl _),Nat.sub_self]
      rfl
     ·rw [List.dropLast_concat]
      rfl
    rintro _ rfl
    simp only [bdD,vlD,apD,brD,chD]
    unfold msD
    walk_at "dl"
    exact ⟨_,rfl,mv _ (less s2 _ _ hr2 (Nat.lt_succ_self _))⟩
 ·refine ⟨_,rfl,?_⟩
  cases hm with
  | done hd=>exact h
  | @step s s2 s3 m hc mv hr2 =>
   obtain ⟨ts,mv⟩:=mv
   have ne:s.tasks ≠ []:=by
    rcases mv with ⟨b,et,mv⟩ | ⟨b,et,mv⟩ | ⟨b,et,mv⟩ | ⟨b,et,mv⟩ | ⟨b,et,mv⟩ | ⟨et,mv⟩
    all_goals
     rw [et]
     simp
   rw [hc] at q
   cases e:s.tasks with
   | nil=>exact absurd e ne
   | cons x y=>rw [e] at q; cases q
end
section
variable {P:Program} {w:World} {K:W.Frag} {mg:Str->Option Value} {base:Heap} {f C:Addr} {fd:FuncData} {R:Str->D->Int->Prop} {Fz:D->D->Prop}
noncomputable def ms0:MS:={ calls:=[],steps:=[],frames:=[],tasks:=[],ready:=[],cut:=false }
noncomputable def Kc (C:Addr):FTQ:=fun d ds φ=>∃ fns:List (Str × D),∃ most,d=.ob C [] [] /\ ds=[.tup (fns.map Prod.snd),.int most] /\ fns.length <= 100 /\ (fns.map Prod.fst).Nodup /\ zu (fns.map Prod.snd) /\ (∀ p ∈ fns,∃ r,p.2=.tup (.str p.1 :: r)) /\ φ .non (msD C fns most ms0)
noncomputable def K8 (C:Addr):FTR:=fun d ds φ=>∃ fns most s,d=msD C fns most s /\ ds=[] /\
 ((s.cut=true /\ φ (.tup [.bl false,.non,.lst s.calls,.lst s.steps])) \/ (s.cut=false /\ ∃ v r,s.ready=v :: r /\ zh v /\ φ (.tup [.bl true,v,.lst s.calls,.lst s.steps])))
theorem Hg (T:Tops mg) (O:CO K C zf) (F:Fun K "__init__" "Run.__init__" (mth 0) f fd) (hm:Meth K C "__init__" f):FM P w K mg base 2 C zf "__init__" ["self", "program", "most"] (Kc C):=by
 have S:zn ["self", "program", "most"] ["self", "program", "most"] (zb (mth 0)):=⟨rfl,rfl,rfl,by decide +kernel,rfl,by decide +kernel,by decide +kernel⟩
 refine uh F S (F.binds fun _ _ _ _ _ _ us hl=>(by obtain ⟨_,_,_,rfl⟩:=c6 hl; rfl)) hm (by decide) fun qZ A outer s H E d0 ds φ hr hl hT=>?_
 have hu:=hr.units
 refine ⟨_,(zo (y4 (u1 O.cl (O.na _ (by decide)) zr (yd (Me T.dict (z9 (sv (T:=["function"]) (F:=[]) (js:=[]) (vv (z0 1)) (show y9 (zb (mth 0)) _ ["function"] [] from ⟨rfl,by decide +kernel,by decide +kernel,by decide +kernel,by decide +kernel,by decide +kernel⟩) .nil (by decide) (fun cl C fp s H=>(yb (i:=0) (show ((["function"]:List Str) ++ ([]:List Str)).Nodup by decide +kernel) rfl (by walk_at "o"))) (w6 (by decide)) (w5 0) (fun cl C fp s H=>va) (fun cl C fp s H=>(zp (z9 (ze hu (z0 0) za) (z9 (z0 0) zc))))) zc)))))
   (zo (y4 (u1 O.cl (O.na _ (by decide)) zr (yd (z0 2))))
   (zo (y4 (u1 O.cl (O.na _ (by decide)) zr (yd (ua zc))))
   (zo (y4 (u1 O.cl (O.na _ (by decide)) zr (yd (ua zc))))
   (zo (y4 (u1 O.cl (O.na _ (by decide)) zr (yd (ua zc))))
   (zo (y4 (u1 O.cl (O.na _ (by decide)) zr (yd (ua zc))))
   (zo (y4 (u1 O.cl (O.na _ (by decide)) zr (yd (ua zc))))
   (zj (y4 (u1 O.cl (O.na _ (by decide)) zr (yd wy))))))))))),?_⟩
 obtain ⟨fns,most,rfl,rfl,hl1,nd,pf,hn,h⟩:=hT
 refine zg (fun ρ=>ρ=[some (dv (.ob C ["functions"] [dkD fns])),some (dv (.tup (fns.map Prod.snd))),some (dv (.int most))]) ?_ ?_
 ·simp only [Kx,fE2,dCB,Mq,aNil]
  refine wo (fns.map Prod.snd) ?_ (fun d=>match d with | .tup (.str z :: r)=>some (.tup [.str z,.tup (.str z :: r)]) | _=>none) (by rw [zLm]; omega) ?_ ?_
  ·intro ψ hψ
   walk_at "dl"
   exact hψ
  ·intro d hd
   obtain ⟨y,hy,rfl⟩:=List.mem_map.mp hd
   obtain ⟨r,er⟩:=hn y hy
   rw [er]
   unfold ρ0
   walk_at "dl"
  ·have ef:(fns.map Prod.snd).filterMap (fun d=>match d with | .tup (.str z :: r)=>some (D.tup [.str z,.tup (.str z :: r)]) | _=>none)=Qe (fns.map fun p=>Sum.inr p.1) (fns.map Prod.snd):=by
    clear hl1 nd pf h hl
    induction fns with
    | nil=>rfl
    | cons p fns ih =>
     obtain ⟨r,er⟩:=hn p List.mem_cons_self
     simp only [List.map_cons,List.filterMap_cons,er]
     rw [ih fun q hq=>hn q (List.mem_cons_of_mem _ hq)]
     rfl
   rw [ef]
   refine ⟨_,_,rfl,by rw [zLm,zLm],?_,pf,_,[],[],rfl,rfl,by simp,by simp,rfl⟩
   rw [show (fns.map fun p=>(Sum.inr p.1:Key))=(fns.map Prod.fst).map Sum.inr from by rw [List.map_map]; rfl]
   exact List.Pairwise.map _ (fun a b h e=>h (Sum.inr.inj e)) nd
 rintro _ rfl
 refine zg (fun ρ=>ρ=[some (dv (.ob C ["functions", "most"] [dkD fns,.int most])),some (dv (.tup (fns.map Prod.snd))),some (dv (.int most))]) ?_ ?_
 ·walk_at "dl"
  exact ⟨trivial,_,_,_,rfl,rfl,by decide,by decide,rfl⟩
 rintro _ rfl
 refine zg (fun ρ=>ρ=[some (dv (.ob C ["functions", "most", "calls"] [dkD fns,.int most,.lst []])),some (dv (.tup (fns.map Prod.snd))),some (dv (.int most))]) ?_ ?_
 ·walk_at "dl"
  exact ⟨trivial,_,_,_,rfl,rfl,by decide,by decide,rfl⟩
 rintro _ rfl
 refine zg (fun ρ=>ρ=[some (dv (.ob C ["functions", "most", "calls", "steps"] [dkD fns,.int most,.lst [],.lst []])),some (dv (.tup (fns.map Prod.snd))),some (dv (.int most))]) ?_ ?_
 ·walk_at "dl"
  exact ⟨trivial,_,_,_,rfl,rfl,by decide,by decide,rfl⟩
 rintro _ rfl
 refine zg (fun ρ=>ρ=[some (dv (.ob C ["functions", "most", "calls", "steps", "frames"] [dkD fns,.int most,.lst [],.lst [],.lst []])),some (dv (.tup (fns.map Prod.snd))),some (dv (.int most))]) ?_ ?_
 ·walk_at "dl"
  exact ⟨trivial,_,_,_,rfl,rfl,by decide,by decide,rfl⟩
 rintro _ rfl
 refine zg (fun ρ=>ρ=[some (dv (.ob C ["functions", "most", "calls", "steps", "frames", "tasks"] [dkD fns,.int most,.lst [],.lst [],.lst [],.lst []])),some (dv (.tup (fns.map Prod.snd))),some (dv (.int most))]) ?_ ?_
 ·walk_at "dl"
  exact ⟨trivial,_,_,_,rfl,rfl,by decide,by decide,rfl⟩
 rintro _ rfl
 refine zg (fun ρ=>ρ=[some (dv (.ob C ["functions", "most", "calls", "steps", "frames", "tasks", "ready"] [dkD fns,.int most,.lst [],.lst [],.lst [],.lst [],.lst []])),some (dv (.tup (fns.map Prod.snd))),some (dv (.int most))]) ?_ ?_
 ·walk_at "dl"
  exact ⟨trivial,_,_,_,rfl,rfl,by decide,by decide,rfl⟩
 rintro _ rfl
 refine ⟨fun ρ=>∃ d',slot ρ 0=some (dv d') /\ φ .non d',?_,fun _ y=>y⟩
 walk_at "dl"
 exact ⟨trivial,_,_,_,rfl,rfl,by decide,by decide,_,rfl,h⟩
theorem M0 (T:Tops mg) (O:CO K C zf) (F:Fun K "told" "Run.told" (mth 1) f fd) (hm:Meth K C "told" f):FMR P w K mg base 1 C zf "told" ["self"] (K8 C):=by
 have S:zn ["self"] ["self"] (zb (mth 1)):=⟨rfl,rfl,rfl,by decide +kernel,rfl,by decide +kernel,by decide +kernel⟩
 refine Dc F S (F.binds fun _ _ _ _ _ _ us hl=>(by obtain ⟨_,rfl⟩:=sj hl; rfl)) hm (by decide) fun qZ A outer s H E d0 ds φ hr hl hT=>?_
 have hu:=hr.units
 refine ⟨_,(Kr (C2 (xm (yx (wg O (z0 0)))) (L9 (Q2 (Lr (v8 (Mc wy) (v8 (Mc yy) (v8 (qm (x3 O zr)) (v8 (qm (x3 O zr)) Pc))))))) Gv)
    (L9 (Q2 (Lr (v8 (Mc wy) (v8 (Mc (ze hu (wg O (z0 0)) za)) (v8 (qm (x3 O zr)) (v8 (qm (x3 O zr)) Pc)))))))),?_⟩
 obtain ⟨fns,most,ms,rfl,rfl,h⟩:=hT
 unfold msD
 walk_at "dl"
 rcases h with ⟨hc,h⟩ | ⟨hc,v,r,er,pv,h⟩
 ·exact ⟨fun _=>⟨_,_,rfl,rfl,_,_,rfl,rfl,_,_,rfl,rfl,_,_,rfl,rfl,h⟩,fun z=>absurd z (by rw [hc]; decide)⟩
 ·rw [er]
  simp only [at_0]
  exact ⟨fun z=>absurd z (by rw [hc]; decide),fun _=>⟨pv,_,_,rfl,rfl,_,_,rfl,rfl,_,_,rfl,rfl,_,_,rfl,rfl,h⟩⟩
end
section
variable {fns:List (Str × D)} {most:Int} {P:MS->Prop} {n:Int} {w:World} {K:W.Frag} {mg:Str->Option Value} {base:Heap} {f C:Addr} {fd:FuncData} {R:Str->D->Int->Prop} {Fz:D->D->Prop}
noncomputable def Fin (C:Addr) (R:Str->D->Int->Prop) (fns:List (Str × D)) (most:Int) (P:MS->Prop) (s:MS):Prop:=∃ n s1,RunN C R fns most n s s1 /\ P s1
theorem yt {s s1:MS} (hc:s.cut=false) (m:Mv C R fns most s s1) (h:Fin C R fns most P s1):Fin C R fns most P s:=by
 obtain ⟨n,s2,r,p⟩:=h
 exact ⟨n + 1,s2,.step hc m r,p⟩
theorem wn {s:MS} (h:s.tasks=[] \/ s.cut=true) (p:P s):Fin C R fns most P s:=⟨0,s,.done h,p⟩
noncomputable def stt (cl st:List D) (fs:List (Int × List (Str × D))) (ts rs:List D):MS:={ calls:=cl,steps:=st,frames:=fs,tasks:=ts,ready:=rs,cut:=false }
noncomputable def stp (n:Int) (k:Str):D:=.tup [.int n,.str k]
noncomputable def O2 (most:Int) (P:MS->Prop) (cl X:List D):Prop:=most <= X.length->∀ s1:MS,s1.cut=true->s1.calls=cl->s1.steps=X->P s1
theorem u0 {s:MS} {k:Str} (q:most <= s.steps.length):yu most n k s=(false,{ s with cut:=true }):=by unfold yu; rw [if_pos q]
theorem uw {s:MS} {k:Str} (q:¬ most <= s.steps.length):yu most n k s=(true,{ s with steps:=s.steps ++ [.tup [.int n,.str k]] }):=by unfold yu; rw [if_neg q]
noncomputable def Sm (cl st ts rs:List D):Prop:=cl.length + st.length + ts.length + rs.length <= 9000 /\ zu rs
theorem yj {a b:List D}:zu (a ++ b) ↔ zu a /\ zu b:=by
 rw [yw,yw,yw]
 simp only [List.mem_append]
 exact ⟨fun h=>⟨fun d x=>h d (.inl x),fun d x=>h d (.inr x)⟩,fun h d x=>x.elim (h.1 d) (h.2 d)⟩
section
variable {cl st ts rs:List D} {fs:List (Int × List (Str × D))} {n:Int} {rows:List (Str × D)} {v e e1 e2 b1 b2:D} {z:Str}
theorem qk (b:Sm cl st ts rs) (pe:zh e) (h:Fin C R fns most P (stt cl st fs (ts ++ [vlD e]) rs)):Fin C R fns most P (stt cl st fs (ts ++ [bdD (.tup [.str "give", e])]) rs) :=
 yt rfl ⟨ts,.inl ⟨_,rfl,fun φ hφ=>⟨fns,most,_,rfl,by have:=b.1; show ts.length <= 10000; omega,.inl ⟨e,rfl,pe,hφ⟩⟩⟩⟩ h
theorem u6 (b:Sm cl st ts rs) (hv:rowG rows z=some v) (pv:zh v) (h:Fin C R fns most P (stt cl st (fs ++ [(n,rows)]) ts (rs ++ [v]))):Fin C R fns most P (stt cl st (fs ++ [(n,rows)]) (ts ++ [vlD (.tup [.str "var", .str z])]) rs) :=
 yt rfl ⟨ts,.inr (.inl ⟨_,rfl,fun φ hφ=>⟨fns,most,_,rfl,by have:=b.1; show ts.length <= 10000; omega,by have:=b.1; show rs.length <= 10000; omega,.inr (.inl ⟨fs,n,rows,z,v,rfl,rfl,hv,pv,hφ⟩)⟩⟩)⟩ h
theorem Ur {f:Str} {es:List D} (b:Sm cl st ts rs) (b0:es.length <= 100) (pe:zu es) (h:Fin C R fns most P (stt cl st fs (ts ++ [apD (.tup [.str "call", .str f,.tup es])] ++ es.reverse.map vlD) rs)):Fin C R fns most P (stt cl st fs (ts ++ [vlD (.tup [.str "call", .str f,.tup es])]) rs) :=
 yt rfl ⟨ts,.inr (.inl ⟨_,rfl,fun φ hφ=>⟨fns,most,_,rfl,by have:=b.1; show ts.length <= 10000; omega,by have:=b.1; show rs.length <= 10000; omega,.inr (.inr (.inr (.inr (.inl ⟨.str f,es,rfl,b0,trivial,pe,hφ⟩))))⟩⟩)⟩ h
theorem Lp {kd:Str} {es:List D} (b:Sm cl st ts rs) (hkd:kd = "cons" \/ kd = "node" \/ kd = "add" \/ kd = "sub") (b0:es.length <= 100) (pe:zu es) (h:Fin C R fns most P (stt cl st fs (ts ++ [apD (.tup (.str kd :: es))] ++ es.reverse.map vlD) rs)):Fin C R fns most P (stt cl st fs (ts ++ [vlD (.tup (.str kd :: es))]) rs) :=
 yt rfl ⟨ts,.inr (.inl ⟨_,rfl,fun φ hφ=>⟨fns,most,_,rfl,by have:=b.1; show ts.length <= 10000; omega,by have:=b.1; show rs.length <= 10000; omega,.inr (.inr (.inr (.inr (.inr ⟨kd,es,rfl,hkd,b0,pe,hφ⟩))))⟩⟩)⟩ h
theorem Hi {kd:Str} (b:Sm cl st ts rs) (hkd:kd = "cons" \/ kd = "node" \/ kd = "add" \/ kd = "sub") (p1:zh e1) (p2:zh e2) (h:Fin C R fns most P (stt cl st fs (ts ++ [apD (.tup [.str kd,e1,e2])] ++ [vlD e2] ++ [vlD e1]) rs)):Fin C R fns most P (stt cl st fs (ts ++ [vlD (.tup [.str kd,e1,e2])]) rs) :=
 Lp b hkd (by simp) ⟨p1,p2,trivial⟩ (by rw [List.append_assoc (ts ++ _)] at h; exact h)
theorem Yr {f:Str} (b:Sm cl st ts rs) (p1:zh e1) (p2:zh e2) (h:Fin C R fns most P (stt cl st fs (ts ++ [apD (.tup [.str "call", .str f,.tup [e1,e2]])] ++ [vlD e2] ++ [vlD e1]) rs)):Fin C R fns most P (stt cl st fs (ts ++ [vlD (.tup [.str "call", .str f,.tup [e1,e2]])]) rs) :=
 Ur b (by simp) ⟨p1,p2,trivial⟩ (by rw [List.append_assoc (ts ++ _)] at h; exact h)
theorem Mb {r:List D} {sz:Int} (b:Sm cl st ts rs) (pv:zh v) (pr:zu r) (br:r.length <= 1000) (hR:R "list" (.tup (v :: r)) sz) (hc:O2 most P cl st)
  (hz:100 < sz->∀ s1:MS,s1.cut=true->s1.calls=cl->s1.steps=st->P s1)
  (h:¬ most <= st.length->¬ 100 < sz->Fin C R fns most P (stt cl (st ++ [stp n "make"]) (fs ++ [(n,rows)]) ts (rs ++ [.tup (v :: r)]))) :
  Fin C R fns most P (stt cl st (fs ++ [(n,rows)]) (ts ++ [apD (.tup [.str "cons", e1,e2])]) (rs ++ [v] ++ [.tup r])):=by
 have bb:=b.1
 have er:rs ++ [v] ++ [D.tup r]=rs ++ [v,.tup r]:=by simp
 have go:∀ s1:MS,(∀ φ:D->D->Prop,φ .non (msD C fns most s1)->φ .non (msD C fns most (if 100 < sz then { calls:=cl,steps:=st,frames:=fs ++ [(n,rows)],tasks:=ts,ready:=rs,cut:=true } else match yu most n "make" { calls:=cl,steps:=st,frames:=fs ++ [(n,rows)],tasks:=ts,ready:=rs,cut:=false } with
  | (true,s')=>{ s' with ready:=rs ++ [.tup (v :: r)] }
  | (false,s')=>s')))->Mv C R fns most (stt cl st (fs ++ [(n,rows)]) (ts ++ [apD (.tup [.str "cons", e1,e2])]) (rs ++ [v] ++ [.tup r])) s1:=fun s1 hs=>by
  refine ⟨ts,.inr (.inr (.inl ⟨_,rfl,fun φ hφ=>?_⟩))⟩
  refine ⟨fns,most,_,rs,rfl,by show (rs ++ [v] ++ [D.tup r]).length <= 10000; simp; omega,b.2,.inr (.inl ⟨e1,e2,v,r,rfl,er,pv,pr,by omega,?_⟩)⟩
  exact ⟨fns,most,_,fs,n,rows, "list", .tup (v :: r),sz,rfl,rfl,rfl,by show st.length <= 10000; omega,by show rs.length <= 10000; omega,⟨pv,pr⟩,hR,hs φ hφ⟩
 by_cases z:100 < sz
 ·refine yt rfl (go { calls:=cl,steps:=st,frames:=fs ++ [(n,rows)],tasks:=ts,ready:=rs,cut:=true } fun φ hφ=>?_) (wn (.inr rfl) (hz z _ rfl rfl rfl))
  rw [if_pos z]
  exact hφ
 by_cases q:most <= st.length
 ·refine yt rfl (go { calls:=cl,steps:=st,frames:=fs ++ [(n,rows)],tasks:=ts,ready:=rs,cut:=true } fun φ hφ=>?_) (wn (.inr rfl) (hc q _ rfl rfl rfl))
  rw [if_neg z,u0 q]
  exact hφ
 ·refine yt rfl (go _ fun φ hφ=>?_) (h q z)
  rw [if_neg z,uw q]
  exact hφ
theorem t6 {m:Nat} {nm args up:D} {cl1 cl2:List D} (lc:cl1.length=m) (p1:zh nm) (p2:zh args) (p3:zh up) (pv:zh v)
  (h:Fin C R fns most P (stt (cl1 ++ [.tup [nm,args,up,.bl true,v]] ++ cl2) st fs ts (rs ++ [v]))) :
  Fin C R fns most P (stt (cl1 ++ [.tup [nm,args,up,.bl false,.non]] ++ cl2) st (fs ++ [((m:Int),rows)]) (ts ++ [.tup [.str "leave"]]) (rs ++ [v])) :=
 yt rfl ⟨ts,.inr (.inr (.inr (.inr (.inr ⟨rfl,fun φ hφ=>⟨fns,most,_,fs,m,rows,nm,args,up,rs,v,cl1,cl2,rfl,rfl,rfl,rfl,pv,rfl,lc,p1,p2,p3,hφ⟩⟩))))⟩ h
theorem Ma (b:Sm cl st ts rs) (h:Fin C R fns most P (stt cl st fs ts (rs ++ [.non]))):Fin C R fns most P (stt cl st fs (ts ++ [vlD (.tup [.str "leaf"])]) rs) :=
 yt rfl ⟨ts,.inr (.inl ⟨_,rfl,fun φ hφ=>⟨fns,most,_,rfl,by have:=b.1; show ts.length <= 10000; omega,by have:=b.1; show rs.length <= 10000; omega,.inr (.inr (.inr (.inl ⟨rfl,hφ⟩)))⟩⟩)⟩ h
theorem Hh {kd:Str} {e3:D} (b:Sm cl st ts rs) (hkd:kd = "cons" \/ kd = "node" \/ kd = "add" \/ kd = "sub") (p1:zh e1) (p2:zh e2) (p3:zh e3) (h:Fin C R fns most P (stt cl st fs (ts ++ [apD (.tup [.str kd,e1,e2,e3])] ++ [vlD e3] ++ [vlD e2] ++ [vlD e1]) rs)):Fin C R fns most P (stt cl st fs (ts ++ [vlD (.tup [.str kd,e1,e2,e3])]) rs) :=
 Lp b hkd (by simp) ⟨p1,p2,p3,trivial⟩ (by rw [List.append_assoc (ts ++ _),List.append_assoc (ts ++ _)] at h; exact h)
theorem Ys {f:Str} (b:Sm cl st ts rs) (p1:zh e1) (h:Fin C R fns most P (stt cl st fs (ts ++ [apD (.tup [.str "call", .str f,.tup [e1]])] ++ [vlD e1]) rs)):Fin C R fns most P (stt cl st fs (ts ++ [vlD (.tup [.str "call", .str f,.tup [e1]])]) rs) :=
 Ur b (by simp) ⟨p1,trivial⟩ h
theorem Yq {x l m r:Str} (b:Sm cl st ts rs) (hv:rowG rows x=some .non) (p1:zh b1) (p2:zh b2) (br:rows.length <= 900) (hc:O2 most P cl st)
  (h0:¬ most <= st.length->Fin C R fns most P (stt cl (st ++ [stp n "open"]) (fs ++ [(n,rows)]) (ts ++ [bdD b1]) rs)) :
  Fin C R fns most P (stt cl st (fs ++ [(n,rows)]) (ts ++ [bdD (.tup [.str "tree", .str x,b1,.str l,.str m,.str r,b2])]) rs):=by
 have bb:=b.1
 by_cases q:most <= st.length
 ·refine yt (s1:={ calls:=cl,steps:=st,frames:=fs ++ [(n,rows)],tasks:=ts,ready:=rs,cut:=true }) rfl ⟨ts,.inl ⟨_,rfl,fun φ hφ=>⟨fns,most,_,rfl,by show ts.length <= 10000; omega,.inr (.inr (.inr ⟨"tree", x,_,fs,n,rows,.non,rfl,.inr rfl,rfl,by show st.length <= 10000; omega,hv,trivial,?_⟩))⟩⟩⟩ (wn (.inr rfl) (hc q _ rfl rfl rfl))
  rw [u0 q]
  exact hφ
 refine yt rfl ⟨ts,.inl ⟨_,rfl,fun φ hφ=>⟨fns,most,_,rfl,by show ts.length <= 10000; omega,.inr (.inr (.inr ⟨"tree", x,_,fs,n,rows,.non,rfl,.inr rfl,rfl,by show st.length <= 10000; omega,hv,trivial,?_⟩))⟩⟩⟩ (h0 q)
 rw [uw q]
 exact ⟨fns,most,_,fs,n,rows, "tree", x,b1,b2,rfl,rfl,by show ts.length <= 10000; omega,p1,p2,br,.inl ⟨_,_,rfl,.inl rfl,hφ⟩⟩
theorem Yp {x l m r:Str} {v1 v2 v3:D} (b:Sm cl st ts rs) (hv:rowG rows x=some (.tup [v1,v2,v3])) (pl:zu [v1,v2,v3]) (ok:okD 40 (.tup [v1,v2,v3])) (p1:zh b1) (p2:zh b2) (br:rows.length <= 900) (nd:(rows.map Prod.fst ++ [l,m,r]).Nodup) (hc:O2 most P cl st)
  (h1:¬ most <= st.length->Fin C R fns most P (stt cl (st ++ [stp n "open"]) (fs ++ [(n,rows ++ [(l,v1),(m,v2),(r,v3)])]) (ts ++ [bdD b2]) rs)) :
  Fin C R fns most P (stt cl st (fs ++ [(n,rows)]) (ts ++ [bdD (.tup [.str "tree", .str x,b1,.str l,.str m,.str r,b2])]) rs):=by
 have bb:=b.1
 by_cases q:most <= st.length
 ·refine yt (s1:={ calls:=cl,steps:=st,frames:=fs ++ [(n,rows)],tasks:=ts,ready:=rs,cut:=true }) rfl ⟨ts,.inl ⟨_,rfl,fun φ hφ=>⟨fns,most,_,rfl,by show ts.length <= 10000; omega,.inr (.inr (.inr ⟨"tree", x,_,fs,n,rows,.tup [v1,v2,v3],rfl,.inr rfl,rfl,by show st.length <= 10000; omega,hv,pl,?_⟩))⟩⟩⟩ (wn (.inr rfl) (hc q _ rfl rfl rfl))
  rw [u0 q]
  exact hφ
 refine yt rfl ⟨ts,.inl ⟨_,rfl,fun φ hφ=>⟨fns,most,_,rfl,by show ts.length <= 10000; omega,.inr (.inr (.inr ⟨"tree", x,_,fs,n,rows,.tup [v1,v2,v3],rfl,.inr rfl,rfl,by show st.length <= 10000; omega,hv,pl,?_⟩))⟩⟩⟩ (h1 q)
 rw [uw q]
 exact ⟨fns,most,_,fs,n,rows, "tree", x,b1,b2,rfl,rfl,by show ts.length <= 10000; omega,p1,p2,br,.inr (.inr ⟨l,m,r,v1,v2,v3,rfl,ok,pl.1,pl.2.1,pl.2.2.1,nd,hφ⟩)⟩
theorem M9 {v1 v2 v3 e3:D} {sz:Int} (b:Sm cl st ts rs) (pl:zu [v1,v2,v3]) (hR:R "tree" (.tup [v1,v2,v3]) sz) (z:¬ 100 < sz) (hc:O2 most P cl st)
  (h:¬ most <= st.length->Fin C R fns most P (stt cl (st ++ [stp n "make"]) (fs ++ [(n,rows)]) ts (rs ++ [.tup [v1,v2,v3]]))) :
  Fin C R fns most P (stt cl st (fs ++ [(n,rows)]) (ts ++ [apD (.tup [.str "node", e1,e2,e3])]) (rs ++ [v1] ++ [v2] ++ [v3])):=by
 have bb:=b.1
 have er:rs ++ [v1] ++ [v2] ++ [v3]=rs ++ [v1,v2,v3]:=by simp
 have go:∀ s1:MS,(∀ φ:D->D->Prop,φ .non (msD C fns most s1)->φ .non (msD C fns most (if 100 < sz then { calls:=cl,steps:=st,frames:=fs ++ [(n,rows)],tasks:=ts,ready:=rs,cut:=true } else match yu most n "make" { calls:=cl,steps:=st,frames:=fs ++ [(n,rows)],tasks:=ts,ready:=rs,cut:=false } with
  | (true,s')=>{ s' with ready:=rs ++ [.tup [v1,v2,v3]] }
  | (false,s')=>s')))->Mv C R fns most (stt cl st (fs ++ [(n,rows)]) (ts ++ [apD (.tup [.str "node", e1,e2,e3])]) (rs ++ [v1] ++ [v2] ++ [v3])) s1:=fun s1 hs=>by
  refine ⟨ts,.inr (.inr (.inl ⟨_,rfl,fun φ hφ=>?_⟩))⟩
  refine ⟨fns,most,_,rs,rfl,by show (rs ++ [v1] ++ [v2] ++ [v3]).length <= 10000; simp; omega,b.2,.inr (.inr (.inl ⟨e1,e2,e3,v1,v2,v3,rfl,er,pl.1,pl.2.1,pl.2.2.1,?_⟩))⟩
  exact ⟨fns,most,_,fs,n,rows, "tree", .tup [v1,v2,v3],sz,rfl,rfl,rfl,by show st.length <= 10000; omega,by show rs.length <= 10000; omega,pl,hR,hs φ hφ⟩
 by_cases q:most <= st.length
 ·refine yt rfl (go { calls:=cl,steps:=st,frames:=fs ++ [(n,rows)],tasks:=ts,ready:=rs,cut:=true } fun φ hφ=>?_) (wn (.inr rfl) (hc q _ rfl rfl rfl))
  rw [if_neg z,u0 q]
  exact hφ
 ·refine yt rfl (go _ fun φ hφ=>?_) (h q)
  rw [if_neg z,uw q]
  exact hφ
end
end
section
variable {P:Program} {w:World} {K:W.Frag} {mg:Str->Option Value} {base:Heap} {f C:Addr} {fd:FuncData} {R:Str->D->Int->Prop} {Fz:D->D->Prop}
inductive Tr where
 | lf:Tr
 | nd:Tr->Int->Tr->Tr
noncomputable def Tr.d:Tr->D
 | .lf=>.non
 | .nd l v r=>.tup [l.d,.int v,r.d]
noncomputable def Tr.turned:Tr->Tr
 | .lf=>.lf
 | .nd l v r=>.nd r.turned v l.turned
noncomputable def Tr.nums:Tr->List Int
 | .lf=>[]
 | .nd l v r=>l.nums ++ [v] ++ r.nums
noncomputable def Tr.nodes:Tr->Nat
 | .lf=>0
 | .nd l _ r=>1 + l.nodes + r.nodes
noncomputable def Tr.dep:Tr->Nat
 | .lf=>0
 | .nd l _ r=>1 + max l.dep r.dep
theorem Tr.pure:∀ t:Tr,zh t.d
 | .lf=>trivial
 | .nd l _ r=>⟨l.pure,trivial,r.pure,trivial⟩
theorem Tr.ok:∀ (t:Tr) (k:Nat),t.dep <= k->okD (k + 1) t.d
 | .lf,_,_=>trivial
 | .nd l v r,0,h=>by simp [Tr.dep] at h
 | .nd l v r,k + 1,h=>by
  have h:1 + max l.dep r.dep <= k + 1:=h
  show okD (k + 1 + 1) (.tup [l.d,.int v,r.d])
  rw [uq (by omega)]
  intro d hd
  rcases List.mem_cons.mp hd with rfl | hd
  ·exact l.ok k (by omega)
  rcases List.mem_cons.mp hd with rfl | hd
  ·trivial
  rcases List.mem_cons.mp hd with rfl | hd
  ·exact r.ok k (by omega)
  cases hd
theorem Tr.turned_nodes:∀ t:Tr,t.turned.nodes=t.nodes
 | .lf=>rfl
 | .nd l v r=>by
  have h1:=l.turned_nodes
  have h2:=r.turned_nodes
  show 1 + r.turned.nodes + l.turned.nodes=1 + l.nodes + r.nodes
  omega
theorem Tr.nums_len:∀ t:Tr,t.nums.length=t.nodes
 | .lf=>rfl
 | .nd l v r=>by
  have h1:=l.nums_len
  have h2:=r.nums_len
  show (l.nums ++ [v] ++ r.nums).length=1 + l.nodes + r.nodes
  simp
  omega
structure Rw where
 a:List D
 up:D
 done:Bool
 v:D
noncomputable def rwM (f:Str) (r:Rw):D:=.tup [.str f,.tup r.a,r.up,.bl r.done,r.v]
structure LS where
 cs:List Rw
 st:List D
 cut:Bool
noncomputable def yk (m:Int) (a:Nat) (k:Str) (s:LS):LS:=if s.cut=false /\ (s.st.length:Int) < m then { s with st:=s.st ++ [stp a k] } else { s with cut:=true }
noncomputable def begL (m:Int) (as:List D) (up:D) (dp:Nat) (s:LS):LS :=
 let s1:=yk m s.cs.length "call" (if 20 < dp then { s with cut:=true } else s)
 if s1.cut=false then yk m s.cs.length "open" { s1 with cs:=s1.cs ++ [⟨as,up,false,.non⟩] } else s1
noncomputable def endL (a:Nat) (x:D) (s:LS):LS:=if s.cut then s else match s.cs[a]? with
 | some r=>{ s with cs:=s.cs.set a ⟨r.a,r.up,true,x⟩ }
 | none=>s
noncomputable def zy (m:Int):Tr->D->Nat->LS->LS × D
 | .lf,up,dp,s =>
  let s1:=begL m [.non] up dp s
  if s1.cut then (s1,.non) else (endL s.cs.length .non s1,.non)
 | .nd l v r,up,dp,s =>
  let s1:=begL m [.tup [l.d,.int v,r.d]] up dp s
  if s1.cut then (s1,.non) else
  let p:=zy m r (.int s.cs.length) (dp + 1) s1
  let q:=if p.1.cut then p else zy m l (.int s.cs.length) (dp + 1) p.1
  let s4:=yk m s.cs.length "make" q.1
  if s4.cut then (s4,.non) else (endL s.cs.length (.tup [p.2,.int v,q.2]) s4,.tup [p.2,.int v,q.2])
noncomputable def layL (m:Int):Tr->List Int->D->Nat->LS->LS × List Int
 | .lf,row,up,dp,s =>
  let s1:=begL m [.non,.tup (row.map D.int)] up dp s
  if s1.cut then (s1,[]) else (endL s.cs.length (.tup (row.map D.int)) s1,row)
 | .nd l v r,row,up,dp,s =>
  let s1:=begL m [.tup [l.d,.int v,r.d],.tup (row.map D.int)] up dp s
  if s1.cut then (s1,[]) else
  let p:=layL m r row (.int s.cs.length) (dp + 1) s1
  let s3:=yk m s.cs.length "make" p.1
  if s3.cut then (s3,[]) else
  let q:=layL m l (v :: p.2) (.int s.cs.length) (dp + 1) s3
  if q.1.cut then (q.1,[]) else (endL s.cs.length (.tup (q.2.map D.int)) q.1,q.2)
section
variable {s:LS} {m:Int} {a:Nat} {k:Str} {as:List D} {up:D} {dp:Nat}
theorem vn (h:m <= s.st.length):yk m a k s={ s with cut:=true }:=by unfold yk; rw [if_neg (by omega)]
theorem wa (h:¬ m <= s.st.length) (c:s.cut=false):yk m a k s={ s with st:=s.st ++ [stp a k] }:=by unfold yk; rw [if_pos ⟨c,by omega⟩]
theorem wd (c:s.cut=true):yk m a k s=s:=by
 unfold yk
 rw [if_neg (by rw [c]; simp)]
 cases s
 cases c
 rfl
theorem Py (h:20 < dp):begL m as up dp s={ s with cut:=true }:=by
 unfold begL
 rw [if_pos h]
 simp only [wd (s:={ s with cut:=true }) rfl]
 rfl
theorem Px (h:¬ 20 < dp) (q:m <= s.st.length):begL m as up dp s={ s with cut:=true }:=by
 unfold begL
 rw [if_neg h]
 simp only [vn q]
 rfl
theorem Pw (h:¬ 20 < dp) (c:s.cut=false) (q:¬ m <= s.st.length) (q2:m <= (s.st ++ [stp s.cs.length "call"]).length):begL m as up dp s=⟨s.cs ++ [⟨as,up,false,.non⟩],s.st ++ [stp s.cs.length "call"],true⟩:=by
 unfold begL
 rw [if_neg h]
 simp only [wa q c]
 rw [if_pos c]
 exact vn q2
theorem fk (h:¬ 20 < dp) (c:s.cut=false) (q:¬ m <= s.st.length) (q2:¬ m <= (s.st ++ [stp s.cs.length "call"]).length):begL m as up dp s=⟨s.cs ++ [⟨as,up,false,.non⟩],s.st ++ [stp s.cs.length "call"] ++ [stp s.cs.length "open"],false⟩:=by
 unfold begL
 rw [if_neg h]
 simp only [wa q c]
 rw [if_pos c,wa (by exact q2) (by exact c)]
 cases s
 cases c
 rfl
theorem bt {c0 more:List Rw} {r:Rw} {x:D} {st:List D}:endL c0.length x ⟨c0 ++ r :: more,st,false⟩=⟨c0 ++ ⟨r.a,r.up,true,x⟩ :: more,st,false⟩:=by
 unfold endL
 simp
end
structure Kp (m:Int) (s s1:LS):Prop where
 pre:∃ more,s1.cs=s.cs ++ more
 cl:s1.cs.length + s.st.length <= s.cs.length + s1.st.length
 le:(s1.st.length:Int) <= max m s.st.length
theorem Kp.refl {m:Int} {s:LS}:Kp m s s:=⟨⟨[],by simp⟩,by omega,by omega⟩
theorem Kp.trans {m:Int} {s s1 s2:LS} (h1:Kp m s s1) (h2:Kp m s1 s2):Kp m s s2:=by
 obtain ⟨m1,e1⟩:=h1.pre
 obtain ⟨m2,e2⟩:=h2.pre
 have:=h1.cl
 have:=h2.cl
 have:=h1.le
 have:=h2.le
 exact ⟨⟨m1 ++ m2,by rw [e2,e1,List.append_assoc]⟩,by omega,by omega⟩
theorem Kp.step {m:Int} {s:LS} {a:Nat} {k:Str}:Kp m s (yk m a k s):=by
 unfold yk
 split
 ·rename_i h
  exact ⟨⟨[],by simp⟩,by simp,by simp; omega⟩
 ·exact ⟨⟨[],by simp⟩,by simp,by simp; omega⟩
theorem Kp.beg {m:Int} {s:LS} {as:List D} {up:D} {dp:Nat} (c:s.cut=false):Kp m s (begL m as up dp s):=by
 by_cases h:20 < dp
 ·rw [Py h]
  exact ⟨⟨[],by simp⟩,by simp,by simp; omega⟩
 by_cases q:m <= s.st.length
 ·rw [Px h q]
  exact ⟨⟨[],by simp⟩,by simp,by simp; omega⟩
 by_cases q2:m <= (s.st ++ [stp s.cs.length "call"]).length
 ·rw [Pw h c q q2]
  exact ⟨⟨_,rfl⟩,by simp; omega,by simp; omega⟩
 ·rw [fk h c q q2]
  have:((s.st ++ [stp s.cs.length "call"]).length:Int) < m:=by omega
  simp at this
  exact ⟨⟨_,rfl⟩,by simp; omega,by simp; omega⟩
theorem fj {m:Int} {s:LS} {as:List D} {up:D} {dp:Nat} (c:s.cut=false) (h:(begL m as up dp s).cut=false):begL m as up dp s=⟨s.cs ++ [⟨as,up,false,.non⟩],s.st ++ [stp s.cs.length "call"] ++ [stp s.cs.length "open"],false⟩:=by
 by_cases h1:20 < dp
 ·rw [Py h1] at h
  cases h
 by_cases q:m <= s.st.length
 ·rw [Px h1 q] at h
  cases h
 by_cases q2:m <= (s.st ++ [stp s.cs.length "call"]).length
 ·rw [Pw h1 c q q2] at h
  cases h
 ·exact fk h1 c q q2
theorem Kp.fin {m:Int} {s s1 s4:LS} {as:List D} {up x:D} {st:List D} (e1:s1=⟨s.cs ++ [⟨as,up,false,.non⟩],st,false⟩) (h0:Kp m s s1) (h:Kp m s1 s4) (c:s4.cut=false):Kp m s (endL s.cs.length x s4) /\ ∃ more,s4.cs=s.cs ++ ⟨as,up,false,.non⟩ :: more /\ endL s.cs.length x s4=⟨s.cs ++ ⟨as,up,true,x⟩ :: more,s4.st,false⟩:=by
 obtain ⟨more,e⟩:=h.pre
 have hh:=h0.trans h
 subst e1
 obtain ⟨cs4,st4,cut4⟩:=s4
 cases c
 have e:cs4=s.cs ++ ⟨as,up,false,.non⟩ :: more:=by rw [show cs4=_ from e]; simp
 subst e
 rw [bt]
 have:=hh.cl
 have:=hh.le
 refine ⟨⟨⟨_,rfl⟩,?_,?_⟩,more,rfl,rfl⟩
 ·simp at *; omega
 ·simp at *; omega
theorem uo {m:Int}:∀ (t:Tr) (up:D) (dp:Nat) (s:LS),s.cut=false->Kp m s (zy m t up dp s).1
 | .lf,up,dp,s,c=>by
  unfold zy
  by_cases h:(begL m [.non] up dp s).cut=true
  ·simp only [h,if_true]
   exact Kp.beg c
  ·have h':(begL m [.non] up dp s).cut=false:=by simpa using h
   simp only [h',Bool.false_eq_true,if_false]
   exact (Kp.fin (fj c h') (Kp.beg c) Kp.refl h').1
 | .nd l v r,up,dp,s,c=>by
  unfold zy
  by_cases h:(begL m [.tup [l.d,.int v,r.d]] up dp s).cut=true
  ·simp only [h,if_true]
   exact Kp.beg c
  have h':(begL m [.tup [l.d,.int v,r.d]] up dp s).cut=false:=by simpa using h
  simp only [h',Bool.false_eq_true,if_false]
  have k1:=uo (m:=m) r (.int s.cs.length) (dp + 1) _ h'
  generalize zy m r (.int s.cs.length) (dp + 1) (begL m [.tup [l.d,.int v,r.d]] up dp s)=p at *
  have k2:Kp m p.1 (if p.1.cut=true then p else zy m l (.int s.cs.length) (dp + 1) p.1).1:=by
   by_cases z:p.1.cut=true
   ·rw [if_pos z]; exact Kp.refl
   ·rw [if_neg z]; exact uo l _ _ _ (by simpa using z)
  generalize (if p.1.cut=true then p else zy m l (.int s.cs.length) (dp + 1) p.1)=q at *
  have k3:Kp m q.1 (yk m s.cs.length "make" q.1):=Kp.step
  by_cases z:(yk m s.cs.length "make" q.1).cut=true
  ·simp only [z,if_true]
   exact (Kp.beg c).trans (k1.trans (k2.trans k3))
  ·have z':(yk m s.cs.length "make" q.1).cut=false:=by simpa using z
   simp only [z',Bool.false_eq_true,if_false]
   exact (Kp.fin (fj c h') (Kp.beg c) (k1.trans (k2.trans k3)) z').1
theorem kq {m:Int}:∀ (t:Tr) (row:List Int) (up:D) (dp:Nat) (s:LS),s.cut=false->Kp m s (layL m t row up dp s).1
 | .lf,row,up,dp,s,c=>by
  unfold layL
  by_cases h:(begL m [.non,.tup (row.map D.int)] up dp s).cut=true
  ·simp only [h,if_true]
   exact Kp.beg c
  ·have h':(begL m [.non,.tup (row.map D.int)] up dp s).cut=false:=by simpa using h
   simp only [h',Bool.false_eq_true,if_false]
   exact (Kp.fin (fj c h') (Kp.beg c) Kp.refl h').1
 | .nd l v r,row,up,dp,s,c=>by
  unfold layL
  by_cases h:(begL m [.tup [l.d,.int v,r.d],.tup (row.map D.int)] up dp s).cut=true
  ·simp only [h,if_true]
   exact Kp.beg c
  have h':(begL m [.tup [l.d,.int v,r.d],.tup (row.map D.int)] up dp s).cut=false:=by simpa using h
  simp only [h',Bool.false_eq_true,if_false]
  have k1:=kq (m:=m) r row (.int s.cs.length) (dp + 1) _ h'
  generalize layL m r row (.int s.cs.length) (dp + 1) (begL m [.tup [l.d,.int v,r.d],.tup (row.map D.int)] up dp s)=p at *
  have k2:Kp m p.1 (yk m s.cs.length "make" p.1):=Kp.step
  by_cases z:(yk m s.cs.length "make" p.1).cut=true
  ·simp only [z,if_true]
   exact (Kp.beg c).trans (k1.trans k2)
  have z':(yk m s.cs.length "make" p.1).cut=false:=by simpa using z
  simp only [z',Bool.false_eq_true,if_false]
  have k3:=kq (m:=m) l (v :: p.2) (.int s.cs.length) (dp + 1) _ z'
  generalize layL m l (v :: p.2) (.int s.cs.length) (dp + 1) (yk m s.cs.length "make" p.1)=q at *
  by_cases y:q.1.cut=true
  ·simp only [y,if_true]
   exact (Kp.beg c).trans (k1.trans (k2.trans k3))
  ·have y':q.1.cut=false:=by simpa using y
   simp only [y',Bool.false_eq_true,if_false]
   exact (Kp.fin (fj c h') (Kp.beg c) (k1.trans (k2.trans k3)) y').1
end
section
variable {fns:List (Str × D)} {most:Int} {P:MS->Prop} {n:Int} {w:World} {K:W.Frag} {mg:Str->Option Value} {base:Heap} {f C:Addr} {fd:FuncData} {R:Str->D->Int->Prop} {Fz:D->D->Prop}
noncomputable def RT:Str->D->Int->Prop:=fun sh d n=>(sh = "list" /\ ∃ l:List Int,d=.tup (l.map D.int) /\ n=l.length) \/ (sh = "tree" /\ ∃ t:Tr,d=t.d /\ n=t.nodes /\ t.nodes <= 100)
noncomputable def vaD (x:Str):D:=.tup [.str "var", .str x]
noncomputable def caD (f:Str) (es:List D):D:=.tup [.str "call", .str f,.tup es]
noncomputable def bT (f x l v r:Str):D:=.tup [.str "tree", .str x,.tup [.str "give", .tup [.str "leaf"]],.str l,.str v,.str r,.tup [.str "give", .tup [.str "node", caD f [vaD r],vaD v,caD f [vaD l]]]]
noncomputable def fnT (f x l v r:Str):D:=.tup [.str f,pmD [(x,.str "tree")],.tup [.str "tree", .tup [.int 0,.int 1]],bT f x l v r]
theorem bj {R:Str->D->Int->Prop} {cl st ts rs:List D} {fs:List (Int × List (Str × D))} {f:Str} {es us:List D} {n0 sz bb:D} {ps:List (Str × D)} (b:Sm cl st ts rs) (hf:rowG fns f=some (.tup [n0,pmD ps,sz,bb])) (le:us.length=es.length) (ne:us ≠ []) (l10:us.length <= 10) (pu:zu us) (p0:zh n0) (pp:zu (ps.map Prod.snd)) (pz:zh sz) (pb:zh bb) (lp:ps.length=us.length) (nd:(ps.map Prod.fst).Nodup)
  (h:Fin C R fns most P (tj most f us ps bb (stt cl st fs ts rs))):Fin C R fns most P (stt cl st fs (ts ++ [apD (caD f es)]) (rs ++ us)):=by
 have b1:=b.1
 refine yt rfl ⟨ts,.inr (.inr (.inl ⟨_,rfl,fun φ hφ=>?_⟩))⟩ h
 refine ⟨fns,most,_,rs,rfl,by show (rs ++ us).length <= 10000; simp; omega,b.2,.inl ⟨f,es,us,rfl,rfl,le,ne,l10,pu,?_⟩⟩
 exact ⟨fns,most,_,f,us,n0,ps,sz,bb,rfl,rfl,hf,p0,pp,pz,pb,pu,lp,l10,nd,by show st.length <= 10000; omega,by show cl.length <= 10000; omega,by show ts.length <= 10000; omega,hφ⟩
theorem dg {R:Str->D->Int->Prop} {f:Str} {as:List D} {b:D} {ps:List (Str × D)} {s:LS} {fs:List (Int × List (Str × D))} {ts rs:List D} (c:s.cut=false)
  (hcut:(begL most as (upD fs) (fs.length + 1) s).cut=true->∀ s1:MS,s1.cut=true->s1.calls=(begL most as (upD fs) (fs.length + 1) s).cs.map (rwM f)->s1.steps=(begL most as (upD fs) (fs.length + 1) s).st->P s1)
  (hgo:¬ 20 <= fs.length->¬ most <= s.st.length->O2 most P (s.cs.map (rwM f) ++ [.tup [.str f,.tup as,upD fs,.bl false,.non]]) (s.st ++ [stp s.cs.length "call"])->Fin C R fns most P (stt (s.cs.map (rwM f) ++ [.tup [.str f,.tup as,upD fs,.bl false,.non]]) (s.st ++ [stp s.cs.length "call"]) (fs ++ [((s.cs.length:Int),(ps.map Prod.fst).zip as)]) (ts ++ [.tup [.str "leave"]] ++ [bdD b]) rs)) :
  Fin C R fns most P (tj most f as ps b (stt (s.cs.map (rwM f)) s.st fs ts rs)):=by
 unfold tj
 by_cases h20:20 <= fs.length
 ·rw [if_pos (show 20 <= (stt (s.cs.map (rwM f)) s.st fs ts rs).frames.length from h20)]
  rw [Py (by omega)] at hcut
  exact wn (.inr rfl) (hcut rfl _ rfl rfl rfl)
 rw [if_neg (show ¬ 20 <= (stt (s.cs.map (rwM f)) s.st fs ts rs).frames.length from h20)]
 by_cases q:most <= s.st.length
 ·rw [u0 (show most <= (stt (s.cs.map (rwM f)) s.st fs ts rs).steps.length from q)]
  rw [Px (by omega) q] at hcut
  exact wn (.inr rfl) (hcut rfl _ rfl rfl rfl)
 rw [uw (show ¬ most <= (stt (s.cs.map (rwM f)) s.st fs ts rs).steps.length from q)]
 have e:((stt (s.cs.map (rwM f)) s.st fs ts rs).calls.length:Int)=s.cs.length:=by simp [stt]
 rw [e]
 refine hgo h20 q fun q2=>?_
 rw [Pw (by omega) c q q2] at hcut
 intro s1 h1 h2 h3
 exact hcut rfl s1 h1 (by rw [h2]; simp [rwM]) h3
theorem v7 {fs:List (Int × List (Str × D))} {p:Int × List (Str × D)}:upD (fs ++ [p])=.int p.1:=by
 unfold upD
 rw [List.getLast?_append]
 rfl
theorem xw {cl st ts rs:List D} (h:cl.length <= st.length) (h1:st.length <= 310) (h2:ts.length <= 400) (h3:rs.length <= 400) (p:zu rs):Sm cl st ts rs:=⟨by omega,p⟩
section
variable {t l r:Tr} {v:Int} {up:D} {dp:Nat} {s s1:LS} {m:Int}
theorem fx (h:(begL m [t.d] up dp s).cut=true):zy m t up dp s=(begL m [t.d] up dp s,.non):=by
 cases t with
 | lf =>
  unfold zy
  rw [if_pos (show (begL m [.non] up dp s).cut=true from h)]
  rfl
 | nd l v r =>
  unfold zy
  rw [if_pos (show (begL m [.tup [l.d,.int v,r.d]] up dp s).cut=true from h)]
  rfl
theorem R8 (h:(begL m [Tr.lf.d] up dp s).cut=false):zy m .lf up dp s=(endL s.cs.length .non (begL m [Tr.lf.d] up dp s),.non):=by
 unfold zy
 rw [if_neg (by rw [show (begL m [.non] up dp s).cut=false from h]; decide)]
 rfl
theorem Sz (e1:begL m [(Tr.nd l v r).d] up dp s=s1) (c1:s1.cut=false) (hp:(zy m r (.int s.cs.length) (dp + 1) s1).1.cut=true):zy m (.nd l v r) up dp s=((zy m r (.int s.cs.length) (dp + 1) s1).1,.non):=by
 subst e1
 have c1:(begL m [.tup [l.d,.int v,r.d]] up dp s).cut=false:=c1
 have hp:(zy m r (.int s.cs.length) (dp + 1) (begL m [.tup [l.d,.int v,r.d]] up dp s)).1.cut=true:=hp
 show zy m (.nd l v r) up dp s=((zy m r (.int s.cs.length) (dp + 1) (begL m [.tup [l.d,.int v,r.d]] up dp s)).1,.non)
 conv=>lhs; unfold zy
 simp only [c1,hp,Bool.false_eq_true,if_false,if_true,wd hp]
theorem Gb (e1:begL m [(Tr.nd l v r).d] up dp s=s1) (c1:s1.cut=false) (hp:(zy m r (.int s.cs.length) (dp + 1) s1).1.cut=false) (hq:(zy m l (.int s.cs.length) (dp + 1) (zy m r (.int s.cs.length) (dp + 1) s1).1).1.cut=true):zy m (.nd l v r) up dp s=((zy m l (.int s.cs.length) (dp + 1) (zy m r (.int s.cs.length) (dp + 1) s1).1).1,.non):=by
 have e:begL m [.tup [l.d,.int v,r.d]] up dp s=s1:=e1
 conv=>lhs; unfold zy
 simp only [e,c1,hp,hq,Bool.false_eq_true,if_false,if_true,wd hq]
theorem X8 (e1:begL m [(Tr.nd l v r).d] up dp s=s1) (c1:s1.cut=false) {p q:LS × D} (ep:zy m r (.int s.cs.length) (dp + 1) s1=p) (hp:p.1.cut=false) (eq:zy m l (.int s.cs.length) (dp + 1) p.1=q) :
  zy m (.nd l v r) up dp s=if (yk m s.cs.length "make" q.1).cut then (yk m s.cs.length "make" q.1,.non) else (endL s.cs.length (.tup [p.2,.int v,q.2]) (yk m s.cs.length "make" q.1),.tup [p.2,.int v,q.2]):=by
 have e:begL m [.tup [l.d,.int v,r.d]] up dp s=s1:=e1
 conv=>lhs; unfold zy
 simp only [e,c1,ep,hp,eq,Bool.false_eq_true,if_false]
end
theorem Oi {f x l v r:Str} (nd:[x,l,v,r].Nodup) (hm:most <= 300):∀ (t:Tr) (s:LS) (fs:List (Int × List (Str × D))) (ts rs:List D),s.cut=false->t.dep <= 30->t.nodes <= 100->s.cs.length <= s.st.length->s.st.length <= 300->ts.length <= 10 * fs.length->rs.length <= 10 * fs.length->zu rs ->
  ((zy most t (upD fs) (fs.length + 1) s).1.cut=true->∀ s1:MS,s1.cut=true->s1.calls=(zy most t (upD fs) (fs.length + 1) s).1.cs.map (rwM f)->s1.steps=(zy most t (upD fs) (fs.length + 1) s).1.st->P s1) ->
  ((zy most t (upD fs) (fs.length + 1) s).1.cut=false->(zy most t (upD fs) (fs.length + 1) s).2=t.turned.d->Fin C RT [(f,fnT f x l v r)] most P (stt ((zy most t (upD fs) (fs.length + 1) s).1.cs.map (rwM f)) (zy most t (upD fs) (fs.length + 1) s).1.st fs ts (rs ++ [t.turned.d]))) ->
  Fin C RT [(f,fnT f x l v r)] most P (tj most f [t.d] [(x,.str "tree")] (bT f x l v r) (stt (s.cs.map (rwM f)) s.st fs ts rs)):=by
 have pv:∀ z:Str,zh (vaD z):=fun z=>⟨trivial,trivial,trivial⟩
 have pc:∀ z:Str,zh (caD f [vaD z]):=fun z=>⟨trivial,trivial,⟨pv z,trivial⟩,trivial⟩
 have pB1:zh (.tup [.str "give", .tup [.str "leaf"]]):=⟨trivial,⟨trivial,trivial⟩,trivial⟩
 have pN:zh (.tup [.str "node", caD f [vaD r],vaD v,caD f [vaD l]]):=⟨trivial,pc r,pv v,pc l,trivial⟩
 have pB2:zh (.tup [.str "give", .tup [.str "node", caD f [vaD r],vaD v,caD f [vaD l]]]):=⟨trivial,pN,trivial⟩
 have pB:zh (bT f x l v r):=⟨trivial,trivial,pB1,trivial,trivial,trivial,pB2,trivial⟩
 have hf:rowG [(f,fnT f x l v r)] f=some (fnT f x l v r):=by simp [rowG]
 have nds:=nd
 simp only [List.nodup_cons,List.mem_cons,List.not_mem_nil,or_false,not_or] at nds
 intro t
 induction t with
 | lf =>
  intro s fs ts rs c hd hn hcs hst hts hrs prs hcut hgo
  refine dg c (fun h=>?_) fun h20 q hC=>?_
  ·rw [fx h] at hcut
   exact hcut h
  have l1:(s.st ++ [stp s.cs.length "call"]).length=s.st.length + 1:=by simp
  refine Yq (n:=(s.cs.length:Int)) (rows:=[(x,.non)]) (xw (by simp; omega) (by simp; omega) (by simp; omega) (by omega) prs) (by simp [rowG]) pB1 pB2 (by simp) hC fun q2=>?_
  have e1:=fk (as:=[Tr.lf.d]) (up:=upD fs) (dp:=fs.length + 1) (by omega) c q q2
  have ec:(begL most [Tr.lf.d] (upD fs) (fs.length + 1) s).cut=false:=by rw [e1]
  refine qk (xw (by simp; omega) (by simp; omega) (by simp; omega) (by omega) prs) ⟨trivial,trivial⟩ ?_
  refine Ma (xw (by simp; omega) (by simp; omega) (by simp; omega) (by omega) prs) ?_
  rw [R8 ec,e1,bt (more:=[])] at hgo
  have:=hgo rfl rfl
  rw [<- List.append_nil (s.cs.map (rwM f) ++ [_])]
  refine t6 (m:=s.cs.length) (nm:=.str f) (args:=.tup [Tr.lf.d]) (up:=upD fs) (cl1:=s.cs.map (rwM f)) (cl2:=[]) (v:=.non) (by simp) trivial ⟨trivial,trivial⟩ (by unfold upD; split <;> trivial) trivial ?_
  rw [List.append_nil]
  simp only [zMa,List.map_cons,List.map_nil] at this
  exact this
 | nd tl tv tr ihl ihr =>
  intro s fs ts rs c hd hn hcs hst hts hrs prs hcut hgo
  have hd:1 + max tl.dep tr.dep <= 30:=hd
  have hn:1 + tl.nodes + tr.nodes <= 100:=hn
  refine dg c (fun h=>?_) fun h20 q hC=>?_
  ·rw [fx h] at hcut
   exact hcut h
  have l1:(s.st ++ [stp s.cs.length "call"]).length=s.st.length + 1:=by simp
  refine Yp (n:=(s.cs.length:Int)) (rows:=[(x,(Tr.nd tl tv tr).d)]) (v1:=tl.d) (v2:=.int tv) (v3:=tr.d) (xw (by simp; omega) (by simp; omega) (by simp; omega) (by omega) prs) (by simp [rowG]; rfl) ⟨tl.pure,trivial,tr.pure,trivial⟩ ((Tr.nd tl tv tr).ok 39 (by show 1 + max tl.dep tr.dep <= 39; omega)) pB1 pB2 (by simp) nd hC fun q2=>?_
  have e1:=fk (as:=[(Tr.nd tl tv tr).d]) (up:=upD fs) (dp:=fs.length + 1) (by omega) c q q2
  have q3:¬ most <= ((s.st.length:Int) + 1):=by rw [l1] at q2; omega
  refine qk (xw (by simp; omega) (by simp; omega) (by simp; omega) (by omega) prs) pN ?_
  refine Hh (xw (by simp; omega) (by simp; omega) (by simp; omega) (by omega) prs) (.inr (.inl rfl)) (pc r) (pv v) (pc l) ?_
  refine Ys (xw (by simp; omega) (by simp; omega) (by simp; omega) (by omega) prs) (pv r) ?_
  refine u6 (n:=(s.cs.length:Int)) (v:=tr.d) (xw (by simp; omega) (by simp; omega) (by simp; omega) (by omega) prs) (by simp [rowG,nds.1.2.2,nds.2.1.2,nds.2.2.1]) tr.pure ?_
  generalize e0:begL most [(Tr.nd tl tv tr).d] (upD fs) (fs.length + 1) s=s1 at *
  have c1:s1.cut=false:=by rw [e1]
  have k0:Kp most s s1:=by rw [<- e0]; exact Kp.beg c
  have ecs:s.cs.map (rwM f) ++ [.tup [.str f,.tup [(Tr.nd tl tv tr).d],upD fs,.bl false,.non]]=s1.cs.map (rwM f):=by rw [e1]; simp [rwM]
  have est:s.st ++ [stp s.cs.length "call"] ++ [stp s.cs.length "open"]=s1.st:=by rw [e1]
  have ecs':s.cs.map (rwM f) ++ [.tup [.str f,.tup [D.tup [tl.d,.int tv,tr.d]],upD fs,.bl false,.non]]=s1.cs.map (rwM f):=ecs
  have le1:s1.cs.length <= s1.st.length:=by rw [e1]; simp; omega
  have le2:s1.st.length <= 300:=by rw [e1]; simp; omega
  show Fin C RT [(f,fnT f x l v r)] most P (stt (s.cs.map (rwM f) ++ [.tup [.str f,.tup [(Tr.nd tl tv tr).d],upD fs,.bl false,.non]]) (s.st ++ [stp s.cs.length "call"] ++ [stp s.cs.length "open"]) _ _ _)
  rw [ecs,est]
  refine bj (b:=xw (by simpa using le1) (by omega) (by simp; omega) (by omega) prs) hf rfl (by simp) (by simp) ⟨tr.pure,trivial⟩ trivial ⟨trivial,trivial⟩ ⟨trivial,⟨trivial,trivial,trivial⟩,trivial⟩ pB rfl (by simp) ?_
  have efs:∀ rows:List (Str × D),(fs ++ [((s.cs.length:Int),rows)]).length + 1=fs.length + 1 + 1:=fun rows=>by simp
  refine ihr s1 _ _ rs c1 (by omega) (by omega) le1 le2 (by simp; omega) (by simp; omega) prs (fun hp=>?_) fun hp er=>?_
  ·rw [v7,efs] at hp ⊢
   rw [Sz e0 c1 hp] at hcut
   exact hcut hp
  rw [v7,efs] at hp er ⊢
  have k1:Kp most s1 (zy most tr (.int s.cs.length) (fs.length + 1 + 1) s1).1:=uo _ _ _ _ c1
  generalize ep:zy most tr (.int s.cs.length) (fs.length + 1 + 1) s1=p at *
  have le3:p.1.cs.length <= p.1.st.length:=by have:=k1.cl; omega
  have le4:p.1.st.length <= 300:=by have:=k1.le; omega
  refine u6 (n:=(s.cs.length:Int)) (v:=.int tv) (xw (by simpa using le3) (by omega) (by simp; omega) (by simp; omega) (yj.mpr ⟨prs,Tr.pure _,trivial⟩)) (by simp [rowG,nds.1.2.1,nds.2.1.1]) trivial ?_
  refine Ys (xw (by simpa using le3) (by omega) (by simp; omega) (by simp; omega) (yj.mpr ⟨yj.mpr ⟨prs,Tr.pure _,trivial⟩,trivial,trivial⟩)) (pv l) ?_
  refine u6 (n:=(s.cs.length:Int)) (v:=tl.d) (xw (by simpa using le3) (by omega) (by simp; omega) (by simp; omega) (yj.mpr ⟨yj.mpr ⟨prs,Tr.pure _,trivial⟩,trivial,trivial⟩)) (by simp [rowG,nds.1.1]) tl.pure ?_
  refine bj (b:=xw (by simpa using le3) (by omega) (by simp; omega) (by simp; omega) (yj.mpr ⟨yj.mpr ⟨prs,Tr.pure _,trivial⟩,trivial,trivial⟩)) hf rfl (by simp) (by simp) ⟨tl.pure,trivial⟩ trivial ⟨trivial,trivial⟩ ⟨trivial,⟨trivial,trivial,trivial⟩,trivial⟩ pB rfl (by simp) ?_
  refine ihl p.1 _ _ _ hp (by omega) (by omega) le3 le4 (by simp; omega) (by simp; omega) (yj.mpr ⟨yj.mpr ⟨prs,Tr.pure _,trivial⟩,trivial,trivial⟩) (fun hq=>?_) fun hq eq=>?_
  ·rw [v7,efs] at hq ⊢
   have hp':=hp
   rw [<- ep] at hp' hq ⊢
   rw [Gb e0 c1 hp' hq] at hcut
   exact hcut hq
  rw [v7,efs] at hq eq ⊢
  have k2:Kp most p.1 (zy most tl (.int s.cs.length) (fs.length + 1 + 1) p.1).1:=uo _ _ _ _ hp
  generalize eqq:zy most tl (.int s.cs.length) (fs.length + 1 + 1) p.1=q4 at *
  have le5:q4.1.cs.length <= q4.1.st.length:=by have:=k2.cl; omega
  have le6:q4.1.st.length <= 300:=by have:=k2.le; omega
  rw [X8 e0 c1 ep hp eqq] at hcut hgo
  refine M9 (n:=(s.cs.length:Int)) (sz:=(Tr.nd tl tv tr).turned.nodes) (xw (by simpa using le5) (by omega) (by simp; omega) (by omega) prs) ⟨Tr.pure _,trivial,Tr.pure _,trivial⟩ (.inr ⟨rfl,(Tr.nd tl tv tr).turned,rfl,rfl,by rw [Tr.turned_nodes]; exact hn⟩) (by rw [Tr.turned_nodes]; show ¬ (100:Int) < ((1 + tl.nodes + tr.nodes:Nat):Int); omega) (fun z=>?_) fun z=>?_
  ·rw [vn z] at hcut
   exact hcut rfl
  rw [wa z hq] at hgo
  have k3:Kp most q4.1 { q4.1 with st:=q4.1.st ++ [stp s.cs.length "make"] }:=by have:=Kp.step (m:=most) (s:=q4.1) (a:=s.cs.length) (k:="make"); rwa [wa z hq] at this
  have c4:(LS.mk q4.1.cs (q4.1.st ++ [stp s.cs.length "make"]) q4.1.cut).cut=false:=hq
  obtain ⟨_,more,e5,e6⟩:=Kp.fin (x:=.tup [p.2,.int tv,q4.2]) e1 k0 (k1.trans (k2.trans k3)) c4
  rw [if_neg (by show ¬ q4.1.cut=true; rw [hq]; decide)] at hgo
  rw [e6] at hgo
  have:=hgo rfl (by show D.tup [p.2,.int tv,q4.2]=_; rw [er,eq]; rfl)
  have e5:q4.1.cs=_:=e5
  rw [e5]
  simp only [zMa,List.map_cons] at this ⊢
  have h6:∀ (a:List D) (y:D) (z:List D),a ++ y :: z=a ++ [y] ++ z:=fun a y z=>by simp
  rw [h6]
  rw [h6] at this
  refine t6 (m:=s.cs.length) (nm:=.str f) (args:=.tup [(Tr.nd tl tv tr).d]) (up:=upD fs) (v:=.tup [tr.turned.d,.int tv,tl.turned.d]) (by simp) trivial ⟨Tr.pure _,trivial⟩ (by unfold upD; split <;> trivial) ⟨Tr.pure _,trivial,Tr.pure _,trivial⟩ ?_
  have et:(Tr.nd tl tv tr).turned.d=.tup [p.2,.int tv,q4.2]:=by rw [er,eq]; rfl
  rw [et] at this
  rw [<- er,<- eq]
  exact this
end
section
variable {fns:List (Str × D)} {most:Int} {P:MS->Prop} {n:Int} {w:World} {K:W.Frag} {mg:Str->Option Value} {base:Heap} {f C:Addr} {fd:FuncData} {R:Str->D->Int->Prop} {Fz:D->D->Prop}
noncomputable def rowD (row:List Int):D:=.tup (row.map D.int)
theorem ux:∀ row:List Int,zu (row.map D.int)
 | []=>trivial
 | _ :: r=>⟨trivial,ux r⟩
theorem yh (row:List Int):zh (rowD row):=ux row
noncomputable def coD (f r v y:Str):D:=.tup [.str "cons", vaD v,caD f [vaD r,vaD y]]
noncomputable def bL (f x y l v r:Str):D:=.tup [.str "tree", .str x,.tup [.str "give", vaD y],.str l,.str v,.str r,.tup [.str "give", caD f [vaD l,coD f r v y]]]
noncomputable def fnL (f x y l v r:Str):D:=.tup [.str f,pmD [(x,.str "tree"),(y,.str "list")],.tup [.str "list", .tup [.int 0,.int 1,.int 1]],bL f x y l v r]
section
variable {t l r:Tr} {row:List Int} {v:Int} {up:D} {dp:Nat} {s s1:LS} {m:Int}
theorem Xu (h:(begL m [t.d,rowD row] up dp s).cut=true):layL m t row up dp s=(begL m [t.d,rowD row] up dp s,[]):=by
 cases t with
 | lf =>
  unfold layL
  rw [if_pos (show (begL m [.non,.tup (row.map D.int)] up dp s).cut=true from h)]
  rfl
 | nd l v r =>
  unfold layL
  rw [if_pos (show (begL m [.tup [l.d,.int v,r.d],.tup (row.map D.int)] up dp s).cut=true from h)]
  rfl
theorem Lh (h:(begL m [Tr.lf.d,rowD row] up dp s).cut=false):layL m .lf row up dp s=(endL s.cs.length (rowD row) (begL m [Tr.lf.d,rowD row] up dp s),row):=by
 unfold layL
 rw [if_neg (by rw [show (begL m [.non,.tup (row.map D.int)] up dp s).cut=false from h]; decide)]
 rfl
theorem Eo (e1:begL m [(Tr.nd l v r).d,rowD row] up dp s=s1) (c1:s1.cut=false) (hp:(layL m r row (.int s.cs.length) (dp + 1) s1).1.cut=true):layL m (.nd l v r) row up dp s=((layL m r row (.int s.cs.length) (dp + 1) s1).1,[]):=by
 have e:begL m [.tup [l.d,.int v,r.d],.tup (row.map D.int)] up dp s=s1:=e1
 conv=>lhs; unfold layL
 simp only [e,c1,hp,Bool.false_eq_true,if_false,if_true,wd hp]
theorem En {p:LS × List Int} (e1:begL m [(Tr.nd l v r).d,rowD row] up dp s=s1) (c1:s1.cut=false) (ep:layL m r row (.int s.cs.length) (dp + 1) s1=p) (z:m <= p.1.st.length):layL m (.nd l v r) row up dp s=({ p.1 with cut:=true },[]):=by
 have e:begL m [.tup [l.d,.int v,r.d],.tup (row.map D.int)] up dp s=s1:=e1
 conv=>lhs; unfold layL
 simp only [e,c1,ep,Bool.false_eq_true,if_false,if_true,vn z]
theorem Qq {p q:LS × List Int} (e1:begL m [(Tr.nd l v r).d,rowD row] up dp s=s1) (c1:s1.cut=false) (ep:layL m r row (.int s.cs.length) (dp + 1) s1=p) (hp:p.1.cut=false) (z:¬ m <= p.1.st.length) (eq:layL m l (v :: p.2) (.int s.cs.length) (dp + 1) { p.1 with st:=p.1.st ++ [stp s.cs.length "make"] }=q) :
  layL m (.nd l v r) row up dp s=if q.1.cut then (q.1,[]) else (endL s.cs.length (rowD q.2) q.1,q.2):=by
 have e:begL m [.tup [l.d,.int v,r.d],.tup (row.map D.int)] up dp s=s1:=e1
 subst eq
 conv=>lhs; unfold layL
 simp only [e,c1,ep,hp,Bool.false_eq_true,if_false,wa z hp]
 rfl
end
theorem app2 {α:Type} {a:List α} {x y:α}:a ++ [x] ++ [y]=a ++ [x,y]:=by simp
theorem Ki {f x y l v r:Str} (nd:[x,y,l,v,r].Nodup) (hm:most <= 300):∀ (t:Tr) (row:List Int) (s:LS) (fs:List (Int × List (Str × D))) (ts rs:List D),s.cut=false->t.dep <= 30->t.nodes + row.length <= 100->s.cs.length <= s.st.length->s.st.length <= 300->ts.length <= 10 * fs.length->rs.length <= 10 * fs.length->zu rs ->
  ((layL most t row (upD fs) (fs.length + 1) s).1.cut=true->∀ s1:MS,s1.cut=true->s1.calls=(layL most t row (upD fs) (fs.length + 1) s).1.cs.map (rwM f)->s1.steps=(layL most t row (upD fs) (fs.length + 1) s).1.st->P s1) ->
  ((layL most t row (upD fs) (fs.length + 1) s).1.cut=false->(layL most t row (upD fs) (fs.length + 1) s).2=t.nums ++ row->Fin C RT [(f,fnL f x y l v r)] most P (stt ((layL most t row (upD fs) (fs.length + 1) s).1.cs.map (rwM f)) (layL most t row (upD fs) (fs.length + 1) s).1.st fs ts (rs ++ [rowD (t.nums ++ row)]))) ->
  Fin C RT [(f,fnL f x y l v r)] most P (tj most f [t.d,rowD row] [(x,.str "tree"),(y,.str "list")] (bL f x y l v r) (stt (s.cs.map (rwM f)) s.st fs ts rs)):=by
 have pv:∀ z:Str,zh (vaD z):=fun z=>⟨trivial,trivial,trivial⟩
 have pc:zh (caD f [vaD r,vaD y]):=⟨trivial,trivial,⟨pv r,pv y,trivial⟩,trivial⟩
 have pco:zh (coD f r v y):=⟨trivial,pv v,pc,trivial⟩
 have pB1:zh (.tup [.str "give", vaD y]):=⟨trivial,pv y,trivial⟩
 have pN:zh (caD f [vaD l,coD f r v y]):=⟨trivial,trivial,⟨pv l,pco,trivial⟩,trivial⟩
 have pB2:zh (.tup [.str "give", caD f [vaD l,coD f r v y]]):=⟨trivial,pN,trivial⟩
 have pB:zh (bL f x y l v r):=⟨trivial,trivial,pB1,trivial,trivial,trivial,pB2,trivial⟩
 have hf:rowG [(f,fnL f x y l v r)] f=some (fnL f x y l v r):=by simp [rowG]
 have nds:=nd
 simp only [List.nodup_cons,List.mem_cons,List.not_mem_nil,or_false,not_or] at nds
 obtain ⟨⟨xy,xl,xv,xr⟩,⟨yl,yv,yr⟩,⟨lv,lr⟩,vr,_⟩:=nds
 have ndp:[x,y].Nodup:=by simp [xy]
 intro t
 induction t with
 | lf =>
  intro row s fs ts rs c hd hn hcs hst hts hrs prs hcut hgo
  refine dg c (fun h=>?_) fun h20 q hC=>?_
  ·rw [Xu h] at hcut
   exact hcut h
  have l1:(s.st ++ [stp s.cs.length "call"]).length=s.st.length + 1:=by simp
  refine Yq (n:=(s.cs.length:Int)) (rows:=[(x,.non),(y,rowD row)]) (xw (by simp; omega) (by simp; omega) (by simp; omega) (by omega) prs) (by simp [rowG]) pB1 pB2 (by simp) hC fun q2=>?_
  have e1:=fk (as:=[Tr.lf.d,rowD row]) (up:=upD fs) (dp:=fs.length + 1) (by omega) c q q2
  have ec:(begL most [Tr.lf.d,rowD row] (upD fs) (fs.length + 1) s).cut=false:=by rw [e1]
  refine qk (xw (by simp; omega) (by simp; omega) (by simp; omega) (by omega) prs) (pv y) ?_
  refine u6 (n:=(s.cs.length:Int)) (v:=rowD row) (xw (by simp; omega) (by simp; omega) (by simp; omega) (by omega) prs) (by simp [rowG,xy]) (yh row) ?_
  rw [Lh ec,e1,bt (more:=[])] at hgo
  have:=hgo rfl rfl
  rw [<- List.append_nil (s.cs.map (rwM f) ++ [_])]
  refine t6 (m:=s.cs.length) (nm:=.str f) (args:=.tup [Tr.lf.d,rowD row]) (up:=upD fs) (cl1:=s.cs.map (rwM f)) (cl2:=[]) (v:=rowD row) (by simp) trivial ⟨trivial,yh row,trivial⟩ (by unfold upD; split <;> trivial) (yh row) ?_
  rw [List.append_nil]
  simp only [zMa,List.map_cons,List.map_nil] at this
  exact this
 | nd tl tv tr ihl ihr =>
  intro row s fs ts rs c hd hn hcs hst hts hrs prs hcut hgo
  have hd:1 + max tl.dep tr.dep <= 30:=hd
  have hn:1 + tl.nodes + tr.nodes + row.length <= 100:=hn
  refine dg c (fun h=>?_) fun h20 q hC=>?_
  ·rw [Xu h] at hcut
   exact hcut h
  have l1:(s.st ++ [stp s.cs.length "call"]).length=s.st.length + 1:=by simp
  refine Yp (n:=(s.cs.length:Int)) (rows:=[(x,(Tr.nd tl tv tr).d),(y,rowD row)]) (v1:=tl.d) (v2:=.int tv) (v3:=tr.d) (xw (by simp; omega) (by simp; omega) (by simp; omega) (by omega) prs) (by simp [rowG]; rfl) ⟨tl.pure,trivial,tr.pure,trivial⟩ ((Tr.nd tl tv tr).ok 39 (by show 1 + max tl.dep tr.dep <= 39; omega)) pB1 pB2 (by simp) nd hC fun q2=>?_
  have e1:=fk (as:=[(Tr.nd tl tv tr).d,rowD row]) (up:=upD fs) (dp:=fs.length + 1) (by omega) c q q2
  have q3:¬ most <= ((s.st.length:Int) + 1):=by rw [l1] at q2; omega
  have p1:zu (rs ++ [tl.d]):=yj.mpr ⟨prs,tl.pure,trivial⟩
  have p2:zu (rs ++ [tl.d] ++ [.int tv]):=yj.mpr ⟨p1,trivial,trivial⟩
  have p3:zu (rs ++ [tl.d] ++ [.int tv] ++ [tr.d]):=yj.mpr ⟨p2,tr.pure,trivial⟩
  refine qk (xw (by simp; omega) (by simp; omega) (by simp; omega) (by omega) prs) pN ?_
  refine Yr (xw (by simp; omega) (by simp; omega) (by simp; omega) (by omega) prs) (pv l) pco ?_
  refine u6 (n:=(s.cs.length:Int)) (v:=tl.d) (xw (by simp; omega) (by simp; omega) (by simp; omega) (by omega) prs) (by simp [rowG,xl,yl]) tl.pure ?_
  refine Hi (xw (by simp; omega) (by simp; omega) (by simp; omega) (by simp; omega) p1) (.inl rfl) (pv v) pc ?_
  refine u6 (n:=(s.cs.length:Int)) (v:=.int tv) (xw (by simp; omega) (by simp; omega) (by simp; omega) (by simp; omega) p1) (by simp [rowG,xv,yv,lv]) trivial ?_
  refine Yr (xw (by simp; omega) (by simp; omega) (by simp; omega) (by simp; omega) p2) (pv r) (pv y) ?_
  refine u6 (n:=(s.cs.length:Int)) (v:=tr.d) (xw (by simp; omega) (by simp; omega) (by simp; omega) (by simp; omega) p2) (by simp [rowG,xr,yr,lr,vr]) tr.pure ?_
  refine u6 (n:=(s.cs.length:Int)) (v:=rowD row) (xw (by simp; omega) (by simp; omega) (by simp; omega) (by simp; omega) p3) (by simp [rowG,xy]) (yh row) ?_
  generalize e0:begL most [(Tr.nd tl tv tr).d,rowD row] (upD fs) (fs.length + 1) s=s1 at *
  have c1:s1.cut=false:=by rw [e1]
  have k0:Kp most s s1:=by rw [<- e0]; exact Kp.beg c
  have ecs:s.cs.map (rwM f) ++ [.tup [.str f,.tup [(Tr.nd tl tv tr).d,rowD row],upD fs,.bl false,.non]]=s1.cs.map (rwM f):=by rw [e1]; simp [rwM]
  have est:s.st ++ [stp s.cs.length "call"] ++ [stp s.cs.length "open"]=s1.st:=by rw [e1]
  have le1:s1.cs.length <= s1.st.length:=by rw [e1]; simp; omega
  have le2:s1.st.length <= 300:=by rw [e1]; simp; omega
  show Fin C RT [(f,fnL f x y l v r)] most P (stt (s.cs.map (rwM f) ++ [.tup [.str f,.tup [(Tr.nd tl tv tr).d,rowD row],upD fs,.bl false,.non]]) (s.st ++ [stp s.cs.length "call"] ++ [stp s.cs.length "open"]) _ _ _)
  rw [ecs,est,app2 (x:=tr.d)]
  refine bj (b:=xw (by simpa using le1) (by omega) (by simp; omega) (by simp; omega) p2) hf rfl (by simp) (by simp) ⟨tr.pure,yh row,trivial⟩ trivial ⟨trivial,trivial,trivial⟩ ⟨trivial,⟨trivial,trivial,trivial,trivial⟩,trivial⟩ pB rfl ndp ?_
  have efs:∀ rows:List (Str × D),(fs ++ [((s.cs.length:Int),rows)]).length + 1=fs.length + 1 + 1:=fun rows=>by simp
  refine ihr row s1 _ _ _ c1 (by omega) (by omega) le1 le2 (by simp; omega) (by simp; omega) p2 (fun hp=>?_) fun hp er=>?_
  ·rw [v7,efs] at hp ⊢
   rw [Eo e0 c1 hp] at hcut
   exact hcut hp
  rw [v7,efs] at hp er ⊢
  have k1:Kp most s1 (layL most tr row (.int s.cs.length) (fs.length + 1 + 1) s1).1:=kq _ _ _ _ _ c1
  generalize ep:layL most tr row (.int s.cs.length) (fs.length + 1 + 1) s1=p at *
  have le3:p.1.cs.length <= p.1.st.length:=by have:=k1.cl; omega
  have le4:p.1.st.length <= 300:=by have:=k1.le; omega
  have lw:(tr.nums ++ row).length <= 99:=by rw [zLa,Tr.nums_len]; omega
  refine Mb (n:=(s.cs.length:Int)) (v:=.int tv) (r:=(tr.nums ++ row).map D.int) (sz:=((tv :: (tr.nums ++ row)).length:Nat)) (xw (by simpa using le3) (by omega) (by simp; omega) (by simp; omega) p1) trivial (ux _) (by rw [zLm]; omega) (.inl ⟨rfl,tv :: (tr.nums ++ row),rfl,rfl⟩) (fun z=>?_) (fun z=>?_) fun z _=>?_
  ·rw [En e0 c1 ep z] at hcut
   exact hcut rfl
  ·rw [zLc] at z
   omega
  have k2:Kp most p.1 { p.1 with st:=p.1.st ++ [stp s.cs.length "make"] }:=by have:=Kp.step (m:=most) (s:=p.1) (a:=s.cs.length) (k:="make"); rwa [wa z hp] at this
  have z1:((p.1.st ++ [stp s.cs.length "make"]).length:Int) <= 300:=by rw [zLa]; simp; omega
  have le5:p.1.cs.length <= (p.1.st ++ [stp s.cs.length "make"]).length:=by simp; omega
  rw [app2 (x:=tl.d)]
  refine bj (b:=xw (by simpa using le5) (by omega) (by simp; omega) (by omega) prs) hf rfl (by simp) (by simp) ⟨tl.pure,⟨trivial,ux _⟩,trivial⟩ trivial ⟨trivial,trivial,trivial⟩ ⟨trivial,⟨trivial,trivial,trivial,trivial⟩,trivial⟩ pB rfl ndp ?_
  refine ihl (tv :: (tr.nums ++ row)) { p.1 with st:=p.1.st ++ [stp s.cs.length "make"] } _ _ _ hp (by omega) (by rw [zLc,zLa,Tr.nums_len]; omega) le5 (by show (p.1.st ++ [stp s.cs.length "make"]).length <= 300; omega) (by simp; omega) (by simp; omega) prs (fun hq=>?_) fun hq eq=>?_
  ·rw [v7,efs] at hq ⊢
   rw [<- er] at hq ⊢
   rw [Qq e0 c1 ep hp z rfl,if_pos hq] at hcut
   exact hcut hq
  rw [v7,efs] at hq eq ⊢
  rw [<- er] at hq eq ⊢
  have k3:=kq (m:=most) tl (tv :: p.2) (.int s.cs.length) (fs.length + 1 + 1) { p.1 with st:=p.1.st ++ [stp s.cs.length "make"] } hp
  rw [Qq e0 c1 ep hp z rfl,if_neg (by rw [hq]; decide)] at hgo
  generalize eqq:layL most tl (tv :: p.2) (.int s.cs.length) (fs.length + 1 + 1) { p.1 with st:=p.1.st ++ [stp s.cs.length "make"] }=q4 at *
  obtain ⟨_,more,e5,e6⟩:=Kp.fin (x:=rowD q4.2) e1 k0 (k1.trans (k2.trans k3)) hq
  rw [e6] at hgo
  have et:(Tr.nd tl tv tr).nums ++ row=q4.2:=by rw [eq,er]; show tl.nums ++ [tv] ++ tr.nums ++ row=_; simp
  have:=hgo rfl et.symm
  rw [et] at this
  rw [e5,<- eq]
  simp only [zMa,List.map_cons] at this ⊢
  have h6:∀ (a:List D) (y:D) (z:List D),a ++ y :: z=a ++ [y] ++ z:=fun a y z=>by simp
  rw [h6]
  rw [h6] at this
  refine t6 (m:=s.cs.length) (nm:=.str f) (args:=.tup [(Tr.nd tl tv tr).d,rowD row]) (up:=upD fs) (v:=rowD q4.2) (by simp) trivial ⟨Tr.pure _,yh row,trivial⟩ (by unfold upD; split <;> trivial) (yh _) ?_
  exact this
end
section
variable {P:Program} {w:World} {K:W.Frag} {mg:Str->Option Value} {base:Heap} {f C:Addr} {fd:FuncData} {R:Str->D->Int->Prop} {Fz:D->D->Prop}
theorem Ks {fns:List (Str × D)} {nm:Str} {i:Nat} {d:D} (h:∀ p ∈ fns.take i,p.1 ≠ nm) (e:fns[i]?=some (nm,d)):rowG fns nm=some d:=by
 induction fns generalizing i with
 | nil=>simp at e
 | cons p fns ih =>
  cases i with
  | zero =>
   simp only [List.getElem?_cons_zero,Option.some.injEq] at e
   subst e
   unfold rowG
   simp
  | succ i =>
   have:=h p (by simp)
   have:=ih (i:=i) (fun q hq=>h q (by simp [hq])) (by simpa using e)
   unfold rowG
   simp_all
theorem Ou {fns:List (Str × D)} {nm:Str} {d:D} (e:rowG fns nm=some d):∃ p ∈ fns,p.1=nm:=by
 induction fns with
 | nil=>cases e
 | cons p fns ih =>
  unfold rowG at e
  split at e
  ·rename_i q
   exact ⟨p,by simp,by simp_all⟩
  ·obtain ⟨q,hq,e2⟩:=ih e
   exact ⟨q,by simp [hq],e2⟩
noncomputable def L0:FT:=fun ds φ=>∃ fns:List (Str × D),∃ nm fn,ds=[.tup (fns.map Prod.snd),.str nm] /\ fns.length <= 100 /\ (∀ p ∈ fns,∃ r,p.2=.tup (.str p.1 :: r)) /\ rowG fns nm=some fn /\ zh fn /\ φ (dv fn)
noncomputable def L1 (Fz:D->D->Prop):FT:=fun ds φ=>∃ s d,ds=[s,d] /\ Fz s d /\ φ (dv (.bl true))
noncomputable def L4 (Fz:D->D->Prop):FT:=fun ds φ=>∃ n0 ps sz b as,ds=[.tup [n0,pmD ps,sz,b],.lst as] /\ ps.length=as.length /\ ps.length <= 100 /\ (∀ p ∈ (ps.map Prod.snd).zip as,Fz p.1 p.2) /\ φ (dv .non)
noncomputable def FzT:D->D->Prop:=fun s d=>(s=.str "list" /\ ∃ l:List Int,d=.tup (l.map D.int) /\ l.length <= 1000) \/ (s=.str "tree" /\ ∃ t:Tr,d=t.d /\ t.nodes <= 100)
noncomputable def Mw:FT:=g1 fun d φ=>∃ t:Tr,d=t.d /\ t.nodes <= 100 /\ φ (dv (.bl true))
noncomputable def Re:FT:=g1 fun d φ=>∃ t:Tr,d=t.d /\ t.nodes <= 100 /\ φ (dv (.int t.nodes))
noncomputable def szD:D->Nat
 | .tup [l,_,r]=>1 + szD l + szD r
 | _=>1
theorem Xe (d:D):1 <= szD d:=by
 unfold szD
 split <;> omega
noncomputable def sumZ (ds:List D):Nat:=(ds.map szD).sum
theorem uc (ds es:List D):sumZ (ds ++ es)=sumZ ds + sumZ es:=by
 unfold sumZ
 simp
theorem dy:∀ (ds:List D),ds.length <= sumZ ds
 | []=>Nat.zero_le _
 | d :: ds=>by
  have:=dy ds
  have:=Xe d
  unfold sumZ at *
  simp
  omega
theorem Tr.sz:∀ t:Tr,szD t.d=2 * t.nodes + 1
 | .lf=>by simp [Tr.d,Tr.nodes,szD]
 | .nd l v r=>by
  have h1:=l.sz
  have h2:=r.sz
  simp only [Tr.d,Tr.nodes,szD,h1,h2]
  omega
noncomputable def Kb:FT:=fun ds φ=>∃ n,ds=[.int n] /\ φ (dv (.bl true))
theorem ga (T:Tops mg) (F:Fun K "function_of" "function_of" (top 6) f fd) (m:mg "function_of" = some (.ref f)):FD P w K mg base 1 "function_of" ["program", "name"] L0:=by
 have S:zn ["program", "name", "function"] ["program", "name"] (zb (top 6)):=⟨rfl,rfl,rfl,by decide +kernel,rfl,by decide +kernel,by decide +kernel⟩
 refine u7 F S (F.binds fun _ _ _ _ _ _ us hl=>(by obtain ⟨_,_,rfl⟩:=ur hl; rfl)) m fun qZ A outer s H E ds φ hr hl hT=>?_
 have hu:=hr.units
 refine ⟨_,(zl (gm (vv (z0 0)) (yb (i:=2) S.nd rfl (by walk_at "o")) (w5 2) (zx (we (xu hu (ze hu (z0 2) za) (z0 1)) (zx (yf (z0 2))) xi)))
   (zx dh)),?_⟩
 obtain ⟨fns,nm,fn,rfl,hl1,hn,hf,pf,h⟩:=hT
 show sFor _ _ _ _ _
 refine tz (fns.map Prod.snd) ?_ (fun i ρ=>(∃ t,ρ=[some (dv (.tup (fns.map Prod.snd))),some (dv (.str nm)),t]) /\ ∀ p ∈ fns.take i,p.1 ≠ nm) ⟨⟨none,rfl⟩,by simp⟩ ?_ ?_
 ·intro ψ hψ
  walk_at "dl"
  exact hψ
 ·rintro i d _ hd ⟨⟨t,rfl⟩,hp⟩
  rw [List.getElem?_map] at hd
  cases ep:fns[i]? with
  | none=>rw [ep] at hd; cases hd
  | some p =>
   rw [ep] at hd
   cases hd
   have hm:p ∈ fns:=List.mem_of_getElem? ep
   obtain ⟨r,er⟩:=hn p hm
   have tk:fns.take (i + 1)=fns.take i ++ [p]:=by rw [List.take_add_one,ep]; rfl
   obtain ⟨z,d⟩:=p
   simp only at er
   subst er
   walk_at "dl"
   refine ⟨fun e=>?_,fun e=>⟨⟨_,rfl⟩,?_⟩⟩
   ·subst e
    have e2:=Ks hp ep
    rw [e2] at hf
    cases hf
    exact ⟨pf.2,h⟩
   ·rw [tk]
    intro q hq
    rcases List.mem_append.mp hq with hq | hq
    ·exact hp q hq
    ·rw [List.mem_singleton.mp hq]; exact e
 ·rintro _ ⟨⟨t,rfl⟩,hp⟩
  obtain ⟨p,hm,e⟩:=Ou hf
  rw [zLm,List.take_length] at hp
  exact hp p hm e
theorem bp (T:Tops mg) (Au:FD P w K mg base 3 "fits" ["shape", "thing"] (L1 Fz)) (F:Fun K "check_args" "check_args" (top 16) f fd) (m:mg "check_args" = some (.ref f)):FD P w K mg base 4 "check_args" ["function", "args"] (L4 Fz):=by
 have S:zn ["function", "args", "shapes"] ["function", "args"] (zb (top 16)):=⟨rfl,rfl,rfl,by decide +kernel,rfl,by decide +kernel,by decide +kernel⟩
 refine u7 F S (F.binds fun _ _ _ _ _ _ us hl=>(by obtain ⟨_,_,rfl⟩:=ur hl; rfl)) m fun qZ A outer s H E ds φ hr hl hT=>?_
 have hu:=hr.units
 refine ⟨_,(zl (tx (T:=["param", "shape"]) (F:=[]) (js:=[]) 2 S.nd (vv (ze hu (z0 0) za)) (show y9 (zb (top 16)) _ ["param", "shape"] [] from ⟨rfl,by decide +kernel,by decide +kernel,by decide +kernel,by decide +kernel,by decide +kernel⟩) .nil (by decide) (fun cl C fp s H=>(Xl (K0:=K) (n:=2) (by rfl) (by rfl) (xn (yb (i:=0) (show ((["param", "shape"]:List Str) ++ ([]:List Str)).Nodup by decide +kernel) rfl (by walk_at "o")) (xn (yb (i:=1) (show ((["param", "shape"]:List Str) ++ ([]:List Str)).Nodup by decide +kernel) rfl (by walk_at "o")) du)))) (P1 (sn vt (V8 vt gz) (w6 (by decide)) (sn vt gz (w6 (by decide)) P2))) (V9 0 1) (fun cl C fp s H=>va) (fun cl C fp s H=>(z0 1)))
   (zl (we (Vh hu (wf T.len (z9 (z0 1) zc)) (wf T.len (z9 (z0 2) zc))) (zx dh) xi)
   (zx (U1 2 (we (wx (yx (Pl T.all (z9 (sv (T:=["shape", "arg"]) (F:=[]) (js:=[]) (Dg T.zip (z9 (z0 2) (z9 (z0 1) zc))) (show y9 (zb (top 16)) _ ["shape", "arg"] [] from ⟨rfl,by decide +kernel,by decide +kernel,by decide +kernel,by decide +kernel,by decide +kernel⟩) .nil (by decide) (fun cl C fp s H=>(Xl (K0:=K) (n:=2) (by rfl) (by rfl) (xn (yb (i:=0) (show ((["shape", "arg"]:List Str) ++ ([]:List Str)).Nodup by decide +kernel) rfl (by walk_at "o")) (xn (yb (i:=1) (show ((["shape", "arg"]:List Str) ++ ([]:List Str)).Nodup by decide +kernel) rfl (by walk_at "o")) du)))) (P1 (sn vt (V8 vt gz) (w6 (by decide)) (sn vt gz (w6 (by decide)) P2))) (V9 0 1) (fun cl C fp s H=>va) (fun cl C fp s H=>(ya Au (hr.mono (by decide)) (z9 (z0 0) (z9 (z0 1) zc))))) zc)))) (zx dh) xi))))),?_⟩
 obtain ⟨n0,ps,sz,b,as,rfl,hl1,hl2,hz,h⟩:=hT
 walk_at "dl"
 refine wo (ps.map fun p=>.tup [.str p.1,p.2]) ?_ (fun d=>match d with | .tup [_,a]=>some a | _=>none) (by rw [zLm]; omega) ?_ ?_
 ·intro ψ hψ
  unfold pmD
  walk_at "dl"
  exact hψ
 ·intro d hd
  obtain ⟨y,hy,rfl⟩:=List.mem_map.mp hd
  unfold ρ0
  walk_at "dl"
 ·have ef:(ps.map fun p=>D.tup [.str p.1,p.2]).filterMap (fun d=>match d with | .tup [_,a]=>some a | _=>none)=ps.map Prod.snd:=by
   rw [List.filterMap_map,<- List.filterMap_eq_map]
   rfl
  rw [ef]
  have lp:as.length=(ps.map Prod.snd).length:=by rw [zLm]; exact hl1.symm
  refine ⟨trivial,fun q=>absurd (congrArg Int.ofNat lp) q,fun _=>?_⟩
  refine wo (zipD (ps.map Prod.snd) as) ?_ (fun _=>some (.bl true)) ?_ ?_ ?_
  ·intro ψ hψ
   walk_at "dl"
   exact hψ
  ·unfold zipD
   rw [List.length_zipWith]
   omega
  ·intro d hd
   unfold zipD at hd
   have ez:∀ (xs ys:List D),List.zipWith (fun x y=>D.tup [x,y]) xs ys=(xs.zip ys).map fun q=>D.tup [q.1,q.2]:=fun xs=>by
    induction xs with
    | nil=>intro ys; simp
    | cons x xs ih=>intro ys; cases ys with
     | nil=>simp
     | cons y ys=>simp [ih]
   rw [ez] at hd
   obtain ⟨q,hq,rfl⟩:=List.mem_map.mp hd
   unfold ρ0
   walk_at "dl"
   exact ⟨_,_,rfl,hz q hq,trivial,rfl⟩
  ·have e3:∀ l:List D,l.filterMap (fun _=>some (D.bl true))=(List.replicate l.length true).map D.bl:=fun l=>by
    induction l with
    | nil=>rfl
    | cons x l ih=>simp only [List.filterMap_cons,zLc,List.replicate_succ,List.map_cons,ih]
   rw [e3]
   show match blsD _ with | some bs=>_ | none=>False
   rw [bw]
   refine ⟨fun z=>?_,fun _=>h⟩
   rw [show (List.replicate _ true).all id=true from by simp] at z
   cases z
theorem Vf (T:Tops mg) (F:Fun K "is_whole" "is_whole" (top 5) f fd) (m:mg "is_whole" = some (.ref f)):FD P w K mg base 1 "is_whole" ["thing"] Kb:=by
 have S:zn ["thing"] ["thing"] (zb (top 5)):=⟨rfl,rfl,rfl,by decide +kernel,rfl,by decide +kernel,by decide +kernel⟩
 refine u7 F S (F.binds fun _ _ _ _ _ _ us hl=>(by obtain ⟨_,rfl⟩:=sj hl; rfl)) m fun qZ A outer s H E ds φ hr hl hT=>?_
 have hu:=hr.units
 refine ⟨_,(zx (yf (Lw (yz T.isinstance (z9 (z0 0) (z9 (su T.int Pu) zc))) (Ph (Lu (yz T.isinstance (z9 (z0 0) (z9 (su T.bool vm) zc)))))))),?_⟩
 obtain ⟨n,rfl,h⟩:=hT
 walk_at "dl"
 exact h
theorem So (T:Tops mg) (Be:FD P w K mg base 1 "is_whole" ["thing"] Kb) (F:Fun K "is_tree" "is_tree" (top 9) f fd) (m:mg "is_tree" = some (.ref f)):FD P w K mg base 2 "is_tree" ["thing"] Mw:=by
 have S:zn ["thing", "waiting", "part"] ["thing"] (zb (top 9)):=⟨rfl,rfl,rfl,by decide +kernel,rfl,by decide +kernel,by decide +kernel⟩
 refine u7 F S (F.binds fun _ _ _ _ _ _ us hl=>(by obtain ⟨_,rfl⟩:=sj hl; rfl)) m fun qZ A outer s H E ds φ hr hl hT=>?_
 have hu:=hr.units
 refine ⟨_,(zl (x8 1 S.nd (ua (z9 (z0 0) zc)))
   (zl (U0 (yx (z0 1)) (zl (Rn 1 2 S.nd)
    (zl (we (Vi (z0 2) yy) (zx Xg) xi)
    (zl (we (EW.et (uu (wx (yx (yz T.isinstance (z9 (z0 2) (z9 (su T.tuple w8) zc))))) (uu (Vh hu (wf T.len (z9 (z0 2) zc)) za) (t7 (wx (yx (ya Be (hr.mono (by decide)) (z9 (ze hu (z0 2) za) zc)))))))) (zx (yf wy)) xi)
    (zx (Z8 1 (z9 (ze hu (z0 2) za) (z9 (ze hu (z0 2) za) zc))))))))
   (zx (yf wy)))),?_⟩
 obtain ⟨d0,rfl,t,rfl,hn,h⟩:=De hT
 walk_at "dl"
 refine ⟨fun ρ=>∃ (ts:List Tr) (a2:Option EV),ρ=[some (dv t.d),some (dO (.lst (ts.map Tr.d))),a2] /\ sumZ (ts.map Tr.d) <= 300,fun ρ=>match ρ with
  | [_,some ⟨_,.lst ds⟩,_]=>sumZ ds
  | _=>0,⟨[t],none,rfl,by simp [sumZ,Tr.sz]; omega⟩,?_⟩
 rintro ρ ⟨ts,a2,rfl,e3⟩
 refine Mr (ds:=ts.map Tr.d) rfl ⟨fun z=>?_,fun z=>?_⟩
 ·rcases List.eq_nil_or_concat ts with rfl | ⟨ts,q,rfl⟩
  ·cases z
  rw [List.concat_eq_append,zMa] at e3 ⊢
  rw [uc] at e3
  have hl:=dy (ts.map Tr.d)
  have e5:sumZ (ts.map Tr.d ++ [q].map Tr.d)=sumZ (ts.map Tr.d) + szD q.d:=by rw [uc]; simp [sumZ]
  have e4:sumZ ([q].map Tr.d)=szD q.d:=by simp [sumZ]
  have hz:=Xe q.d
  cases q with
  | lf =>
   simp only [List.map_cons,List.map_nil,Tr.d] at e5 ⊢
   walk_at "dl"
   refine ⟨⟨ts,_,rfl,by omega⟩,?_⟩
   rw [e5,show szD (.non:D)=1 from by simp [szD]]
   omega
  | nd l v r =>
   have e7:szD (Tr.nd l v r).d=1 + szD l.d + szD r.d:=by simp [Tr.d,szD]
   rw [e7] at e5 e4
   simp only [List.map_cons,List.map_nil,Tr.d] at e5 ⊢
   walk_at "dl"
   have ez:sumZ (ts.map Tr.d ++ [l.d,r.d])=sumZ (ts.map Tr.d) + szD l.d + szD r.d:=by rw [uc]; simp [sumZ]; omega
   refine ⟨fun q=>absurd rfl q,fun _=>⟨v,rfl,fun q=>(by cases q),fun _=>⟨by simp at hl ⊢; omega,⟨ts ++ [l,r],some (dv (.tup [l.d,.int v,r.d])),by simp,by simp only [zMa,List.map_cons,List.map_nil]; omega⟩,?_⟩⟩⟩
   rw [ez,e5]
   omega
 ·have e0:ts=[]:=by cases ts with | nil=>rfl | cons=>cases z
  subst e0
  walk_at "dl"
  exact h
theorem Vd (T:Tops mg) (F:Fun K "nodes_of" "nodes_of" (top 11) f fd) (m:mg "nodes_of" = some (.ref f)):FD P w K mg base 1 "nodes_of" ["tree"] Re:=by
 have S:zn ["tree", "many", "waiting", "part"] ["tree"] (zb (top 11)):=⟨rfl,rfl,rfl,by decide +kernel,rfl,by decide +kernel,by decide +kernel⟩
 refine u7 F S (F.binds fun _ _ _ _ _ _ us hl=>(by obtain ⟨_,rfl⟩:=sj hl; rfl)) m fun qZ A outer s H E ds φ hr hl hT=>?_
 have hu:=hr.units
 refine ⟨_,(zl (x8 1 S.nd za)
   (zl (x8 2 S.nd (ua (z9 (z0 0) zc)))
   (zl (U0 (yx (z0 2)) (zl (Rn 2 3 S.nd)
    (zx (we (Us (z0 3) yy) (zl (Gm 1 S.nd za)
     (zx (Z8 2 (z9 (ze hu (z0 3) za) (z9 (ze hu (z0 3) za) zc))))) xi))))
   (zx (yf (z0 1)))))),?_⟩
 obtain ⟨d0,rfl,t,rfl,hn,h⟩:=De hT
 walk_at "dl"
 refine ⟨fun ρ=>∃ (ts:List Tr) (a3:Option EV) (k:Nat),ρ=[some (dv t.d),some (dv (.int (k:Nat))),some (dO (.lst (ts.map Tr.d))),a3] /\ k + (ts.map Tr.nodes).sum=t.nodes /\ sumZ (ts.map Tr.d) <= 300,fun ρ=>match ρ with
  | [_,_,some ⟨_,.lst ds⟩,_]=>sumZ ds
  | _=>0,⟨[t],none,0,rfl,by simp,by simp [sumZ,Tr.sz]; omega⟩,?_⟩
 rintro ρ ⟨ts,a2,k,rfl,hk,e3⟩
 refine Mr (ds:=ts.map Tr.d) rfl ⟨fun z=>?_,fun z=>?_⟩
 ·rcases List.eq_nil_or_concat ts with rfl | ⟨ts,q,rfl⟩
  ·cases z
  rw [List.concat_eq_append,zMa] at e3 ⊢
  rw [List.concat_eq_append,zMa,List.sum_append] at hk
  rw [uc] at e3
  have hl:=dy (ts.map Tr.d)
  have e5:sumZ (ts.map Tr.d ++ [q].map Tr.d)=sumZ (ts.map Tr.d) + szD q.d:=by rw [uc]; simp [sumZ]
  have e4:sumZ ([q].map Tr.d)=szD q.d:=by simp [sumZ]
  have hz:=Xe q.d
  cases q with
  | lf =>
   simp only [List.map_cons,List.map_nil,Tr.d] at e5 ⊢
   walk_at "dl"
   refine ⟨⟨ts,_,k,rfl,by simpa [Tr.nodes] using hk,by omega⟩,?_⟩
   rw [e5,show szD (.non:D)=1 from by simp [szD]]
   omega
  | nd l v r =>
   have e7:szD (Tr.nd l v r).d=1 + szD l.d + szD r.d:=by simp [Tr.d,szD]
   rw [e7] at e5 e4
   simp only [List.map_cons,List.map_nil,Tr.d] at e5 ⊢
   walk_at "dl"
   have ez:sumZ (ts.map Tr.d ++ [l.d,r.d])=sumZ (ts.map Tr.d) + szD l.d + szD r.d:=by rw [uc]; simp [sumZ]; omega
   refine ⟨by simp at hl ⊢; omega,⟨ts ++ [l,r],some (dv (.tup [l.d,.int v,r.d])),k + 1,by simp,by simp [Tr.nodes] at hk ⊢; omega,by simp only [zMa,List.map_cons,List.map_nil]; omega⟩,?_⟩
   rw [ez,e5]
   omega
 ·have e0:ts=[]:=by cases ts with | nil=>rfl | cons=>cases z
  subst e0
  have:k=t.nodes:=by simpa using hk
  subst this
  walk_at "dl"
  exact h
theorem Hj (T:Tops mg) (Be:FD P w K mg base 1 "is_whole" ["thing"] Kb) (An:FD P w K mg base 2 "is_tree" ["thing"] Mw) (F:Fun K "fits" "fits" (top 8) f fd) (m:mg "fits" = some (.ref f)):FD P w K mg base 3 "fits" ["shape", "thing"] (L1 FzT):=by
 have S:zn ["shape", "thing"] ["shape", "thing"] (zb (top 8)):=⟨rfl,rfl,rfl,by decide +kernel,rfl,by decide +kernel,by decide +kernel⟩
 refine u7 F S (F.binds fun _ _ _ _ _ _ us hl=>(by obtain ⟨_,_,rfl⟩:=ur hl; rfl)) m fun qZ A outer s H E ds φ hr hl hT=>?_
 have hu:=hr.units
 refine ⟨_,(zl (we (xu hu (z0 0) zk) (zx (yf (ya Be (hr.mono (by decide)) (z9 (z0 1) zc)))) xi)
   (zl (we (xu hu (z0 0) zk) (zx (yf (Lw (yz T.isinstance (z9 (z0 1) (z9 (su T.tuple w8) zc))) (Ph (Pl T.all (z9 (sv (T:=["number"]) (F:=[]) (js:=[]) (vv (z0 1)) (show y9 (zb (top 8)) _ ["number"] [] from ⟨rfl,by decide +kernel,by decide +kernel,by decide +kernel,by decide +kernel,by decide +kernel⟩) .nil (by decide) (fun cl C fp s H=>(yb (i:=0) (show ((["number"]:List Str) ++ ([]:List Str)).Nodup by decide +kernel) rfl (by walk_at "o"))) (w6 (by decide)) (w5 0) (fun cl C fp s H=>va) (fun cl C fp s H=>(ya Be (hr.mono (by decide)) (z9 (z0 0) zc)))) zc)))))) xi)
   (zx (yf (ya An (hr.mono (by decide)) (z9 (z0 1) zc)))))),?_⟩
 obtain ⟨s,d,rfl,⟨rfl,l,rfl,hl2⟩ | ⟨rfl,t,rfl,hn⟩,h⟩:=hT
 rotate_left
 ·walk_at "dl"
  exact ⟨t,rfl,hn,trivial,h⟩
 walk_at "dl"
 refine wo (l.map D.int) ?_ (fun _=>some (.bl true)) (by rw [zLm]; omega) ?_ ?_
 ·intro ψ hψ
  walk_at "dl"
  exact hψ
 ·intro d hd
  obtain ⟨y,hy,rfl⟩:=List.mem_map.mp hd
  unfold ρ0
  walk_at "dl"
  exact ⟨y,rfl,trivial,rfl⟩
 ·have e3:∀ l:List D,l.filterMap (fun _=>some (D.bl true))=(List.replicate l.length true).map D.bl:=fun l=>by
   induction l with
   | nil=>rfl
   | cons x l ih=>simp only [List.filterMap_cons,zLc,List.replicate_succ,List.map_cons,ih]
  rw [e3]
  show match blsD _ with | some bs=>φ (dv (.bl (bs.all id))) | none=>False
  rw [bw]
  dsimp only
  rw [show (List.replicate _ true).all id=true from by simp]
  exact h
theorem Sn (T:Tops mg) (Ai:FD P w K mg base 1 "nodes_of" ["tree"] Re) (F:Fun K "size_of" "size_of" (top 10) f fd) (m:mg "size_of" = some (.ref f)):FD P w K mg base 5 "size_of" ["shape", "value"] (Vt RT):=by
 have S:zn ["shape", "value"] ["shape", "value"] (zb (top 10)):=⟨rfl,rfl,rfl,by decide +kernel,rfl,by decide +kernel,by decide +kernel⟩
 refine u7 F S (F.binds fun _ _ _ _ _ _ us hl=>(by obtain ⟨_,_,rfl⟩:=ur hl; rfl)) m fun qZ A outer s H E ds φ hr hl hT=>?_
 have hu:=hr.units
 refine ⟨_,(zl (we (xu hu (z0 0) zk) (zx (yf za)) xi)
   (zl (we (xu hu (z0 0) zk) (zx (yf (wf T.len (z9 (z0 1) zc)))) xi)
   (zx (yf (ya Ai (hr.mono (by decide)) (z9 (z0 1) zc)))))),?_⟩
 unfold Vt g2 at hT
 split at hT
 ·obtain ⟨sh,v,n,rfl,rfl,⟨rfl,l,rfl,rfl⟩ | ⟨rfl,t,rfl,rfl,hn⟩,h⟩:=hT
  ·walk_at "dl"
   simpa using h
  ·walk_at "dl"
   exact ⟨t,rfl,hn,trivial,h⟩
 ·exact hT.elim
noncomputable def qt (C:Addr) (R:Str->D->Int->Prop) (Fz:D->D->Prop):FT:=fun ds φ=>∃ fns:List (Str × D),∃ nm as most n0 ps sz b s1 n,ds=[.tup (fns.map Prod.snd),.str nm,.lst as,.int most] /\ fns.length <= 100 /\ (fns.map Prod.fst).Nodup /\ zu (fns.map Prod.snd) /\ (∀ p ∈ fns,∃ r,p.2=.tup (.str p.1 :: r)) /\
 rowG fns nm=some (.tup [n0,pmD ps,sz,b]) /\ zh n0 /\ zu (ps.map Prod.snd) /\ zh sz /\ zh b /\ zu as /\ ps.length=as.length /\ as.length <= 10 /\ (ps.map Prod.fst).Nodup /\ (∀ p ∈ (ps.map Prod.snd).zip as,Fz p.1 p.2) /\
 RunN C R fns most n (tj most nm as ps b ms0) s1 /\
 ((s1.cut=true /\ φ ⟨.new,.tup [.bl false,.non,.lst s1.calls,.lst s1.steps]⟩) \/ (s1.cut=false /\ ∃ v r,s1.ready=v :: r /\ zh v /\ φ ⟨.new,.tup [.bl true,v,.lst s1.calls,.lst s1.steps]⟩))
noncomputable def Mn:Stmt->List Expr
 | .Assign _ (.Call _ as _ _) _=>as
 | _=>[]
theorem Nz {v:Value} (T:Tops mg) (O:CO K C zf) (A8:FD P w K mg base 4 "check_args" ["function", "args"] (L4 Fz)) (Bv:FD P w K mg base 1 "function_of" ["program", "name"] L0)
  (Aj:FM P w K mg base 2 C zf "__init__" ["self", "program", "most"] (Kc C)) (Bi:FM P w K mg base 2 C zf "enter" ["self", "name", "args"] (gj C)) (Av:FM P w K mg base 8 C zf "go" ["self"] (tGo C R)) (Ak:FMR P w K mg base 1 C zf "told" ["self"] (K8 C))
  (mk:W.makesIn K C=true) (kC:W.keepIn K (.ref C)=true) (mR:mg "Run" = some (.ref C)) (F:FunV K "trace" "trace" (top 15) f v fd):FnOk P w K mg base CX0 10 f fd ["program", "name", "args", "most"] (spD K 4 (qt C R Fz)):=by
 have S:zn ["program", "name", "args", "most", "run"] ["program", "name", "args", "most"] (zb (top 15)):=⟨rfl,rfl,rfl,by decide +kernel,rfl,by decide +kernel,by decide +kernel⟩
 obtain ⟨fI,fdI,okI,bI,hI⟩:=Aj.ex
 obtain ⟨fT,fdT,okT,bT,hTt⟩:=Ak.ex
 refine D8 (N:=["program", "name", "args", "most", "run"]) (C:=C) (ns:=zf) (m:="told") (l:=4) (nI:=3) (nM:=1) (TI:=Kc C) (TM:=K8 C) (as1:=Mn ((yc (top 15)).getD 1 (.Pass ⟨0,0,0,0⟩))) (fun len hb=>F.ok S len hb) (by decide) rfl rfl fun qZ A outer s H E ds φ hr hl hT=>?_
 have hu:=hr.units
 refine ⟨_,_,_,_,(Kl (ya A8 (hr.mono (by decide)) (z9 (ya Bv (hr.mono (by decide)) (z9 (z0 0) (z9 (z0 1) zc))) (z9 (z0 2) zc)))),(z9 (z0 0) (z9 (z0 3) zc)),?_,(yi (y7 O Bi (hr.mono (by decide)) (zd (z0 1) (zd (jb T.tuple (z9 (z0 2) zc)) y3)))),(yi (Ut O Av (hr.mono (by decide)))),?_,?_⟩
 ·intro t ht
  exact Uc (Jb ⟨mk,hI.at_,hI.fn,kC⟩ okI (hr.mono (by decide)) rfl mR bI .nil Xn ht) (yb (i:=4) S.nd rfl (by walk_at "o")) rfl rfl rfl
 ·exact Ub (Ue (wt rfl (by first | exact Or.inl rfl | exact Or.inr (Or.inl rfl) | exact Or.inr (Or.inr rfl)) (by decide) (by decide)) O.cl hTt okT (hr.mono (by decide)) bT .nil Xn rfl)
 ·obtain ⟨fns,nm,as,most,n0,ps,sz,b,s1,n,rfl,hl1,nd,pf,hn,hf,p1,p2,p3,p4,p5,hl2,hl3,nd2,hz,hR,h⟩:=hT
  have ppm:zh (pmD ps):=yw.mpr fun x hx=>by
   obtain ⟨y,hy,rfl⟩:=List.mem_map.mp hx
   exact ⟨trivial,yw.mp p2 _ (List.mem_map.mpr ⟨y,hy,rfl⟩),trivial⟩
  walk_at "dl"
  refine ⟨fns,nm,_,rfl,hl1,hn,hf,⟨p1,ppm,p3,p4,trivial⟩,?_⟩
  refine ⟨n0,ps,sz,b,as,rfl,hl2,by omega,hz,?_⟩
  refine ⟨by simp,by simp,?_⟩
  refine ⟨fns,most,rfl,rfl,hl1,nd,pf,hn,rfl,?_⟩
  refine ⟨_,rfl,fns,most,ms0,nm,as,n0,ps,sz,b,rfl,rfl,hf,p1,p2,p3,p4,p5,hl2,hl3,nd2,by decide,by decide,by decide,?_⟩
  refine ⟨_,rfl,fns,most,_,s1,n,rfl,rfl,hR,?_⟩
  exact ⟨_,rfl,fns,most,s1,rfl,rfl,h⟩
noncomputable def letC (w:Int):Nat:=(("abcdfghjkmnopqrstuvwxyz" : Str).cps.toList).getD w.toNat 0
noncomputable def one (c:Nat):Str:=⟨#[c]⟩
noncomputable def Tj (ws:List Int) (a:Nat) (k:Nat):Str:=Str.join "" ((ws.set a ((ws.getD a 0 + (k:Int)).fmod 23)).map fun w=>one (letC w))
theorem Uo:∀ cs:List Nat,(Str.join "" (cs.map one)).cps.toList=cs
 | []=>rfl
 | [c]=>rfl
 | c :: c2 :: cs=>by
  have ih:=Uo (c2 :: cs)
  have e:Str.join "" ((c :: c2 :: cs).map one)=one c ++ ("" : Str) ++ Str.join "" ((c2 :: cs).map one):=rfl
  rw [e]
  show ((#[c] ++ #[]) ++ (Str.join "" ((c2 :: cs).map one)).cps:Array Nat).toList=_
  rw [Array.toList_append,ih]
  rfl
theorem Nk:∀ i j:_root_.Fin 23,letC (i.val:Int)=letC (j.val:Int)->i=j:=by decide +kernel
theorem Xp (ws:List Int) (a:Nat) (ha:a < ws.length) (m:Nat) (hm:m <= 20):((List.range m).map (Tj ws a)).Nodup:=by
 refine List.pairwise_map.mpr (List.Pairwise.imp_of_mem ?_ List.nodup_range)
 intro k k' hk hk' ne e
 refine ne ?_
 have hk:=List.mem_range.mp hk
 have hk':=List.mem_range.mp hk'
 have ee:∀ k,(Tj ws a k).cps.toList=(ws.set a ((ws.getD a 0 + (k:Int)).fmod 23)).map letC:=fun k=>by
  unfold Tj
  rw [show ((ws.set a ((ws.getD a 0 + (k:Int)).fmod 23)).map fun w=>one (letC w))=((ws.set a ((ws.getD a 0 + (k:Int)).fmod 23)).map letC).map one from by rw [List.map_map]; rfl]
  exact Uo _
 have e2:=congrArg (fun s:Str=>s.cps.toList[a]?) e
 simp only [ee,List.getElem?_map,List.getElem?_set_self ha,Option.map_some,Option.some.injEq] at e2
 have m1:=uj (ws.getD a 0 + (k:Int)) 23 (by decide)
 have m2:=uj (ws.getD a 0 + (k':Int)) 23 (by decide)
 have q:=Nk ⟨((ws.getD a 0 + (k:Int)).fmod 23).toNat,by omega⟩ ⟨((ws.getD a 0 + (k':Int)).fmod 23).toNat,by omega⟩ (by
  simp only
  rw [Int.toNat_of_nonneg m1.1,Int.toNat_of_nonneg m2.1]
  exact e2)
 have q2:(ws.getD a 0 + (k:Int)).fmod 23=(ws.getD a 0 + (k':Int)).fmod 23:=by
  have:=congrArg _root_.Fin.val q
  simp only at this
  omega
 rw [Int.fmod_eq_emod_of_nonneg _ (by decide),Int.fmod_eq_emod_of_nonneg _ (by decide)] at q2
 omega
noncomputable def K9:FT:=fun ds φ=>∃ c,ds=[.int c] /\ ∀ n,φ (dv (.int n))
noncomputable def Mz:FT:=fun ds φ=>∃ c:Int,∃ m:Nat,ds=[.int c,.int m] /\ m <= 20 /\ ∀ zs:List Str,zs.length=m->zs.Nodup->φ (df (.lst (zs.map D.str)))
noncomputable def d6 (n:Nat):FT:=fun ds φ=>∃ t:Tr,ds=[t.d] /\ t.dep < n /\ φ (dv t.turned.d)
noncomputable def Ob (n:Nat):FT:=fun ds φ=>∃ t:Tr,ds=[t.d] /\ t.dep < n /\ t.nodes <= 100 /\ ∀ k:Kd,(k=.val \/ k=.new)->φ ⟨k,rowD t.nums⟩
theorem K1 {a b:TDb} {ρ:DE} {ψ:Bool->Prop} (ha:∀ ψ:Bool->Prop,ψ false->a ρ ψ) (hb:∀ ψ:Bool->Prop,ψ false->b ρ ψ) (h:ψ false):bOr a b ρ ψ:=ha _ ⟨fun z=>(by cases z),fun _=>hb _ h⟩
theorem L8 {x:D} {ψ:Bool->Prop} (h1:okD 40 x) (h2:eqD x x=true) (h:ψ false):sNe x x fun r=>match r.d with | .bl b=>ψ b | _=>False:=⟨h1,h1,by rw [h2]; exact h⟩
theorem L5 {t:TD} {ρ:DE} {ψ:Bool->Prop} (h:t ρ fun r=>match r.d with | .bl b=>ψ b | _=>False):tBo t ρ ψ:=h
theorem Hu {a:TDb} {ρ:DE} {ψ:Bool->Prop} (h:a ρ fun c=>ψ (!c)):bNot a ρ ψ:=h
theorem Do {op:D->D->(EV->Prop)->Prop} {ta tb:TD} {ρ:DE} {φ:EV->Prop} (x y:EV) (h1:∀ ψ:EV->Prop,ψ x->ta ρ ψ) (h2:∀ ψ:EV->Prop,ψ y->tb ρ ψ) (h:op x.d y.d φ):d2 op ta tb ρ φ:=h1 _ (h2 _ h)
theorem qe {tc:TDb} {t1 t2:TDS} {ρ:DE} {Z:DZ} (b:Bool) (h:∀ ψ:Bool->Prop,ψ b->tc ρ ψ) (h1:b=true->t1 ρ Z) (h2:b=false->t2 ρ Z):sIf tc t1 t2 ρ Z:=h _ ⟨h1,h2⟩
theorem Rq {t u:TDS} {ρ:DE} {Z:DZ} (h:t ρ { Z with nx:=fun ρ'=>u ρ' Z }):sSeq t u ρ Z:=h
theorem Rr {ρ:DE} {Z:DZ} (h:Z.nx ρ):sNil ρ Z:=h
theorem Rp {i:Nat} {te:TD} {ρ:DE} {Z:DZ} (h:te ρ fun r=>(match r.k with | .own=>False | _=>True) /\ Z.nx (setS ρ i r.sto)):sSet i te ρ Z:=h
theorem Km {te:TD} {ρ:DE} {Z:DZ} (h:te ρ fun r=>Z.rt r.ret):sRet te ρ Z:=h
theorem Ny {i:Nat} {d:D} {ρ:DE} {ψ:DE->Prop} (h:ψ (setS ρ i (dv d))):gN i d ρ ψ:=h
theorem Mj {n:Nat} {T:FT} {t:TDs} {ρ:DE} {φ:EV->Prop} (rs:List EV) (h:∀ ψ:List EV->Prop,ψ rs->t ρ ψ) (hn:Nat.beq rs.length n=true) (hT:T (rs.map EV.d) φ):Ml n T t ρ φ:=h _ ⟨hn,hT⟩
theorem Mh {te:TD} {ρ:DE} {φ:EV->Prop} (h:te ρ fun r=>sTupC [r.d] φ):dCB sTupC (Mq te aNil) ρ φ:=h
theorem bo (T:Tops mg) (F:Fun K "_law_number" "_law_number" (top 20) f fd) (m:mg "_law_number" = some (.ref f)):FD P w K mg base 1 "_law_number" ["_law_cell"] K9:=by
 have S:zn ["_law_cell"] ["_law_cell"] (zb (top 20)):=⟨rfl,rfl,rfl,by decide +kernel,rfl,by decide +kernel,by decide +kernel⟩
 refine u7 F S (F.binds fun _ _ _ _ _ _ us hl=>(by obtain ⟨_,rfl⟩:=sj hl; rfl)) m fun qZ A outer s H E ds φ hr hl hT=>?_
 have hu:=hr.units
 refine ⟨_,(zx (yf (vk (Pf (vj (z0 0) (Pf (Lv za (Pg za za)) za)) (Pg za za)) za))),?_⟩
 obtain ⟨c,rfl,h⟩:=hT
 walk_at "dl"
 exact ⟨IntMulOk.of_left (by decide),by decide,h _⟩
theorem Yu (T:Tops mg) (F:Fun K "_law_names" "_law_names" (top 21) f fd) (m:mg "_law_names" = some (.ref f)):FD P w K mg base 1 "_law_names" ["_law_cell", "_law_many"] Mz:=by
 have S:zn ["_law_cell", "_law_many", "_law_letters", "_law_word", "_law_at", "_law_names_here", "_law_k", "_law_turned_here"] ["_law_cell", "_law_many"] (zb (top 21)):=⟨rfl,rfl,rfl,by decide +kernel,rfl,by decide +kernel,by decide +kernel⟩
 refine u7 F S (F.binds fun _ _ _ _ _ _ us hl=>(by obtain ⟨_,_,rfl⟩:=ur hl; rfl)) m fun qZ A outer s H E ds φ hr hl hT=>?_
 have hu:=hr.units
 refine ⟨_,(zl (ym (x8 2 S.nd zk))
   (zl (ym (x8 0 S.nd (vj (z0 0) (Pg za za))))
   (zl (ym (tx (T:=["_law_k"]) (F:=["_law_cell"]) (js:=[0]) 3 S.nd (Yw T.range (z9 (vk za (vj (z0 0) za)) zc)) (show y9 (zb (top 21)) _ ["_law_k"] ["_law_cell"] from ⟨rfl,by decide +kernel,by decide +kernel,by decide +kernel,by decide +kernel,by decide +kernel⟩) (.cons rfl .nil) (by decide) (fun cl C fp s H=>(yb (i:=0) (show ((["_law_k"]:List Str) ++ (["_law_cell"]:List Str)).Nodup by decide +kernel) rfl (by walk_at "o"))) (w6 (by decide)) (w5 0) (fun cl C fp s H=>va) (fun cl C fp s H=>(vj (vk (Pk (z0 1) (vk (z0 0) za)) (Lv (z0 0) (z0 0))) za))))
   (zl (ym (x8 4 S.nd (vj (Pk (z0 0) za) (wf T.len (z9 (z0 3) zc)))))
   (zl (ym (x8 5 S.nd (ua zc)))
   (zl (ym (gm (Yw T.range (z9 (z0 1) zc)) (yb (i:=6) S.nd rfl (by walk_at "o")) (w5 6) (zl (x8 7 S.nd (Uv T.list (z9 (z0 3) zc)))
    (zl (Kk 7 hu (z0 4) (vj (vk (ze hu (z0 3) (z0 4)) (z0 6)) za))
    (zx (U1 7 (Z9 5 (Md zk (sv (T:=["_law_part"]) (F:=["_law_letters"]) (js:=[2]) (vv (z0 7)) (show y9 (zb (top 21)) _ ["_law_part"] ["_law_letters"] from ⟨rfl,by decide +kernel,by decide +kernel,by decide +kernel,by decide +kernel,by decide +kernel⟩) (.cons rfl .nil) (by decide) (fun cl C fp s H=>(yb (i:=0) (show ((["_law_part"]:List Str) ++ (["_law_letters"]:List Str)).Nodup by decide +kernel) rfl (by walk_at "o"))) (w6 (by decide)) (w5 0) (fun cl C fp s H=>va) (fun cl C fp s H=>(ze hu (z0 1) (z0 0))))))))))))
   (zx (yf (z0 5))))))))),?_⟩
 obtain ⟨c0,m,rfl,hl1,h⟩:=hT
 have f9:∀ (x:Int) (y:Int),y ≠ 0->y.natAbs <= 100->FdOk x y:=fun x y a b=>of_eq_true (Pa a (by omega))
 refine y8 (fun ρ=>ρ=[some (dv (.int c0)),some (dv (.int m)),some (dv (.str "abcdfghjkmnopqrstuvwxyz")),none,none,none,none,none]) ?_ ?_
 ·walk_at "dl"
 rintro _ rfl
 have cb:=uj c0 (10 ^ 9) (by decide)
 obtain ⟨c,ec⟩:∃ c,c0.fmod (10 ^ 9)=c:=⟨_,rfl⟩
 rw [ec] at cb
 refine y8 (fun ρ=>ρ=[some (dv (.int c)),some (dv (.int m)),some (dv (.str "abcdfghjkmnopqrstuvwxyz")),none,none,none,none,none]) ?_ ?_
 ·walk_at "dl"
  rw [ec]
 rintro _ rfl
 have c8:=uj c 8 (by decide)
 refine y8 (fun ρ=>∃ ws:List Int,(∀ w ∈ ws,0 <= w /\ w < 23) /\ 1 <= ws.length /\ ws.length <= 8 /\ ρ=[some (dv (.int c)),some (dv (.int m)),some (dv (.str "abcdfghjkmnopqrstuvwxyz")),some (dO (.lst (ws.map D.int))),none,none,none,none]) ?_ ?_
 ·walk_at "dl"
  refine wo (rngD 0 (1 + c.fmod 8).toNat) (fun ψ hψ=>?_) (fun d=>match d with | .int k=>some (.int ((c.fdiv (k + 1) + k * k).fmod 23)) | _=>none) (by rw [Q3]; omega) ?_ ?_
  ·walk_at "dl"
   exact ⟨by omega,by omega,hψ⟩
  ·intro d hd
   obtain ⟨i,hi⟩:=List.getElem?_of_mem hd
   obtain ⟨hi2,rfl⟩:=Q4 hi
   unfold ρ0
   walk_at "dl"
   exact ⟨fdOk (m:=64) (by omega) (Lz (by omega)),IntMulOk.of_left (Lz (m:=64) (by omega))⟩
  ·refine ⟨trivial,(List.range (1 + c.fmod 8).toNat).map fun k:Nat=>(c.fdiv ((k:Int) + 1) + (k:Int) * k).fmod 23,fun w hw=>?_,by rw [zLm,List.length_range]; omega,by rw [zLm,List.length_range]; omega,?_⟩
   ·obtain ⟨k,_,rfl⟩:=List.mem_map.mp hw
    exact uj _ 23 (by decide)
   ·have e4:∀ n,(rngD 0 n).filterMap (fun d=>match d with | .int k=>some (D.int ((c.fdiv (k + 1) + k * k).fmod 23)) | _=>none)=((List.range n).map fun k:Nat=>(c.fdiv ((k:Int) + 1) + (k:Int) * k).fmod 23).map D.int:=fun n=>by
     unfold rngD
     rw [List.filterMap_map,List.map_map,<- List.filterMap_eq_map]
     congr 1
     funext k
     simp
    rw [e4]
 rintro _ ⟨ws,hw,l1,l2,rfl⟩
 have ab:=uj (c.fdiv 8) ws.length (by omega)
 obtain ⟨at_,ea⟩:∃ at_:Nat,(c.fdiv 8).fmod ws.length=at_:=⟨((c.fdiv 8).fmod ws.length).toNat,by omega⟩
 rw [ea] at ab
 refine y8 (fun ρ=>ρ=[some (dv (.int c)),some (dv (.int m)),some (dv (.str "abcdfghjkmnopqrstuvwxyz")),some (dO (.lst (ws.map D.int))),some (dv (.int at_)),none,none,none]) ?_ ?_
 ·walk_at "dl"
  rw [ea]
  exact ⟨f9 _ _ (by decide) (by decide),by omega,rfl⟩
 rintro _ rfl
 refine y8 (fun ρ=>ρ=[some (dv (.int c)),some (dv (.int m)),some (dv (.str "abcdfghjkmnopqrstuvwxyz")),some (dO (.lst (ws.map D.int))),some (dv (.int at_)),some (dO (.lst [])),none,none]) ?_ ?_
 ·walk_at "dl"
 rintro _ rfl
 refine y8 (fun ρ=>∃ a b,ρ=[some (dv (.int c)),some (dv (.int m)),some (dv (.str "abcdfghjkmnopqrstuvwxyz")),some (dO (.lst (ws.map D.int))),some (dv (.int at_)),some (dO (.lst (((List.range m).map (Tj ws at_)).map D.str))),a,b]) ?_ ?_
 ·refine tz (rngD 0 m) (fun ψ hψ=>?_) (fun i ρ=>∃ a b,ρ=[some (dv (.int c)),some (dv (.int m)),some (dv (.str "abcdfghjkmnopqrstuvwxyz")),some (dO (.lst (ws.map D.int))),some (dv (.int at_)),some (dO (.lst (((List.range i).map (Tj ws at_)).map D.str))),a,b]) ⟨none,none,rfl⟩ ?_ ?_
  ·walk_at "dl"
   exact ⟨by omega,by omega,hψ⟩
  ·rintro i d _ hd ⟨a,b,rfl⟩
   obtain ⟨hi,rfl⟩:=Q4 hd
   have lt:at_ < ws.length:=by omega
   have e1:atI ws (at_:Int)=some (ws.getD at_ 0):=rm (by omega) (by simp [lt])
   have e2:ixN ws.length (at_:Int)=some at_:=by
    unfold ixN
    rw [if_pos (by omega),if_pos (by omega)]
    simp
   have ln23:(("abcdfghjkmnopqrstuvwxyz" : Str).cps.toList).length=23:=by decide +kernel
   have sz:("abcdfghjkmnopqrstuvwxyz" : Str).length <= sizeLine:=by rw [sizeLine_eq]; decide +kernel
   walk_at "dl"
   simp only [e1,e2,Option.map_some]
   simp only [Lx,dC]
   have es:(ws.map D.int).set at_ (.int ((ws.getD at_ 0 + (i:Int)).fmod 23))=(ws.set at_ ((ws.getD at_ 0 + (i:Int)).fmod 23)).map D.int:=by rw [List.map_set]
   rw [es]
   have hv:∀ w ∈ ws.set at_ ((ws.getD at_ 0 + (i:Int)).fmod 23),0 <= w /\ w < 23:=fun w hw'=>by
    rcases List.mem_or_eq_of_mem_set hw' with q | q
    ·exact hw w q
    ·rw [q]; exact uj _ 23 (by decide)
   have lv:(ws.set at_ ((ws.getD at_ 0 + (i:Int)).fmod 23)).length <= 8:=by rw [List.length_set]; exact l2
   have en:Tj ws at_ i=Str.join "" ((ws.set at_ ((ws.getD at_ 0 + (i:Int)).fmod 23)).map fun w=>one (letC w)):=rfl
   generalize ws.set at_ ((ws.getD at_ 0 + (i:Int)).fmod 23)=vs at hv lv en
   refine wo (vs.map D.int) (fun ψ hψ=>?_) (fun d=>match d with | .int w=>some (.str (one (letC w))) | _=>none) (by rw [zLm]; omega) ?_ ?_
   ·walk_at "dl"
    exact hψ
   ·intro d hd
    obtain ⟨w,hw',rfl⟩:=List.mem_map.mp hd
    obtain ⟨w0,w1⟩:=hv w hw'
    have e5:atI ("abcdfghjkmnopqrstuvwxyz" : Str).cps.toList w=some (letC w):=rm w0 (by
     unfold letC
     rw [List.getD_eq_getElem?_getD,List.getElem?_eq_getElem (by rw [ln23]; omega)]
     rfl)
    unfold ρ0
    walk_at "dl"
    rw [e5]
    exact ⟨sz,rfl⟩
   ·have e6:(vs.map D.int).filterMap (fun d=>match d with | .int w=>some (D.str (one (letC w))) | _=>none)=(vs.map fun w=>one (letC w)).map D.str:=by
     rw [List.filterMap_map,List.map_map,<- List.filterMap_eq_map]
     rfl
    rw [e6]
    refine ⟨_,rfl,?_,trivial,by simp; omega,some (dv (.int i)),some (dv (.lst (vs.map D.int))),?_⟩
    ·have sm:∀ us:List Int,((us.map fun w=>one (letC w)).map fun t=>t.length + (Str.ofString "").length).sum=us.length:=fun us=>by
      induction us with
      | nil=>rfl
      | cons u us ih=>simp only [List.map_cons,List.sum_cons,ih,zLc]; show 1 + 0 + us.length=_; omega
     rw [sm,sizeLine_eq]
     omega
    ·rw [List.range_succ,zMa,zMa,List.map_cons,List.map_nil,List.map_cons,List.map_nil,en]
  ·rintro _ ⟨a,b,rfl⟩
   rw [Q3]
   exact ⟨a,b,rfl⟩
 rintro _ ⟨a,b,rfl⟩
 walk_at "dl"
 exact ⟨yw.mpr fun x hx=>by obtain ⟨z,_,rfl⟩:=List.mem_map.mp hx; trivial,h _ (by simp) (Xp ws at_ (by omega) m hl1)⟩
theorem bm {n:Nat} (T:Tops mg) (B8:FD P w K mg base (n + 1) "_law_turned" ["_law_tree_here"] (d6 n)) (F:Fun K "_law_turned" "_law_turned" (top 24) f fd) (m:mg "_law_turned" = some (.ref f)):FD P w K mg base (n + 2) "_law_turned" ["_law_tree_here"] (d6 (n + 1)):=by
 have S:zn ["_law_tree_here"] ["_law_tree_here"] (zb (top 24)):=⟨rfl,rfl,rfl,by decide +kernel,rfl,by decide +kernel,by decide +kernel⟩
 refine u7 F S (F.binds fun _ _ _ _ _ _ us hl=>(by obtain ⟨_,rfl⟩:=sj hl; rfl)) m fun qZ A outer s H E ds φ hr hl hT=>?_
 have hu:=hr.units
 refine ⟨_,(zl (we (Vi (z0 0) yy) (zx (yf yy)) xi)
   (zx (yf (zp (z9 (ya B8 (hr.mono (by omega)) (z9 (ze hu (z0 0) za) zc)) (z9 (ze hu (z0 0) za) (z9 (ya B8 (hr.mono (by omega)) (z9 (ze hu (z0 0) za) zc)) zc))))))),?_⟩
 obtain ⟨t,rfl,hd,h⟩:=hT
 cases t with
 | lf =>
  simp only [Tr.d]
  walk_at "dl"
  exact h
 | nd l v r =>
  have hd:1 + max l.dep r.dep < n + 1:=hd
  simp only [Tr.d]
  walk_at "dl"
  exact ⟨r,rfl,by omega,l,rfl,by omega,rfl,⟨r.turned.pure,l.turned.pure⟩,h⟩
theorem jy {n:Nat} (T:Tops mg) (B4:FD P w K mg base (n + 1) "_law_numbers" ["_law_tree_here"] (Ob n)) (F:Fun K "_law_numbers" "_law_numbers" (top 25) f fd) (m:mg "_law_numbers" = some (.ref f)):FD P w K mg base (n + 2) "_law_numbers" ["_law_tree_here"] (Ob (n + 1)):=by
 have S:zn ["_law_tree_here"] ["_law_tree_here"] (zb (top 25)):=⟨rfl,rfl,rfl,by decide +kernel,rfl,by decide +kernel,by decide +kernel⟩
 refine u7 F S (F.binds fun _ _ _ _ _ _ us hl=>(by obtain ⟨_,rfl⟩:=sj hl; rfl)) m fun qZ A outer s H E ds φ hr hl hT=>?_
 have hu:=hr.units
 refine ⟨_,(zl (we (Vi (z0 0) yy) (zx (yf (Pe zc))) xi)
   (zx (yf (jd (jd (ya B4 (hr.mono (by omega)) (z9 (ze hu (z0 0) za) zc)) (Pe (z9 (ze hu (z0 0) za) zc))) (ya B4 (hr.mono (by omega)) (z9 (ze hu (z0 0) za) zc)))))),?_⟩
 obtain ⟨t,rfl,hd,hn,h⟩:=hT
 cases t with
 | lf =>
  simp only [Tr.d]
  walk_at "dl"
  exact h _ (.inr rfl)
 | nd l v r =>
  have hd:1 + max l.dep r.dep < n + 1:=hd
  have hn:1 + l.nodes + r.nodes <= 100:=hn
  have ll:=l.nums_len
  have lr:=r.nums_len
  simp only [Tr.d]
  walk_at "dl"
  refine ⟨l,rfl,by omega,by omega,fun k hk=>⟨?_,?_,r,rfl,by omega,by omega,fun k' hk'=>⟨?_,?_,?_⟩⟩⟩
  ·rcases hk with rfl | rfl
   ·exact yh _
   ·trivial
  ·rw [sizeLine_eq,zLm,zLc,zLn]
   omega
  ·rcases hk' with rfl | rfl
   ·exact yh _
   ·trivial
  ·rw [sizeLine_eq,zLa,zLm,zLm,zLc,zLn]
   omega
  ·have:=h .new (.inr rfl)
   simpa [rowD,Tr.nums] using this
noncomputable def nm6 (f x y l v r:Str):D:=.lst [.str f,.str x,.str y,.str l,.str v,.str r]
noncomputable def Gf:FT:=fun ds φ=>∃ (w:Nat) (f x y l v r:Str),ds=[.int w,nm6 f x y l v r] /\ w <= 1 /\ φ (dv (.tup [if w=0 then fnT f x l v r else fnL f x y l v r]))
theorem jx (T:Tops mg) (F:Fun K "_law_program" "_law_program" (top 23) f fd) (m:mg "_law_program" = some (.ref f)):FD P w K mg base 1 "_law_program" ["_law_way", "_law_names_here"] Gf:=by
 have S:zn ["_law_way", "_law_names_here", "_law_f", "_law_x", "_law_y", "_law_l", "_law_v", "_law_r", "_law_body", "_law_rest", "_law_params"] ["_law_way", "_law_names_here"] (zb (top 23)):=⟨rfl,rfl,rfl,by decide +kernel,rfl,by decide +kernel,by decide +kernel⟩
 refine u7 F S (F.binds fun _ _ _ _ _ _ us hl=>(by obtain ⟨_,_,rfl⟩:=ur hl; rfl)) m fun qZ A outer s H E ds φ hr hl hT=>?_
 have hu:=hr.units
 refine ⟨_,(zl (ym (Dy (z0 1) (Ja (K0:=K) (n:=6) (by rfl) (by rfl) (xn (yb (i:=2) S.nd rfl (by walk_at "o")) (xn (yb (i:=3) S.nd rfl (by walk_at "o")) (xn (yb (i:=4) S.nd rfl (by walk_at "o")) (xn (yb (i:=5) S.nd rfl (by walk_at "o")) (xn (yb (i:=6) S.nd rfl (by walk_at "o")) (xn (yb (i:=7) S.nd rfl (by walk_at "o")) du))))))) (Hc 2 3 4 5 6 7)))
   (zl (we (xu hu (z0 0) za) (zl (x8 8 S.nd (zp (z9 zk (z9 (zp (z9 zk (z9 (zp (z9 zk (z9 (z0 2) (z9 (zp (z9 (zp (z9 zk (z9 (z0 7) zc))) zc)) zc)))) (z9 (zp (z9 zk (z9 (z0 6) zc))) (z9 (zp (z9 zk (z9 (z0 2) (z9 (zp (z9 (zp (z9 zk (z9 (z0 5) zc))) zc)) zc)))) zc))))) zc))))
    (zx (yf (zp (z9 (zp (z9 (z0 2) (z9 (zp (z9 (zp (z9 (z0 3) (z9 zk zc))) zc)) (z9 (zp (z9 zk (z9 (zp (z9 za (z9 za zc))) zc))) (z9 (zp (z9 zk (z9 (z0 3) (z9 (zp (z9 zk (z9 (zp (z9 zk zc)) zc))) (z9 (z0 5) (z9 (z0 6) (z9 (z0 7) (z9 (z0 8) zc)))))))) zc))))) zc))))) xi)
   (zl (ym (x8 9 S.nd (zp (z9 zk (z9 (zp (z9 zk (z9 (z0 6) zc))) (z9 (zp (z9 zk (z9 (z0 2) (z9 (zp (z9 (zp (z9 zk (z9 (z0 7) zc))) (z9 (zp (z9 zk (z9 (z0 4) zc))) zc))) zc)))) zc))))))
   (zl (ym (x8 8 S.nd (zp (z9 zk (z9 (zp (z9 zk (z9 (z0 2) (z9 (zp (z9 (zp (z9 zk (z9 (z0 5) zc))) (z9 (z0 9) zc))) zc)))) zc)))))
   (zl (ym (x8 10 S.nd (zp (z9 (zp (z9 (z0 3) (z9 zk zc))) (z9 (zp (z9 (z0 4) (z9 zk zc))) zc)))))
   (zx (yf (zp (z9 (zp (z9 (z0 2) (z9 (z0 10) (z9 (zp (z9 zk (z9 (zp (z9 za (z9 za (z9 za zc)))) zc))) (z9 (zp (z9 zk (z9 (z0 3) (z9 (zp (z9 zk (z9 (zp (z9 zk (z9 (z0 4) zc))) zc))) (z9 (z0 5) (z9 (z0 6) (z9 (z0 7) (z9 (z0 8) zc)))))))) zc))))) zc))))))))),?_⟩
 obtain ⟨w,f1,x,y,l,v,r,rfl,hw,h⟩:=hT
 have pv:∀ z:Str,zh (vaD z):=fun z=>⟨trivial,trivial,trivial⟩
 refine y8 (fun ρ=>ρ=[some (dv (.int w)),some (dv (nm6 f1 x y l v r)),some (dv (.str f1)),some (dv (.str x)),some (dv (.str y)),some (dv (.str l)),some (dv (.str v)),some (dv (.str r)),none,none,none]) ?_ ?_
 ·exact ⟨trivial,rfl⟩
 rintro _ rfl
 rcases (show w=0 \/ w=1 by omega) with rfl | rfl
 ·have pu:zh (.tup [fnT f1 x l v r]):=by simp [fnT,bT,caD,vaD,pmD,zh,zu]
  refine Rq (qe true (fun ψ hψ=>⟨yp ▸ trivial,yp ▸ trivial,hψ⟩) (fun _=>?_) (fun z=>(by cases z)))
  exact ⟨rfl,rfl,rfl,rfl,rfl,rfl,rfl,rfl,rfl,rfl,rfl,rfl,rfl,rfl,rfl,rfl,rfl,rfl,trivial,rfl,rfl,rfl,rfl,rfl,rfl,rfl,rfl,rfl,rfl,rfl,rfl,rfl,rfl,rfl,rfl,rfl,rfl,pu,h⟩
 ·have pu:zh (.tup [fnL f1 x y l v r]):=by simp [fnL,bL,coD,caD,vaD,pmD,zh,zu]
  refine Rq (qe false (fun ψ hψ=>⟨yp ▸ trivial,yp ▸ trivial,hψ⟩) (fun z=>(by cases z)) (fun _=>?_))
  refine y8 (fun ρ=>ρ=[some (dv (.int (1:Nat))),some (dv (nm6 f1 x y l v r)),some (dv (.str f1)),some (dv (.str x)),some (dv (.str y)),some (dv (.str l)),some (dv (.str v)),some (dv (.str r)),none,some (dv (coD f1 r v y)),none]) ?_ ?_
  ·exact ⟨rfl,rfl,rfl,rfl,rfl,rfl,rfl,rfl,rfl,rfl,rfl,rfl,trivial,rfl⟩
  rintro _ rfl
  refine y8 (fun ρ=>ρ=[some (dv (.int (1:Nat))),some (dv (nm6 f1 x y l v r)),some (dv (.str f1)),some (dv (.str x)),some (dv (.str y)),some (dv (.str l)),some (dv (.str v)),some (dv (.str r)),some (dv (.tup [.str "give", caD f1 [vaD l,coD f1 r v y]])),some (dv (coD f1 r v y)),none]) ?_ ?_
  ·exact ⟨rfl,rfl,rfl,rfl,rfl,rfl,rfl,rfl,trivial,rfl⟩
  rintro _ rfl
  refine y8 (fun ρ=>ρ=[some (dv (.int (1:Nat))),some (dv (nm6 f1 x y l v r)),some (dv (.str f1)),some (dv (.str x)),some (dv (.str y)),some (dv (.str l)),some (dv (.str v)),some (dv (.str r)),some (dv (.tup [.str "give", caD f1 [vaD l,coD f1 r v y]])),some (dv (coD f1 r v y)),some (dv (pmD [(x,.str "tree"),(y,.str "list")]))]) ?_ ?_
  ·exact ⟨rfl,rfl,rfl,rfl,rfl,rfl,trivial,rfl⟩
  rintro _ rfl
  exact ⟨rfl,rfl,rfl,rfl,rfl,rfl,rfl,rfl,rfl,rfl,rfl,rfl,rfl,rfl,pu,h⟩
noncomputable def rwL (r:Rw):D:=.lst [.tup r.a,r.up,.bl r.done,r.v]
noncomputable def lsD (m:Int) (s:LS):D:=.lst [.lst (s.cs.map rwL),.lst s.st,.int m,.bl s.cut]
noncomputable def gh:FTQ:=fun d ds φ=>∃ m s,∃ a:Nat,∃ k:Str,d=lsD m s /\ ds=[.int a,.str k] /\ s.st.length <= 1000 /\ φ .non (lsD m (yk m a k s))
theorem Rk {m:Int} {a:Nat} {k:Str} {s:LS}:(yk m a k s).st.length <= s.st.length + 1:=by
 unfold yk
 split <;> simp
theorem Vu {m:Int} {a:Nat} {k:Str} {s:LS}:(yk m a k s).cs=s.cs:=by
 unfold yk
 split <;> rfl
noncomputable def Ri:FTQ:=fun d ds φ=>∃ m s as up,∃ dp:Nat,d=lsD m s /\ ds=[.tup as,up,.int dp] /\ s.st.length <= 900 /\ s.cs.length <= 900 /\ zu as /\ zh up /\ φ (.int s.cs.length) (lsD m (begL m as up dp s))
theorem K2 {m:Int} {c0 more:List Rw} {r:Rw} {st:List D} {b:Bool}:atQ [0,c0.length] (lsD m ⟨c0 ++ r :: more,st,b⟩)=some (rwL r):=by simp [lsD,atQ,uy]
theorem Q7 {m:Int} {c0 more:List Rw} {r r':Rw} {st:List D} {b:Bool}:putQ [0,c0.length] (lsD m ⟨c0 ++ r :: more,st,b⟩) (rwL r')=lsD m ⟨c0 ++ r' :: more,st,b⟩:=by simp [lsD,putQ,uy,T5]
theorem Ll {c0 more:List Rw} {r:Rw}:ixN ((c0 ++ r :: more).map rwL).length (c0.length:Int)=some c0.length:=by
 unfold ixN
 rw [if_pos (by omega),if_pos (by simp; omega)]
 simp
noncomputable def Rg:FTQ:=fun d ds φ=>∃ m s x,∃ a:Nat,d=lsD m s /\ ds=[.int a,x] /\ zh x /\ (s.cut=false->a < s.cs.length) /\ φ (if s.cut then .non else x) (lsD m (endL a x s))
theorem Vb (T:Tops mg) (F:Fun K "_law_step" "_law_step" (top 26) f fd) (m:mg "_law_step" = some (.ref f)):FQ P w K mg base 1 "_law_step" ["_law_run", "_law_at", "_law_kind"] gh:=by
 have S:zn ["_law_run", "_law_at", "_law_kind"] ["_law_run", "_law_at", "_law_kind"] (zb (top 26)):=⟨rfl,rfl,rfl,by decide +kernel,rfl,by decide +kernel,by decide +kernel⟩
 refine Va F S (F.binds fun _ _ _ _ _ _ us hl=>(by obtain ⟨_,_,_,rfl⟩:=c6 hl; rfl)) m fun qZ A outer s H E d0 ds φ hr hl hT=>?_
 have hu:=hr.units
 refine ⟨_,(zj (xb (xm (EW.et (Pb (wx (yx (ze hu (z0 0) za))) (Vg (Hl (wf T.len (z9 (ze hu (z0 0) za) zc)) (ze hu (z0 0) za)))))) (zj (x4 (Ze zr za) (yd (zp (z9 (z0 1) (z9 (z0 2) zc)))))) (zj (k5 zr za wy)))),?_⟩
 obtain ⟨m,s,a,k,rfl,rfl,hl1,h⟩:=hT
 unfold lsD at *
 walk_at "dl"
 refine ⟨fun z=>⟨fun z1=>⟨_,_,_,1,1,rfl,rfl,rfl,rfl,rfl,_,_,rfl,rfl,by omega,⟨trivial,trivial,trivial⟩,_,rfl,?_⟩,fun z1=>⟨_,_,3,3,rfl,rfl,rfl,rfl,_,rfl,?_⟩⟩,fun z=>⟨_,_,3,3,rfl,rfl,rfl,rfl,_,rfl,?_⟩⟩
 ·rw [wa (by omega) z] at h
  exact h
 ·rw [vn (by omega)] at h
  exact h
 ·rw [wd z,z] at h
  exact h
theorem Ym (T:Tops mg) (B3:FQ P w K mg base 1 "_law_step" ["_law_run", "_law_at", "_law_kind"] gh) (F:Fun K "_law_begun" "_law_begun" (top 27) f fd) (m:mg "_law_begun" = some (.ref f)):FQ P w K mg base 2 "_law_begun" ["_law_run", "_law_args", "_law_up", "_law_deep"] Ri:=by
 have S:zn ["_law_run", "_law_args", "_law_up", "_law_deep", "_law_at"] ["_law_run", "_law_args", "_law_up", "_law_deep"] (zb (top 27)):=⟨rfl,rfl,rfl,by decide +kernel,rfl,by decide +kernel,by decide +kernel⟩
 refine Va F S (F.binds fun _ _ _ _ _ _ us hl=>(by obtain ⟨_,_,_,_,rfl⟩:=Ju hl; rfl)) m fun qZ A outer s H E d0 ds φ hr hl hT=>?_
 have hu:=hr.units
 refine ⟨_,(zo (y4 (xt 4 (by decide) S.nd (t8 (wf T.len (z9 (ze hu (z0 0) za) zc)))))
   (zo (y4 (xb (xm (Hm (z0 3) za)) (zj (k5 zr za wy)) wm))
   (zo (y4 (yi (xk B3 (hr.mono (by omega)) (zd (z0 4) (zd zk y3)))))
   (zo (y4 (xb (xm (wx (yx (ze hu (z0 0) za)))) (zo (x4 (Ze zr za) (yd (ua (z9 (z0 1) (z9 (z0 2) (z9 wy (z9 yy zc)))))))
    (zj (yi (xk B3 (hr.mono (by omega)) (zd (z0 4) (zd zk y3)))))) wm))
   (zj (ve (t8 (z0 4)))))))),?_⟩
 obtain ⟨m,s,as,up,dp,rfl,rfl,hl1,hl2,pa,pu,h⟩:=hT
 refine zg (fun ρ=>ρ=[some (dv (lsD m s)),some (dv (.tup as)),some (dv up),some (dv (.int dp)),some (dv (.int s.cs.length))]) ?_ ?_
 ·unfold lsD
  walk_at "dl"
 rintro _ rfl
 refine zg (fun ρ=>ρ=[some (dv (lsD m (if 20 < dp then { s with cut:=true } else s))),some (dv (.tup as)),some (dv up),some (dv (.int dp)),some (dv (.int s.cs.length))]) ?_ ?_
 ·unfold lsD
  walk_at "dl"
  refine ⟨fun z=>⟨_,_,3,3,rfl,rfl,rfl,rfl,?_⟩,fun z=>?_⟩
  ·rw [if_pos (show 20 < dp by omega)]
   rfl
  ·rw [if_neg (show ¬ 20 < dp by omega)]
 rintro _ rfl
 refine zg (fun ρ=>ρ=[some (dv (lsD m (yk m s.cs.length "call" (if 20 < dp then { s with cut:=true } else s)))),some (dv (.tup as)),some (dv up),some (dv (.int dp)),some (dv (.int s.cs.length))]) ?_ ?_
 ·exact ⟨trivial,trivial,rfl,m,_,s.cs.length, "call", rfl,rfl,by split <;> (show s.st.length <= 1000; omega),rfl⟩
 rintro _ rfl
 generalize e1:yk m s.cs.length "call" (if 20 < dp then { s with cut:=true } else s)=s1 at *
 refine zg (fun ρ=>ρ=[some (dv (lsD m (begL m as up dp s))),some (dv (.tup as)),some (dv up),some (dv (.int dp)),some (dv (.int s.cs.length))]) ?_ ?_
 ·have l1:s1.st.length <= 901:=by
   have:=Rk (m:=m) (a:=s.cs.length) (k:="call") (s:=if 20 < dp then { s with cut:=true } else s)
   rw [e1,show (if 20 < dp then { s with cut:=true } else s).st=s.st from by split <;> rfl] at this
   omega
  have l2:s1.cs.length <= 900:=by rw [<- e1,Vu,show (if 20 < dp then { s with cut:=true } else s).cs=s.cs from by split <;> rfl]; omega
  have eb:begL m as up dp s=if s1.cut=false then yk m s.cs.length "open" { s1 with cs:=s1.cs ++ [⟨as,up,false,.non⟩] } else s1:=by unfold begL; rw [e1]
  rw [eb]
  clear e1 eb h
  obtain ⟨cs1,st1,cut1⟩:=s1
  cases cut1 with
  | true=>exact ⟨fun z=>(by cases z),fun _=>rfl⟩
  | false =>
   refine ⟨fun _=>⟨_,_,_,0,0,rfl,rfl,rfl,rfl,rfl,_,_,rfl,rfl,by rw [zLm]; exact Nat.le_trans l2 (by decide),rfl,rfl,⟨pa,pu,trivial,trivial,trivial⟩,trivial,trivial,rfl,m,⟨cs1 ++ [⟨as,up,false,.non⟩],st1,false⟩,s.cs.length, "open", ?_,rfl,Nat.le_trans l1 (by decide),rfl⟩,fun z=>(by cases z)⟩
   unfold lsD
   simp [putQ,uy,T5,rwL]
 rintro _ rfl
 exact ⟨trivial,_,rfl,h⟩
theorem Yl (T:Tops mg) (F:Fun K "_law_ended" "_law_ended" (top 28) f fd) (m:mg "_law_ended" = some (.ref f)):FQ P w K mg base 1 "_law_ended" ["_law_run", "_law_at", "_law_value"] Rg:=by
 have S:zn ["_law_run", "_law_at", "_law_value"] ["_law_run", "_law_at", "_law_value"] (zb (top 28)):=⟨rfl,rfl,rfl,by decide +kernel,rfl,by decide +kernel,by decide +kernel⟩
 refine Va F S (F.binds fun _ _ _ _ _ _ us hl=>(by obtain ⟨_,_,_,rfl⟩:=c6 hl; rfl)) m fun qZ A outer s H E d0 ds φ hr hl hT=>?_
 have hu:=hr.units
 refine ⟨_,(zo (y4 (xb (xm (yx (ze hu (z0 0) za))) (zj (ve (t8 yy))) wm))
   (zo (y4 (k5 (Ze (Ze zr za) (z0 1)) za wy))
   (zo (y4 (k5 (Ze (Ze zr za) (z0 1)) za (z0 2)))
   (zj (ve (t8 (z0 2))))))),?_⟩
 obtain ⟨m,s,x,a,rfl,rfl,px,hl1,h⟩:=hT
 obtain ⟨cs,st,cut⟩:=s
 cases cut with
 | true=>exact zg (fun _=>False) ⟨fun _=>⟨trivial,_,rfl,h⟩,fun z=>(by cases z)⟩ (fun _ z=>z.elim)
 | false =>
  have ha:a < cs.length:=hl1 rfl
  obtain ⟨c0,r,more,rfl,rfl⟩:∃ c0 r more,cs=c0 ++ r :: more /\ c0.length=a:=⟨cs.take a,cs[a],cs.drop (a + 1),by rw [<- List.drop_eq_getElem_cons ha,List.take_append_drop],by rw [List.length_take]; omega⟩
  rw [bt] at h
  refine zg (fun ρ=>ρ=[some (dv (lsD m ⟨c0 ++ r :: more,st,false⟩)),some (dv (.int c0.length)),some (dv x)]) ?_ ?_
  ·exact ⟨fun z=>(by cases z),fun _=>rfl⟩
  rintro _ rfl
  refine zg (fun ρ=>ρ=[some (dv (lsD m ⟨c0 ++ ⟨r.a,r.up,true,r.v⟩ :: more,st,false⟩)),some (dv (.int c0.length)),some (dv x)]) ?_ ?_
  ·refine ⟨trivial,_,_,_,0,0,rfl,rfl,rfl,rfl,rfl,_,_,_,c0.length,c0.length,rfl,rfl,rfl,rfl,Ll,_,_,2,2,rfl,K2,rfl,rfl,?_⟩
   exact congrArg (fun d=>[some (dv d),some (dv (.int c0.length)),some (dv x)]) (Q7 (r':=⟨r.a,r.up,true,r.v⟩))
  rintro _ rfl
  refine zg (fun ρ=>ρ=[some (dv (lsD m ⟨c0 ++ ⟨r.a,r.up,true,x⟩ :: more,st,false⟩)),some (dv (.int c0.length)),some (dv x)]) ?_ ?_
  ·refine ⟨px,_,_,_,0,0,rfl,rfl,rfl,rfl,rfl,_,_,_,c0.length,c0.length,rfl,rfl,rfl,rfl,Ll,_,_,3,3,rfl,K2,rfl,rfl,?_⟩
   exact congrArg (fun d=>[some (dv d),some (dv (.int c0.length)),some (dv x)]) (Q7 (r':=⟨r.a,r.up,true,x⟩))
  rintro _ rfl
  exact ⟨px,_,rfl,h⟩
noncomputable def Vr (n:Nat):FTQ:=fun d ds φ=>∃ m s,∃ t:Tr,∃ up,∃ dp:Nat,d=lsD m s /\ ds=[t.d,up,.int dp] /\ t.dep < n /\ s.cut=false /\ s.cs.length <= s.st.length /\ s.st.length <= 300 /\ m <= 300 /\ zh up /\ φ (zy m t up dp s).2 (lsD m (zy m t up dp s).1)
theorem vc {m:Int}:∀ (t:Tr) (up:D) (dp:Nat) (s:LS),zh (zy m t up dp s).2
 | .lf,up,dp,s=>by
  unfold zy
  simp only
  split <;> trivial
 | .nd l v r,up,dp,s=>by
  unfold zy
  simp only
  split
  ·trivial
  split
  ·split
   ·trivial
   ·exact ⟨vc r _ _ _,trivial,vc r _ _ _,trivial⟩
  ·split
   ·trivial
   ·exact ⟨vc r _ _ _,trivial,vc l _ _ _,trivial⟩
theorem bq {a:Nat} {x:D} {s:LS} (c:s.cut=true):endL a x s=s:=by unfold endL; rw [if_pos c]
theorem jv {n:Nat} (T:Tops mg) (B3:FQ P w K mg base 1 "_law_step" ["_law_run", "_law_at", "_law_kind"] gh) (Bf:FQ P w K mg base 2 "_law_begun" ["_law_run", "_law_args", "_law_up", "_law_deep"] Ri) (B6:FQ P w K mg base 1 "_law_ended" ["_law_run", "_law_at", "_law_value"] Rg) (B7:FQ P w K mg base (n + 3) "_law_turning" ["_law_run", "_law_tree_here", "_law_up", "_law_deep"] (Vr n)) (F:Fun K "_law_turning" "_law_turning" (top 29) f fd) (m:mg "_law_turning" = some (.ref f)):FQ P w K mg base (n + 4) "_law_turning" ["_law_run", "_law_tree_here", "_law_up", "_law_deep"] (Vr (n + 1)):=by
 have S:zn ["_law_run", "_law_tree_here", "_law_up", "_law_deep", "_law_at", "_law_left", "_law_other"] ["_law_run", "_law_tree_here", "_law_up", "_law_deep"] (zb (top 29)):=⟨rfl,rfl,rfl,by decide +kernel,rfl,by decide +kernel,by decide +kernel⟩
 refine Va F S (F.binds fun _ _ _ _ _ _ us hl=>(by obtain ⟨_,_,_,_,rfl⟩:=Ju hl; rfl)) m fun qZ A outer s H E d0 ds φ hr hl hT=>?_
 have hu:=hr.units
 refine ⟨_,(zo (y4 (xt 4 (by decide) S.nd (xk Bf (hr.mono (by omega)) (zd (zp (z9 (z0 1) zc)) (zd (z0 2) (zd (z0 3) y3))))))
   (zo (y4 (xb (xm (EW.et (uu (yx (ze hu (z0 0) za)) (t7 (Vi (z0 1) yy))))) (zj (ve (xk B6 (hr.mono (by omega)) (zd (z0 4) (zd yy y3))))) wm))
   (zo (y4 (xt 5 (by decide) S.nd (xk B7 (hr.mono (by omega)) (zd (ze hu (z0 1) za) (zd (z0 4) (zd (vk (z0 3) za) y3))))))
   (zo (y4 (xb (xm (wx (yx (ze hu (z0 0) za)))) (zj (xt 6 (by decide) S.nd (xk B7 (hr.mono (by omega)) (zd (ze hu (z0 1) za) (zd (z0 4) (zd (vk (z0 3) za) y3)))))) wm))
   (zo (y4 (yi (xk B3 (hr.mono (by omega)) (zd (z0 4) (zd zk y3)))))
   (zo (y4 (xb (xm (yx (ze hu (z0 0) za))) (zj (ve (t8 yy))) wm))
   (zj (ve (xk B6 (hr.mono (by omega)) (zd (z0 4) (zd (zp (z9 (z0 5) (z9 (ze hu (z0 1) za) (z9 (z0 6) zc)))) y3))))))))))),?_⟩
 obtain ⟨m,s,t,up,dp,rfl,rfl,hd,c,hl1,hl2,hm,pu,h⟩:=hT
 have k0:Kp m s (begL m [t.d] up dp s):=Kp.beg c
 refine zg (fun ρ=>ρ=[some (dv (lsD m (begL m [t.d] up dp s))),some (dv t.d),some (dv up),some (dv (.int dp)),some (dv (.int s.cs.length)),none,none]) ?_ ?_
 ·exact ⟨rfl,rfl,trivial,trivial,trivial,rfl,m,s,[t.d],up,dp,rfl,rfl,by omega,by omega,⟨t.pure,trivial⟩,pu,rfl⟩
 rintro _ rfl
 by_cases hc:(begL m [t.d] up dp s).cut=true
 ·rw [fx hc] at h
  have eq:begL m [t.d] up dp s=⟨(begL m [t.d] up dp s).cs,(begL m [t.d] up dp s).st,true⟩:=by rw [<- hc]
  refine zg (fun _=>False) ?_ (fun _ z=>z.elim)
  rw [eq] at h ⊢
  exact ⟨fun _=>⟨fun _=>⟨trivial,trivial,rfl,m,_,.non,s.cs.length,rfl,rfl,trivial,fun z=>(by cases z),_,rfl,(by rw [bq rfl]; exact h)⟩,fun z=>(by cases z)⟩,fun z=>(by cases z)⟩
 have hc':(begL m [t.d] up dp s).cut=false:=by simpa using hc
 have e1:=fj c hc'
 have la:s.cs.length < (begL m [t.d] up dp s).cs.length:=by rw [e1]; simp
 cases t with
 | lf =>
  rw [R8 hc'] at h
  refine zg (fun _=>False) ?_ (fun _ z=>z.elim)
  generalize begL m [Tr.lf.d] up dp s=s1 at *
  obtain ⟨cs1,st1,cut1⟩:=s1
  cases hc'
  exact ⟨fun z=>(by cases z),fun _=>⟨fun _=>⟨trivial,trivial,rfl,m,_,.non,s.cs.length,rfl,rfl,trivial,fun _=>la,_,rfl,h⟩,fun z=>(by cases z)⟩⟩
 | nd l v r =>
  have hd:1 + max l.dep r.dep < n + 1:=hd
  have b1:=k0.cl
  have b2:=k0.le
  have hok:=@X8 l r v up dp s
  have hp_:=@Sz l r v up dp s
  generalize e0:begL m [(Tr.nd l v r).d] up dp s=s1 at *
  obtain ⟨cs1,st1,cut1⟩:=s1
  cases hc'
  refine zg (fun ρ=>ρ=[some (dv (lsD m ⟨cs1,st1,false⟩)),some (dv (Tr.nd l v r).d),some (dv up),some (dv (.int dp)),some (dv (.int s.cs.length)),none,none]) ?_ ?_
  ·exact ⟨fun z=>(by cases z),fun _=>⟨fun z=>(by cases z),fun _=>rfl⟩⟩
  rintro _ rfl
  have k1:Kp m ⟨cs1,st1,false⟩ (zy m r (.int s.cs.length) (dp + 1) ⟨cs1,st1,false⟩).1:=uo _ _ _ _ rfl
  refine zg (fun ρ=>ρ=[some (dv (lsD m (zy m r (.int s.cs.length) (dp + 1) ⟨cs1,st1,false⟩).1)),some (dv (Tr.nd l v r).d),some (dv up),some (dv (.int dp)),some (dv (.int s.cs.length)),some (dv (zy m r (.int s.cs.length) (dp + 1) ⟨cs1,st1,false⟩).2),none]) ?_ ?_
  ·exact ⟨trivial,trivial,trivial,rfl,m,_,r,.int s.cs.length,dp + 1,rfl,rfl,by omega,rfl,by simp at b1; show cs1.length <= st1.length; omega,by simp at b2; show st1.length <= 300; omega,hm,trivial,rfl⟩
  rintro _ rfl
  have pp:=vc (m:=m) r (.int s.cs.length) (dp + 1) ⟨cs1,st1,false⟩
  generalize ep:zy m r (.int s.cs.length) (dp + 1) ⟨cs1,st1,false⟩=p at *
  obtain ⟨⟨cs2,st2,cut2⟩,vp⟩:=p
  obtain ⟨mo,eo⟩:=k1.pre
  have eo:=congrArg List.length eo
  rw [zLa] at eo
  have b3:=k1.cl
  have b4:=k1.le
  simp only at b1 b2 b3 b4 eo la
  cases cut2 with
  | true =>
   rw [Sz e0 rfl (by rw [ep]),ep] at h
   refine zg (fun ρ=>ρ=[some (dv (lsD m ⟨cs2,st2,true⟩)),some (dv (Tr.nd l v r).d),some (dv up),some (dv (.int dp)),some (dv (.int s.cs.length)),some (dv vp),none]) ⟨fun z=>(by cases z),fun _=>rfl⟩ ?_
   rintro _ rfl
   refine zg (fun ρ=>ρ=[some (dv (lsD m ⟨cs2,st2,true⟩)),some (dv (Tr.nd l v r).d),some (dv up),some (dv (.int dp)),some (dv (.int s.cs.length)),some (dv vp),none]) ⟨trivial,trivial,rfl,m,_,s.cs.length, "make", rfl,rfl,(by show st2.length <= 1000; omega),(by rw [wd rfl]; rfl)⟩ ?_
   rintro _ rfl
   exact zg (fun _=>False) ⟨fun _=>⟨trivial,_,rfl,h⟩,fun z=>(by cases z)⟩ (fun _ z=>z.elim)
  | false =>
   have k2:Kp m ⟨cs2,st2,false⟩ (zy m l (.int s.cs.length) (dp + 1) ⟨cs2,st2,false⟩).1:=uo _ _ _ _ rfl
   have pq:=vc (m:=m) l (.int s.cs.length) (dp + 1) ⟨cs2,st2,false⟩
   rw [X8 e0 rfl ep rfl rfl] at h
   refine zg (fun ρ=>ρ=[some (dv (lsD m (zy m l (.int s.cs.length) (dp + 1) ⟨cs2,st2,false⟩).1)),some (dv (Tr.nd l v r).d),some (dv up),some (dv (.int dp)),some (dv (.int s.cs.length)),some (dv vp),some (dv (zy m l (.int s.cs.length) (dp + 1) ⟨cs2,st2,false⟩).2)]) ⟨fun _=>⟨trivial,trivial,trivial,rfl,m,_,l,.int s.cs.length,dp + 1,rfl,rfl,by omega,rfl,(by show cs2.length <= st2.length; omega),(by show st2.length <= 300; omega),hm,trivial,rfl⟩,fun z=>(by cases z)⟩ ?_
   rintro _ rfl
   generalize eq:zy m l (.int s.cs.length) (dp + 1) ⟨cs2,st2,false⟩=q at *
   obtain ⟨⟨cs3,st3,cut3⟩,vq⟩:=q
   obtain ⟨mo2,eo2⟩:=k2.pre
   have eo2:=congrArg List.length eo2
   rw [zLa] at eo2
   have b5:=k2.cl
   have b6:=k2.le
   simp only at b5 b6 eo2
   refine zg (fun ρ=>ρ=[some (dv (lsD m (yk m s.cs.length "make" ⟨cs3,st3,cut3⟩))),some (dv (Tr.nd l v r).d),some (dv up),some (dv (.int dp)),some (dv (.int s.cs.length)),some (dv vp),some (dv vq)]) ⟨trivial,trivial,rfl,m,_,s.cs.length, "make", rfl,rfl,(by show st3.length <= 1000; omega),rfl⟩ ?_
   rintro _ rfl
   have l4:s.cs.length < (yk m s.cs.length "make" ⟨cs3,st3,cut3⟩).cs.length:=by rw [Vu]; show s.cs.length < cs3.length; omega
   generalize yk m s.cs.length "make" ⟨cs3,st3,cut3⟩=s4 at *
   obtain ⟨cs4,st4,cut4⟩:=s4
   cases cut4 with
   | true=>exact zg (fun _=>False) ⟨fun _=>⟨trivial,_,rfl,h⟩,fun z=>(by cases z)⟩ (fun _ z=>z.elim)
   | false =>
    refine zg (fun ρ=>ρ=[some (dv (lsD m ⟨cs4,st4,false⟩)),some (dv (Tr.nd l v r).d),some (dv up),some (dv (.int dp)),some (dv (.int s.cs.length)),some (dv vp),some (dv vq)]) ⟨fun z=>(by cases z),fun _=>rfl⟩ ?_
    rintro _ rfl
    exact ⟨trivial,rfl,rfl,trivial,rfl,m,_,.tup [vp,.int v,vq],s.cs.length,rfl,rfl,⟨pp,trivial,pq,trivial⟩,fun _=>l4,_,rfl,h⟩
theorem ja {a:Nat} {x:D} {s:LS} (c:s.cut=false):(endL a x s).cut=false:=by
 unfold endL
 rw [if_neg (by rw [c]; decide)]
 split <;> exact c
noncomputable def vlL (q:LS × List Int):D:=if q.1.cut then .non else rowD q.2
noncomputable def Od (n:Nat):FTQ:=fun d ds φ=>∃ m s,∃ t:Tr,∃ row:List Int,∃ up,∃ dp:Nat,d=lsD m s /\ ds=[t.d,rowD row,up,.int dp] /\ t.dep < n /\ t.nodes + row.length <= 100 /\ s.cut=false /\ s.cs.length <= s.st.length /\ s.st.length <= 300 /\ m <= 300 /\ zh up /\ φ (vlL (layL m t row up dp s)) (lsD m (layL m t row up dp s).1)
theorem Xs {m:Int}:∀ (t:Tr) (row:List Int) (up:D) (dp:Nat) (s:LS),(layL m t row up dp s).2.length <= t.nodes + row.length
 | .lf,row,up,dp,s=>by
  unfold layL
  simp only
  split
  ·exact Nat.zero_le _
  ·simp [Tr.nodes]
 | .nd l v r,row,up,dp,s=>by
  unfold layL
  simp only
  split
  ·exact Nat.zero_le _
  split
  ·exact Nat.zero_le _
  split
  ·exact Nat.zero_le _
  ·have h1:=Xs (m:=m) r row (.int s.cs.length) (dp + 1) (begL m [.tup [l.d,.int v,r.d],.tup (row.map D.int)] up dp s)
   refine Nat.le_trans (Xs l _ _ _ _) ?_
   rw [zLc]
   show _ <= 1 + l.nodes + r.nodes + row.length
   omega
theorem ba {n:Nat} (T:Tops mg) (B3:FQ P w K mg base 1 "_law_step" ["_law_run", "_law_at", "_law_kind"] gh) (Bf:FQ P w K mg base 2 "_law_begun" ["_law_run", "_law_args", "_law_up", "_law_deep"] Ri) (B6:FQ P w K mg base 1 "_law_ended" ["_law_run", "_law_at", "_law_value"] Rg) (B9:FQ P w K mg base (n + 3) "_law_laying" ["_law_run", "_law_tree_here", "_law_row", "_law_up", "_law_deep"] (Od n)) (F:Fun K "_law_laying" "_law_laying" (top 30) f fd) (m:mg "_law_laying" = some (.ref f)):FQ P w K mg base (n + 4) "_law_laying" ["_law_run", "_law_tree_here", "_law_row", "_law_up", "_law_deep"] (Od (n + 1)):=by
 have S:zn ["_law_run", "_law_tree_here", "_law_row", "_law_up", "_law_deep", "_law_at", "_law_behind", "_law_value"] ["_law_run", "_law_tree_here", "_law_row", "_law_up", "_law_deep"] (zb (top 30)):=⟨rfl,rfl,rfl,by decide +kernel,rfl,by decide +kernel,by decide +kernel⟩
 refine Va F S (F.binds fun _ _ _ _ _ _ us hl=>(by obtain ⟨_,_,_,_,_,rfl⟩:=Em hl; rfl)) m fun qZ A outer s H E d0 ds φ hr hl hT=>?_
 have hu:=hr.units
 refine ⟨_,(zo (y4 (xt 5 (by decide) S.nd (xk Bf (hr.mono (by omega)) (zd (zp (z9 (z0 1) (z9 (z0 2) zc))) (zd (z0 3) (zd (z0 4) y3))))))
   (zo (y4 (xb (xm (EW.et (uu (yx (ze hu (z0 0) za)) (t7 (Vi (z0 1) yy))))) (zj (ve (xk B6 (hr.mono (by omega)) (zd (z0 5) (zd (z0 2) y3))))) wm))
   (zo (y4 (xt 6 (by decide) S.nd (xk B9 (hr.mono (by omega)) (zd (ze hu (z0 1) za) (zd (z0 2) (zd (z0 5) (zd (vk (z0 4) za) y3)))))))
   (zo (y4 (yi (xk B3 (hr.mono (by omega)) (zd (z0 5) (zd zk y3)))))
   (zo (y4 (xb (xm (yx (ze hu (z0 0) za))) (zj (ve (t8 yy))) wm))
   (zo (y4 (xt 7 (by decide) S.nd (xk B9 (hr.mono (by omega)) (zd (ze hu (z0 1) za) (zd (jd (zp (z9 (ze hu (z0 1) za) zc)) (z0 6)) (zd (z0 5) (zd (vk (z0 4) za) y3)))))))
   (zj (ve (xk B6 (hr.mono (by omega)) (zd (z0 5) (zd (z0 7) y3))))))))))),?_⟩
 obtain ⟨m,s,t,row,up,dp,rfl,rfl,hd,hn,c,hl1,hl2,hm,pu,h⟩:=hT
 have k0:Kp m s (begL m [t.d,rowD row] up dp s):=Kp.beg c
 refine zg (fun ρ=>ρ=[some (dv (lsD m (begL m [t.d,rowD row] up dp s))),some (dv t.d),some (dv (rowD row)),some (dv up),some (dv (.int dp)),some (dv (.int s.cs.length)),none,none]) ?_ ?_
 ·exact ⟨rfl,rfl,trivial,trivial,trivial,rfl,m,s,[t.d,rowD row],up,dp,rfl,rfl,by omega,by omega,⟨t.pure,yh row,trivial⟩,pu,rfl⟩
 rintro _ rfl
 by_cases hc:(begL m [t.d,rowD row] up dp s).cut=true
 ·rw [Xu hc] at h
  unfold vlL at h
  have eq:begL m [t.d,rowD row] up dp s=⟨(begL m [t.d,rowD row] up dp s).cs,(begL m [t.d,rowD row] up dp s).st,true⟩:=by rw [<- hc]
  refine zg (fun _=>False) ?_ (fun _ z=>z.elim)
  rw [eq] at h ⊢
  exact ⟨fun _=>⟨fun _=>⟨trivial,trivial,rfl,m,_,rowD row,s.cs.length,rfl,rfl,yh row,fun z=>(by cases z),_,rfl,(by rw [bq rfl]; exact h)⟩,fun z=>(by cases z)⟩,fun z=>(by cases z)⟩
 have hc':(begL m [t.d,rowD row] up dp s).cut=false:=by simpa using hc
 have e1:=fj c hc'
 have la:s.cs.length < (begL m [t.d,rowD row] up dp s).cs.length:=by rw [e1]; simp
 cases t with
 | lf =>
  rw [Lh hc'] at h
  refine zg (fun _=>False) ?_ (fun _ z=>z.elim)
  generalize begL m [Tr.lf.d,rowD row] up dp s=s1 at *
  obtain ⟨cs1,st1,cut1⟩:=s1
  cases hc'
  have ec:(endL s.cs.length (rowD row) ⟨cs1,st1,false⟩).cut=false:=ja rfl
  unfold vlL at h
  rw [ec] at h
  exact ⟨fun z=>(by cases z),fun _=>⟨fun _=>⟨trivial,trivial,rfl,m,_,rowD row,s.cs.length,rfl,rfl,yh row,fun _=>la,_,rfl,h⟩,fun z=>(by cases z)⟩⟩
 | nd l v r =>
  have hd:1 + max l.dep r.dep < n + 1:=hd
  have hn:1 + l.nodes + r.nodes + row.length <= 100:=hn
  have b1:=k0.cl
  have b2:=k0.le
  generalize e0:begL m [(Tr.nd l v r).d,rowD row] up dp s=s1 at *
  obtain ⟨cs1,st1,cut1⟩:=s1
  cases hc'
  refine zg (fun ρ=>ρ=[some (dv (lsD m ⟨cs1,st1,false⟩)),some (dv (Tr.nd l v r).d),some (dv (rowD row)),some (dv up),some (dv (.int dp)),some (dv (.int s.cs.length)),none,none]) ?_ ?_
  ·exact ⟨fun z=>(by cases z),fun _=>⟨fun z=>(by cases z),fun _=>rfl⟩⟩
  rintro _ rfl
  have k1:Kp m ⟨cs1,st1,false⟩ (layL m r row (.int s.cs.length) (dp + 1) ⟨cs1,st1,false⟩).1:=kq _ _ _ _ _ rfl
  have pl:=Xs (m:=m) r row (.int s.cs.length) (dp + 1) ⟨cs1,st1,false⟩
  simp only at b1 b2 la
  refine zg (fun ρ=>ρ=[some (dv (lsD m (layL m r row (.int s.cs.length) (dp + 1) ⟨cs1,st1,false⟩).1)),some (dv (Tr.nd l v r).d),some (dv (rowD row)),some (dv up),some (dv (.int dp)),some (dv (.int s.cs.length)),some (dv (vlL (layL m r row (.int s.cs.length) (dp + 1) ⟨cs1,st1,false⟩))),none]) ?_ ?_
  ·exact ⟨trivial,trivial,trivial,trivial,rfl,m,_,r,row,.int s.cs.length,dp + 1,rfl,rfl,by omega,by omega,rfl,(by show cs1.length <= st1.length; omega),(by show st1.length <= 300; omega),hm,trivial,rfl⟩
  rintro _ rfl
  generalize ep:layL m r row (.int s.cs.length) (dp + 1) ⟨cs1,st1,false⟩=p at *
  obtain ⟨⟨cs2,st2,cut2⟩,vp⟩:=p
  obtain ⟨mo,eo⟩:=k1.pre
  have eo:=congrArg List.length eo
  rw [zLa] at eo
  have b3:=k1.cl
  have b4:=k1.le
  simp only at b3 b4 eo pl
  refine zg (fun ρ=>ρ=[some (dv (lsD m (yk m s.cs.length "make" ⟨cs2,st2,cut2⟩))),some (dv (Tr.nd l v r).d),some (dv (rowD row)),some (dv up),some (dv (.int dp)),some (dv (.int s.cs.length)),some (dv (vlL (⟨cs2,st2,cut2⟩,vp))),none]) ⟨trivial,trivial,rfl,m,_,s.cs.length, "make", rfl,rfl,(by show st2.length <= 1000; omega),rfl⟩ ?_
  rintro _ rfl
  by_cases hs:(yk m s.cs.length "make" ⟨cs2,st2,cut2⟩).cut=true
  ·have hh:φ .non (lsD m (yk m s.cs.length "make" ⟨cs2,st2,cut2⟩)):=by
    cases cut2 with
    | true =>
     rw [Eo e0 rfl (by rw [ep]),ep] at h
     rw [wd rfl]
     exact h
    | false =>
     by_cases z:m <= st2.length
     ·rw [En e0 rfl ep z] at h
      rw [vn z]
      exact h
     ·rw [wa z rfl] at hs
      cases hs
   generalize yk m s.cs.length "make" ⟨cs2,st2,cut2⟩=s4 at *
   obtain ⟨cs4,st4,cut4⟩:=s4
   cases hs
   exact zg (fun _=>False) ⟨fun _=>⟨trivial,_,rfl,hh⟩,fun z=>(by cases z)⟩ (fun _ z=>z.elim)
  have hz:cut2=false /\ ¬ m <= st2.length:=by
   cases cut2 with
   | true=>rw [wd rfl] at hs; exact absurd rfl hs
   | false=>exact ⟨rfl,fun z=>hs (by rw [vn z])⟩
  obtain ⟨rfl,z⟩:=hz
  rw [Qq e0 rfl ep rfl z rfl] at h
  rw [wa z rfl]
  have l4:(st2 ++ [stp s.cs.length "make"]).length=st2.length + 1:=by simp
  generalize e4:st2 ++ [stp s.cs.length "make"]=st4 at *
  refine zg (fun ρ=>ρ=[some (dv (lsD m ⟨cs2,st4,false⟩)),some (dv (Tr.nd l v r).d),some (dv (rowD row)),some (dv up),some (dv (.int dp)),some (dv (.int s.cs.length)),some (dv (rowD vp)),none]) ⟨fun z=>(by cases z),fun _=>rfl⟩ ?_
  rintro _ rfl
  have k3:Kp m ⟨cs2,st4,false⟩ (layL m l (v :: vp) (.int s.cs.length) (dp + 1) ⟨cs2,st4,false⟩).1:=kq _ _ _ _ _ rfl
  have h:φ (vlL (if (layL m l (v :: vp) (.int s.cs.length) (dp + 1) ⟨cs2,st4,false⟩).1.cut then ((layL m l (v :: vp) (.int s.cs.length) (dp + 1) ⟨cs2,st4,false⟩).1,[]) else (endL s.cs.length (rowD (layL m l (v :: vp) (.int s.cs.length) (dp + 1) ⟨cs2,st4,false⟩).2) (layL m l (v :: vp) (.int s.cs.length) (dp + 1) ⟨cs2,st4,false⟩).1,(layL m l (v :: vp) (.int s.cs.length) (dp + 1) ⟨cs2,st4,false⟩).2))) (lsD m (if (layL m l (v :: vp) (.int s.cs.length) (dp + 1) ⟨cs2,st4,false⟩).1.cut then ((layL m l (v :: vp) (.int s.cs.length) (dp + 1) ⟨cs2,st4,false⟩).1,[]) else (endL s.cs.length (rowD (layL m l (v :: vp) (.int s.cs.length) (dp + 1) ⟨cs2,st4,false⟩).2) (layL m l (v :: vp) (.int s.cs.length) (dp + 1) ⟨cs2,st4,false⟩).1,(layL m l (v :: vp) (.int s.cs.length) (dp + 1) ⟨cs2,st4,false⟩).2)).1):=h
  refine zg (fun ρ=>ρ=[some (dv (lsD m (layL m l (v :: vp) (.int s.cs.length) (dp + 1) ⟨cs2,st4,false⟩).1)),some (dv (Tr.nd l v r).d),some (dv (rowD row)),some (dv up),some (dv (.int dp)),some (dv (.int s.cs.length)),some (dv (rowD vp)),some (dv (vlL (layL m l (v :: vp) (.int s.cs.length) (dp + 1) ⟨cs2,st4,false⟩)))]) ⟨trivial,rfl,rfl,⟨trivial,trivial⟩,yh vp,(by rw [sizeLine_eq,zLm]; simp; omega),trivial,trivial,trivial,rfl,m,_,l,v :: vp,.int s.cs.length,dp + 1,rfl,rfl,by omega,by rw [zLc]; omega,rfl,(by show cs2.length <= st4.length; omega),(by show st4.length <= 300; omega),hm,trivial,rfl⟩ ?_
  rintro _ rfl
  generalize layL m l (v :: vp) (.int s.cs.length) (dp + 1) ⟨cs2,st4,false⟩=q at *
  obtain ⟨⟨cs5,st5,cut5⟩,vq⟩:=q
  obtain ⟨mo2,eo2⟩:=k3.pre
  have eo2:=congrArg List.length eo2
  rw [zLa] at eo2
  simp only at eo2
  cases cut5 with
  | true=>exact ⟨trivial,trivial,rfl,m,_,.non,s.cs.length,rfl,rfl,trivial,fun z=>(by cases z),_,rfl,(by rw [bq rfl]; exact h)⟩
  | false =>
   rw [if_neg (by simp)] at h
   unfold vlL at h
   rw [ja rfl] at h
   exact ⟨trivial,trivial,rfl,m,_,rowD vq,s.cs.length,rfl,rfl,yh vq,fun _=>(by show s.cs.length < cs5.length; omega),_,rfl,h⟩
noncomputable def Mu:FT:=fun ds φ=>∃ cs:List Int,ds=[.lst (cs.map D.int)] /\ cs.length <= 20 /\ ∀ t:Tr,t.dep <= 20->t.nodes <= 40->φ (dv t.d)
theorem Rt {i:Nat} {t:TDS} {ρ:DE} {Z:DZ} (h:t (frzS ρ i) Z):sFrz i t ρ Z:=h
theorem Tr.dep_le:∀ t:Tr,t.dep <= t.nodes
 | .lf=>Nat.le_refl _
 | .nd l v r=>by
  have h1:=l.dep_le
  have h2:=r.dep_le
  show 1 + max l.dep r.dep <= 1 + l.nodes + r.nodes
  omega
theorem Ve (T:Tops mg) (Bc:FD P w K mg base 1 "_law_number" ["_law_cell"] K9) (F:Fun K "_law_tree" "_law_tree" (top 22) f fd) (m:mg "_law_tree" = some (.ref f)):FD P w K mg base 2 "_law_tree" ["_law_cells"] Mu:=by
 have S:zn ["_law_cells", "_law_grove", "_law_cell", "_law_number_here", "_law_last", "_law_tree_here", "_law_part"] ["_law_cells"] (zb (top 22)):=⟨rfl,rfl,rfl,by decide +kernel,rfl,by decide +kernel,by decide +kernel⟩
 refine u7 F S (F.binds fun _ _ _ _ _ _ us hl=>(by obtain ⟨_,rfl⟩:=sj hl; rfl)) m fun qZ A outer s H E ds φ hr hl hT=>?_
 have hu:=hr.units
 refine ⟨_,(zl (ym (x8 1 S.nd (ua (z9 yy zc))))
   (zl (ym (gm (vv (z0 0)) (yb (i:=2) S.nd rfl (by walk_at "o")) (w5 2) (zl (x8 3 S.nd (ya Bc (hr.mono (by decide)) (z9 (Pk (z0 2) za) zc)))
    (zx (we (xu hu (vj (z0 2) za) za) (zx (Za 1 (z9 (z0 3) (z9 yy zc)))) (zx (we (EW.et (Pb (xu hu (vj (z0 2) za) za) (Vg (Hm (wf T.len (z9 (z0 1) zc)) za)))) (zl (Rn 1 4 S.nd)
      (zx (Za 1 (z9 (z0 3) (z9 (z0 4) zc))))) (zx (we (xu hu (vj (z0 2) za) za) (zx (Tc 1 yy (z0 3))) (zx (Z9 1 (zp (z9 yy (z9 (z0 3) (z9 yy zc)))))))))))))))
   (zl (ym (x8 5 S.nd yy))
   (zl (ym (U1 1 (gm (vv (z0 1)) (yb (i:=6) S.nd rfl (by walk_at "o")) (w5 6) (zx (we (Vi (z0 5) yy) (zx (x8 5 S.nd (z0 6))) (zx (we (Us (z0 6) yy) (zx (x8 5 S.nd (zp (z9 (z0 5) (z9 (wf T.len (z9 (z0 1) zc)) (z9 (z0 6) zc)))))) xi)))))))
   (zx (yf (z0 5))))))),?_⟩
 obtain ⟨cs,rfl,hl1,h⟩:=hT
 refine y8 (fun ρ=>ρ=[some (dv (.lst (cs.map D.int))),some (dO (.lst [.non])),none,none,none,none,none]) ?_ ?_
 ·walk_at "dl"
 rintro _ rfl
 refine y8 (fun ρ=>∃ (gs:List Tr) (a b c d e:Option EV),gs ≠ [] /\ (gs.map Tr.nodes).sum=cs.length /\ gs.length <= cs.length + 1 /\ ρ=[some (dv (.lst (cs.map D.int))),some (dO (.lst (gs.map Tr.d))),a,b,c,d,e]) ?_ ?_
 ·refine tz (cs.map D.int) (fun ψ hψ=>⟨trivial,hψ⟩) (fun i ρ=>∃ (gs:List Tr) (a b c d e:Option EV),gs ≠ [] /\ (gs.map Tr.nodes).sum=i /\ gs.length <= i + 1 /\ ρ=[some (dv (.lst (cs.map D.int))),some (dO (.lst (gs.map Tr.d))),a,b,c,d,e]) ⟨[.lf],none,none,none,none,none,by simp,by simp [Tr.nodes],by simp,rfl⟩ ?_ ?_
  ·rintro i d' _ hd' ⟨gs,a,b,c,d,e,ne,hs,hl,rfl⟩
   have hi:i < cs.length:=by
    have:=(List.getElem?_eq_some_iff.mp hd').1
    simpa using this
   rw [List.getElem?_map,List.getElem?_eq_getElem hi] at hd'
   cases hd'
   generalize cs[i]=x
   rcases List.eq_nil_or_concat gs with rfl | ⟨gs,q,rfl⟩
   ·exact absurd rfl ne
   rw [List.concat_eq_append] at *
   simp only [zMa,List.map_cons,List.map_nil,List.sum_append,List.sum_cons,List.sum_nil,zLa,zLc,zLn] at hs hl ⊢
   refine ⟨of_eq_true (Pa (by decide) (by decide)),rfl,_,rfl,fun n=>⟨trivial,?_⟩⟩
   walk_at "dl"
   have wit:∀ (g:List Tr) (c d e:Option EV) (W:List D),g ≠ []->(g.map Tr.nodes).sum=i + 1->g.length <= i + 1 + 1->W=g.map Tr.d->∃ (gs_1:List Tr) (a b c_1 d_1 e_1:Option EV),¬gs_1=[] /\ (gs_1.map Tr.nodes).sum=i + 1 /\ gs_1.length <= i + 1 + 1 /\ [some (dv (.lst (cs.map D.int))),some (dO (.lst W)),some (dv (.int x)),some ⟨.val,.int n⟩,c,d,e]=[some (dv (.lst (cs.map D.int))),some (dO (.lst (gs_1.map Tr.d))),a,b,c_1,d_1,e_1]:=fun g c d e W h1 h2 h3 h4=>by subst h4; exact ⟨g,_,_,_,_,_,h1,h2,h3,rfl⟩
   have w1:=wit (gs ++ [.nd q n .lf]) c d e _ (by simp) (by simp [Tr.nodes]; omega) (by simp; omega) (by simp [Tr.d]; rfl)
   have w3:=wit (gs ++ [.nd .lf n q]) c d e _ (by simp) (by simp [Tr.nodes]; omega) (by simp; omega) (by simp [Tr.d]; rfl)
   have w4:=wit (gs ++ [q] ++ [.nd .lf n .lf]) c d e (gs.map Tr.d ++ [q.d] ++ [.tup [.non,.int n,.non]]) (by simp) (by simp [Tr.nodes]; omega) (by simp; omega) (by simp [Tr.d])
   have bg:gs.length <= 100000:=by omega
   have bh:(gs.map Tr.d ++ [q.d]).length <= 100000:=by simp; omega
   refine ⟨fun _=>⟨bg,w1⟩,fun _=>⟨fun _=>⟨fun zz=>?_,fun _=>⟨fun _=>⟨bg,w3⟩,fun _=>⟨bh,w4⟩⟩⟩,fun _=>⟨fun _=>⟨bg,w3⟩,fun _=>⟨bh,w4⟩⟩⟩⟩
   rcases List.eq_nil_or_concat gs with rfl | ⟨g0,p,rfl⟩
   ·exact absurd zz (by simp)
   rw [List.concat_eq_append] at *
   rw [zMa,List.map_cons,List.map_nil,Ud]
   simp only [zMa,List.map_cons,List.map_nil,List.sum_append,List.sum_cons,List.sum_nil,zLa,zLc,zLn] at hs hl
   exact ⟨by rw [zLm]; omega,wit (g0 ++ [.nd p n q]) _ d e _ (by simp) (by simp [Tr.nodes]; omega) (by simp; omega) (by simp [Tr.d])⟩
  ·rintro _ ⟨gs,a,b,c,d,e,h1,h2,h3,rfl⟩
   rw [zLm] at h2 h3
   exact ⟨gs,a,b,c,d,e,h1,h2,h3,rfl⟩
 rintro _ ⟨gs,a,b,c,d,e,ne,hs,hl,rfl⟩
 refine y8 (fun ρ=>ρ=[some (dv (.lst (cs.map D.int))),some (dO (.lst (gs.map Tr.d))),a,b,c,some (dv Tr.lf.d),e]) ⟨trivial,rfl⟩ ?_
 rintro _ rfl
 refine y8 (fun ρ=>∃ (t:Tr) (g e:Option EV),t.dep <= 20 /\ t.nodes <= 40 /\ ρ=[some (dv (.lst (cs.map D.int))),g,a,b,c,some (dv t.d),e]) ?_ ?_
 ·refine Rt ?_
  refine tz (gs.map Tr.d) (fun ψ hψ=>⟨trivial,hψ⟩) (fun i ρ=>∃ (t:Tr) (e:Option EV),t.dep <= ((gs.take i).map Tr.nodes).sum /\ t.nodes <= 2 * ((gs.take i).map Tr.nodes).sum /\ ρ=[some (dv (.lst (cs.map D.int))),some (dv (.lst (gs.map Tr.d))),a,b,c,some (dv t.d),e]) ⟨.lf,e,Nat.zero_le _,Nat.zero_le _,rfl⟩ ?_ ?_
  ·rintro i d' _ hd' ⟨t,e,h1,h2,rfl⟩
   have hi:i < gs.length:=by
    have:=(List.getElem?_eq_some_iff.mp hd').1
    simpa using this
   have tk:gs.take (i + 1)=gs.take i ++ [gs[i]]:=by rw [List.take_add_one,List.getElem?_eq_getElem hi]; rfl
   rw [List.getElem?_map,List.getElem?_eq_getElem hi] at hd'
   cases hd'
   rw [tk,zMa,List.sum_append]
   generalize gs[i]=q
   have dq:=q.dep_le
   simp only [List.map_cons,List.map_nil,List.sum_cons,List.sum_nil]
   cases t with
   | lf=>exact qe true (fun ψ hψ=>hψ) (fun _=>⟨trivial,q,_,by omega,by omega,rfl⟩) (fun z=>(by cases z))
   | nd tl tv tr =>
    have h1:1 + max tl.dep tr.dep <= _:=h1
    have h2:1 + tl.nodes + tr.nodes <= _:=h2
    refine qe false (fun ψ hψ=>hψ) (fun z=>(by cases z)) (fun _=>?_)
    cases q with
    | lf=>exact qe false (fun ψ hψ=>hψ) (fun z=>(by cases z)) (fun _=>⟨.nd tl tv tr,_,by show 1 + max tl.dep tr.dep <= _; omega,by show 1 + tl.nodes + tr.nodes <= _; omega,rfl⟩)
    | nd ql qv qr =>
     have dq:1 + max ql.dep qr.dep <= 1 + ql.nodes + qr.nodes:=dq
     refine qe true (fun ψ hψ=>hψ) (fun _=>?_) (fun z=>(by cases z))
     exact ⟨rfl,rfl,trivial,.nd (.nd tl tv tr) (gs.map Tr.d).length (.nd ql qv qr),_,by show 1 + max (1 + max tl.dep tr.dep) (1 + max ql.dep qr.dep) <= _ + (1 + ql.nodes + qr.nodes + 0); omega,by show 1 + (1 + tl.nodes + tr.nodes) + (1 + ql.nodes + qr.nodes) <= 2 * (_ + (1 + ql.nodes + qr.nodes + 0)); omega,rfl⟩
  ·rintro _ ⟨t,e,h1,h2,rfl⟩
   rw [zLm,List.take_length,hs] at h1 h2
   exact ⟨t,_,_,by omega,by omega,rfl⟩
 rintro _ ⟨t,g,e,h1,h2,rfl⟩
 exact ⟨t.pure,h t h1 h2⟩
noncomputable def RO (r:Rw):Prop:=(∀ a ∈ r.a,okD 36 a) /\ (r.up=.non \/ ∃ n:Int,r.up=.int n) /\ okD 36 r.v
noncomputable def SO (s:LS):Prop:=(∀ r ∈ s.cs,RO r) /\ ∀ d ∈ s.st,∃ n k,d=stp n k
theorem da {m:Int} {a:Nat} {k:Str} {s:LS} (h:SO s):SO (yk m a k s):=by
 unfold yk
 split
 ·refine ⟨h.1,fun d hd=>?_⟩
  rcases List.mem_append.mp hd with hd | hd
  ·exact h.2 d hd
  ·exact ⟨_,_,List.mem_singleton.mp hd⟩
 ·exact h
theorem okN {n:Nat}:okD n .non:=by rw [Qg]; trivial
theorem Vy {m:Int} {as:List D} {up:D} {dp:Nat} {s:LS} (h:SO s) (ha:∀ a ∈ as,okD 36 a) (hu:up=.non \/ ∃ n:Int,up=.int n):SO (begL m as up dp s):=by
 unfold begL
 have h1:SO (yk m s.cs.length "call" (if 20 < dp then { s with cut:=true } else s)):=da (by split <;> exact h)
 generalize yk m s.cs.length "call" (if 20 < dp then { s with cut:=true } else s)=s1 at *
 simp only
 split
 ·refine da ⟨fun r hr=>?_,h1.2⟩
  rcases List.mem_append.mp hr with hr | hr
  ·exact h1.1 r hr
  ·rw [List.mem_singleton.mp hr]
   exact ⟨ha,hu,okN⟩
 ·exact h1
theorem Vx {a:Nat} {x:D} {s:LS} (h:SO s) (hx:okD 36 x):SO (endL a x s):=by
 unfold endL
 split
 ·exact h
 split
 ·rename_i r e
  refine ⟨fun q hq=>?_,h.2⟩
  rcases List.mem_or_eq_of_mem_set hq with hq | rfl
  ·exact h.1 q hq
  ·have:=h.1 r (List.mem_of_getElem? e)
   exact ⟨this.1,this.2.1,hx⟩
 ·exact h
theorem Ed:∀ {n:Nat} {d:D},okD n d->okD (n + 1) d:=fun {n}=>by
 induction n with
 | zero=>intro d h; cases d <;> first | exact h.elim | trivial
 | succ n ih =>
  intro d h
  cases d with
  | tup ds=>exact fun x hx=>ih (h x hx)
  | lst ds=>exact fun x hx=>ih (h x hx)
  | _=>exact h
theorem ka {n m:Nat} {d:D} (h:okD n d) (hm:n <= m):okD m d:=by
 induction m with
 | zero=>rw [show n=0 by omega] at h; exact h
 | succ m ih =>
  by_cases z:n=m + 1
  ·rw [<- z]; exact h
  ·exact Ed (ih (by omega))
theorem N9 {k:Nat} {a b:D} {v:Int} (ha:okD k a) (hb:okD k b):okD (k + 1) (.tup [a,.int v,b]):=by
 rw [uq (by omega)]
 intro d hd
 rcases List.mem_cons.mp hd with rfl | hd
 ·exact ha
 rcases List.mem_cons.mp hd with rfl | hd
 ·rw [yp]; trivial
 rw [List.mem_singleton.mp hd]
 exact hb
theorem N8 {k n:Nat}:∀ {t:Tr},t.dep <= k->k < n->okD n t.d:=fun {t} h1 h2=>by
 have:=t.ok (n - 1) (by omega)
 rwa [show n - 1 + 1=n by omega] at this
theorem Xf {m:Int}:∀ (k:Nat) (t:Tr) (up:D) (dp:Nat) (s:LS),k <= 30->t.dep <= k->SO s->(up=.non \/ ∃ n:Int,up=.int n)->SO (zy m t up dp s).1 /\ okD (k + 5) (zy m t up dp s).2
 | k,.lf,up,dp,s,hk,hd,h,hu=>by
  have hb:SO (begL m [.non] up dp s):=Vy h (fun a ha=>by rw [List.mem_singleton.mp ha]; exact okN) hu
  unfold zy
  simp only
  split
  ·exact ⟨hb,okN⟩
  ·exact ⟨Vx hb okN,okN⟩
 | 0,.nd l v r,up,dp,s,hk,hd,h,hu=>by simp [Tr.dep] at hd
 | k + 1,.nd l v r,up,dp,s,hk,hd,h,hu=>by
  have hd2:1 + max l.dep r.dep <= k + 1:=hd
  have hb:SO (begL m [(Tr.nd l v r).d] up dp s):=Vy h (fun a ha=>by rw [List.mem_singleton.mp ha]; exact N8 hd (by omega)) hu
  have i1:=Xf (m:=m) k r (.int s.cs.length) (dp + 1) (begL m [(Tr.nd l v r).d] up dp s) (by omega) (by omega) hb (.inr ⟨_,rfl⟩)
  unfold zy
  simp only
  have eb:begL m [(Tr.nd l v r).d] up dp s=begL m [.tup [l.d,.int v,r.d]] up dp s:=rfl
  rw [eb] at hb i1
  generalize begL m [.tup [l.d,.int v,r.d]] up dp s=s1 at *
  generalize zy m r (.int s.cs.length) (dp + 1) s1=p at *
  have i2:SO (if p.1.cut=true then p else zy m l (.int s.cs.length) (dp + 1) p.1).1 /\ okD (k + 5) (if p.1.cut=true then p else zy m l (.int s.cs.length) (dp + 1) p.1).2:=by
   split
   ·exact i1
   ·exact Xf (m:=m) k l (.int s.cs.length) (dp + 1) _ (by omega) (by omega) i1.1 (.inr ⟨_,rfl⟩)
  generalize (if p.1.cut=true then p else zy m l (.int s.cs.length) (dp + 1) p.1)=q at *
  have i3:=da (m:=m) (a:=s.cs.length) (k:="make") i2.1
  have ok3:=N9 (v:=v) i1.2 i2.2
  generalize yk m s.cs.length "make" q.1=s4 at *
  split
  ·exact ⟨hb,okN⟩
  split
  ·exact ⟨i3,okN⟩
  ·exact ⟨Vx i3 (ka ok3 (by omega)),ka ok3 (by omega)⟩
theorem k9 {n:Nat} (row:List Int):okD (n + 1) (rowD row):=by
 unfold rowD
 rw [uq (by omega)]
 intro d hd
 obtain ⟨z,_,rfl⟩:=List.mem_map.mp hd
 rw [yp]; trivial
theorem Rm {m:Int}:∀ (t:Tr) (row:List Int) (up:D) (dp:Nat) (s:LS),t.dep <= 30->SO s->(up=.non \/ ∃ n:Int,up=.int n)->SO (layL m t row up dp s).1
 | .lf,row,up,dp,s,hd,h,hu=>by
  have hb:SO (begL m [.non,rowD row] up dp s):=Vy h (fun a ha=>by
   rcases List.mem_cons.mp ha with rfl | ha
   ·exact okN
   ·rw [List.mem_singleton.mp ha]; exact k9 row) hu
  unfold layL
  simp only
  split
  ·exact hb
  ·exact Vx hb (k9 row)
 | .nd l v r,row,up,dp,s,hd,h,hu=>by
  have hd2:1 + max l.dep r.dep <= 30:=hd
  have hb:SO (begL m [(Tr.nd l v r).d,rowD row] up dp s):=Vy h (fun a ha=>by
   rcases List.mem_cons.mp ha with rfl | ha
   ·exact N8 hd (by omega)
   ·rw [List.mem_singleton.mp ha]; exact k9 row) hu
  have i1:=Rm (m:=m) r row (.int s.cs.length) (dp + 1) (begL m [(Tr.nd l v r).d,rowD row] up dp s) (by omega) hb (.inr ⟨_,rfl⟩)
  unfold layL
  simp only
  have eb:begL m [(Tr.nd l v r).d,rowD row] up dp s=begL m [.tup [l.d,.int v,r.d],.tup (row.map D.int)] up dp s:=rfl
  rw [eb] at hb i1
  generalize begL m [.tup [l.d,.int v,r.d],.tup (row.map D.int)] up dp s=s1 at *
  generalize layL m r row (.int s.cs.length) (dp + 1) s1=p at *
  have i2:=da (m:=m) (a:=s.cs.length) (k:="make") i1
  generalize yk m s.cs.length "make" p.1=s3 at *
  have i3:=Rm (m:=m) l (v :: p.2) (.int s.cs.length) (dp + 1) s3 (by omega) i2 (.inr ⟨_,rfl⟩)
  generalize layL m l (v :: p.2) (.int s.cs.length) (dp + 1) s3=q at *
  split
  ·exact hb
  split
  ·exact i2
  split
  ·exact i3
  ·exact Vx i3 (k9 _)
theorem R9 {m:Int} (t:Tr) (up:D) (dp:Nat) (s:LS) (h:(zy m t up dp s).1.cut=true):(zy m t up dp s).2=.non:=by
 cases t with
 | lf =>
  unfold zy
  simp only
  split <;> rfl
 | nd l v r =>
  unfold zy at h ⊢
  simp only at h ⊢
  generalize begL m [.tup [l.d,.int v,r.d]] up dp s=s1 at *
  generalize zy m r (.int s.cs.length) (dp + 1) s1=p at *
  generalize (if p.1.cut=true then p else zy m l (.int s.cs.length) (dp + 1) p.1)=q at *
  generalize yk m s.cs.length "make" q.1=s4 at *
  split
  ·rfl
  rename_i c1
  rw [if_neg c1] at h
  split
  ·rfl
  rename_i c2
  rw [if_neg c2] at h
  rw [show _=false from ja (by simpa using c2)] at h
  cases h
noncomputable def s0:LS:=⟨[],[],false⟩
noncomputable def FdD (f:Str) (s:LS) (v:D):D:=.tup [.bl (!s.cut),v,.lst (s.cs.map (rwM f)),.lst s.st]
theorem so_0:SO s0:=⟨fun r hr=>(by cases hr),fun r hr=>(by cases hr)⟩
theorem Cc {f:Str} {r:Rw} (h:RO r):okD 38 (rwM f r):=by
 unfold rwM
 rw [uq (by omega)]
 intro d hd
 simp only [List.mem_cons,List.not_mem_nil,or_false] at hd
 rcases hd with rfl | rfl | rfl | rfl | rfl
 ·rw [Xo]; trivial
 ·rw [uq (by omega)]; exact h.1
 ·rcases h.2.1 with e | ⟨n,e⟩
  ·rw [e]; exact okN
  ·rw [e,yp]; trivial
 ·rw [Zh]; trivial
 ·exact ka h.2.2 (by omega)
theorem Cd {f:Str} {s:LS} {v:D} (h:SO s) (hv:okD 38 v):okD 40 (FdD f s v):=by
 unfold FdD
 rw [uq (by omega)]
 intro d hd
 simp only [List.mem_cons,List.not_mem_nil,or_false] at hd
 rcases hd with rfl | rfl | rfl | rfl
 ·rw [Zh]; trivial
 ·exact ka hv (by omega)
 ·show ∀ x ∈ s.cs.map (rwM f),okD 38 x
  intro x hx
  obtain ⟨r,hr,rfl⟩:=List.mem_map.mp hx
  exact Cc (h.1 r hr)
 ·show ∀ x ∈ s.st,okD 38 x
  intro x hx
  obtain ⟨n,k,rfl⟩:=h.2 x hx
  unfold stp
  rw [uq (by omega)]
  intro d hd
  simp only [List.mem_cons,List.not_mem_nil,or_false] at hd
  rcases hd with rfl | rfl
  ·rw [yp]; trivial
  ·rw [Xo]; trivial
theorem ul (T:Tops mg)  (F:Fun K "_law_turned" "_law_turned" (top 24) f fd) (m:mg "_law_turned" = some (.ref f)):∀ n:Nat,FD P w K mg base (n + 1) "_law_turned" ["_law_tree_here"] (d6 n)
 | 0=>by
  have S:zn ["_law_tree_here"] ["_law_tree_here"] (zb (top 24)):=⟨rfl,rfl,rfl,by decide +kernel,rfl,by decide +kernel,by decide +kernel⟩
  refine u7 F S (F.binds fun _ _ _ _ _ _ us hl=>(by obtain ⟨_,rfl⟩:=sj hl; rfl)) m fun qZ A outer s H E ds φ hr hl hT=>?_
  obtain ⟨_,_,hd,_⟩:=hT
  exact absurd hd (Nat.not_lt_zero _)
 | n + 1=>bm T  (ul T  F m n) F m
theorem u9 (T:Tops mg)  (F:Fun K "_law_numbers" "_law_numbers" (top 25) f fd) (m:mg "_law_numbers" = some (.ref f)):∀ n:Nat,FD P w K mg base (n + 1) "_law_numbers" ["_law_tree_here"] (Ob n)
 | 0=>by
  have S:zn ["_law_tree_here"] ["_law_tree_here"] (zb (top 25)):=⟨rfl,rfl,rfl,by decide +kernel,rfl,by decide +kernel,by decide +kernel⟩
  refine u7 F S (F.binds fun _ _ _ _ _ _ us hl=>(by obtain ⟨_,rfl⟩:=sj hl; rfl)) m fun qZ A outer s H E ds φ hr hl hT=>?_
  obtain ⟨_,_,hd,_⟩:=hT
  exact absurd hd (Nat.not_lt_zero _)
 | n + 1=>jy T  (u9 T  F m n) F m
theorem u4 (T:Tops mg) (F1:FQ P w K mg base 1 "_law_step" ["_law_run", "_law_at", "_law_kind"] gh) (F2:FQ P w K mg base 2 "_law_begun" ["_law_run", "_law_args", "_law_up", "_law_deep"] Ri) (F3:FQ P w K mg base 1 "_law_ended" ["_law_run", "_law_at", "_law_value"] Rg) (F:Fun K "_law_turning" "_law_turning" (top 29) f fd) (m:mg "_law_turning" = some (.ref f)):∀ n:Nat,FQ P w K mg base (n + 3) "_law_turning" ["_law_run", "_law_tree_here", "_law_up", "_law_deep"] (Vr n)
 | 0=>by
  have S:zn ["_law_run", "_law_tree_here", "_law_up", "_law_deep", "_law_at", "_law_left", "_law_other"] ["_law_run", "_law_tree_here", "_law_up", "_law_deep"] (zb (top 29)):=⟨rfl,rfl,rfl,by decide +kernel,rfl,by decide +kernel,by decide +kernel⟩
  refine Va F S (F.binds fun _ _ _ _ _ _ us hl=>(by obtain ⟨_,_,_,_,rfl⟩:=Ju hl; rfl)) m fun qZ A outer s H E d0 ds φ hr hl hT=>?_
  obtain ⟨_,_,_,_,_,_,_,hd,_⟩:=hT
  exact absurd hd (Nat.not_lt_zero _)
 | n + 1=>jv T F1 F2 F3 (u4 T F1 F2 F3 F m n) F m
theorem uk (T:Tops mg) (F1:FQ P w K mg base 1 "_law_step" ["_law_run", "_law_at", "_law_kind"] gh) (F2:FQ P w K mg base 2 "_law_begun" ["_law_run", "_law_args", "_law_up", "_law_deep"] Ri) (F3:FQ P w K mg base 1 "_law_ended" ["_law_run", "_law_at", "_law_value"] Rg) (F:Fun K "_law_laying" "_law_laying" (top 30) f fd) (m:mg "_law_laying" = some (.ref f)):∀ n:Nat,FQ P w K mg base (n + 3) "_law_laying" ["_law_run", "_law_tree_here", "_law_row", "_law_up", "_law_deep"] (Od n)
 | 0=>by
  have S:zn ["_law_run", "_law_tree_here", "_law_row", "_law_up", "_law_deep", "_law_at", "_law_behind", "_law_value"] ["_law_run", "_law_tree_here", "_law_row", "_law_up", "_law_deep"] (zb (top 30)):=⟨rfl,rfl,rfl,by decide +kernel,rfl,by decide +kernel,by decide +kernel⟩
  refine Va F S (F.binds fun _ _ _ _ _ _ us hl=>(by obtain ⟨_,_,_,_,_,rfl⟩:=Em hl; rfl)) m fun qZ A outer s H E d0 ds φ hr hl hT=>?_
  obtain ⟨_,_,_,_,_,_,_,_,hd,_⟩:=hT
  exact absurd hd (Nat.not_lt_zero _)
 | n + 1=>ba T F1 F2 F3 (uk T F1 F2 F3 F m n) F m
noncomputable def Mx:FT:=fun ds φ=>∃ b v rows steps,ds=[.tup [.bl b,v,.lst rows,.lst steps]] /\ (∀ r ∈ rows,∃ f x,r=rwM f x /\ RO x) /\ (∀ d ∈ steps,∃ n k,d=stp n k) /\ φ (dv (.bl true))
theorem Ta {most:Int} (hm:most <= 300) {f x y l v r:Str} (nd:[f,x,y,l,v,r].Nodup) {t:Tr} (td:t.dep <= 20) (tn:t.nodes <= 40) {φ:EV->Prop} (h:((zy most t .non 1 s0).1.cut=false->(zy most t .non 1 s0).2=t.turned.d)->φ ⟨.new,FdD f (zy most t .non 1 s0).1 (zy most t .non 1 s0).2⟩):qt C RT FzT [.tup [fnT f x l v r],.str f,.lst [t.d],.int most] φ:=by
 have nd2:[x,l,v,r].Nodup:=by simp at nd ⊢; simp_all
 have pv:∀ z:Str,zh (vaD z):=fun z=>⟨trivial,trivial,trivial⟩
 have pc:∀ z:Str,zh (caD f [vaD z]):=fun z=>⟨trivial,trivial,⟨pv z,trivial⟩,trivial⟩
 have pB:zh (bT f x l v r):=⟨trivial,trivial,⟨trivial,⟨trivial,trivial⟩,trivial⟩,trivial,trivial,trivial,⟨trivial,⟨trivial,pc r,pv v,pc l,trivial⟩,trivial⟩,trivial⟩
 obtain ⟨n,s1,hr,hp⟩:=Oi (C:=C) (P:=fun s1:MS=>(s1.cut=true /\ (zy most t .non 1 s0).1.cut=true /\ s1.calls=(zy most t .non 1 s0).1.cs.map (rwM f) /\ s1.steps=(zy most t .non 1 s0).1.st) \/ (s1.cut=false /\ (zy most t .non 1 s0).1.cut=false /\ (zy most t .non 1 s0).2=t.turned.d /\ s1.ready=[t.turned.d] /\ s1.calls=(zy most t .non 1 s0).1.cs.map (rwM f) /\ s1.steps=(zy most t .non 1 s0).1.st)) nd2 hm t s0 [] [] [] rfl (by omega) (by omega) (Nat.le_refl _) (Nat.zero_le _) (Nat.le_refl _) (Nat.le_refl _) trivial (fun c s1 c1 e1 e2=>.inl ⟨c1,c,e1,e2⟩) (fun c e=>wn (.inl rfl) (.inr ⟨rfl,c,e,rfl,rfl,rfl⟩))
 refine ⟨[(f,fnT f x l v r)],f,[t.d],most,.str f,[(x,.str "tree")],.tup [.str "tree", .tup [.int 0,.int 1]],bT f x l v r,s1,n,rfl,by simp,by simp,⟨⟨trivial,⟨⟨trivial,trivial,trivial⟩,trivial⟩,⟨trivial,⟨trivial,trivial,trivial⟩,trivial⟩,pB,trivial⟩,trivial⟩,fun p hp=>(by rw [List.mem_singleton.mp hp]; exact ⟨_,rfl⟩),by simp [rowG]; rfl,trivial,⟨trivial,trivial⟩,⟨trivial,⟨trivial,trivial,trivial⟩,trivial⟩,pB,⟨t.pure,trivial⟩,rfl,by simp,by simp,fun p hp=>(by rw [List.mem_singleton.mp (show p ∈ [(D.str "tree", t.d)] from hp)]; exact .inr ⟨rfl,t,rfl,by omega⟩),hr,?_⟩
 rcases hp with ⟨c1,c,e1,e2⟩ | ⟨c1,c,e,e3,e1,e2⟩
 ·refine .inl ⟨c1,?_⟩
  have:=h fun z=>(by rw [c] at z; cases z)
  rw [R9 _ _ _ _ c] at this
  unfold FdD at this
  rw [c] at this
  rw [e1,e2]
  exact this
 ·refine .inr ⟨c1,_,_,e3,t.turned.pure,?_⟩
  have:=h fun _=>e
  unfold FdD at this
  rw [c,e] at this
  rw [e1,e2]
  exact this
theorem Ra {most:Int} (hm:most <= 300) {f x y l v r:Str} (nd:[f,x,y,l,v,r].Nodup) {t:Tr} {row:List Int} (td:t.dep <= 20) (tn:t.nodes <= 40) (rl:row.length <= 2) {φ:EV->Prop} (h:((layL most t row .non 1 s0).1.cut=false->(layL most t row .non 1 s0).2=t.nums ++ row)->φ ⟨.new,FdD f (layL most t row .non 1 s0).1 (vlL (layL most t row .non 1 s0))⟩):qt C RT FzT [.tup [fnL f x y l v r],.str f,.lst [t.d,rowD row],.int most] φ:=by
 have nd2:[x,y,l,v,r].Nodup:=by simp at nd ⊢; simp_all
 have nxy:x ≠ y:=fun e=>by rw [e] at nd2; simp at nd2
 have pv:∀ z:Str,zh (vaD z):=fun z=>⟨trivial,trivial,trivial⟩
 have pco:zh (coD f r v y):=⟨trivial,pv v,⟨trivial,trivial,⟨pv r,pv y,trivial⟩,trivial⟩,trivial⟩
 have pB:zh (bL f x y l v r):=⟨trivial,trivial,⟨trivial,pv y,trivial⟩,trivial,trivial,trivial,⟨trivial,⟨trivial,trivial,⟨pv l,pco,trivial⟩,trivial⟩,trivial⟩,trivial⟩
 obtain ⟨n,s1,hr,hp⟩:=Ki (C:=C) (P:=fun s1:MS=>(s1.cut=true /\ (layL most t row .non 1 s0).1.cut=true /\ s1.calls=(layL most t row .non 1 s0).1.cs.map (rwM f) /\ s1.steps=(layL most t row .non 1 s0).1.st) \/ (s1.cut=false /\ (layL most t row .non 1 s0).1.cut=false /\ (layL most t row .non 1 s0).2=t.nums ++ row /\ s1.ready=[rowD (t.nums ++ row)] /\ s1.calls=(layL most t row .non 1 s0).1.cs.map (rwM f) /\ s1.steps=(layL most t row .non 1 s0).1.st)) nd2 hm t row s0 [] [] [] rfl (by omega) (by omega) (Nat.le_refl _) (Nat.zero_le _) (Nat.le_refl _) (Nat.le_refl _) trivial (fun c s1 c1 e1 e2=>.inl ⟨c1,c,e1,e2⟩) (fun c e=>wn (.inl rfl) (.inr ⟨rfl,c,e,rfl,rfl,rfl⟩))
 refine ⟨[(f,fnL f x y l v r)],f,[t.d,rowD row],most,.str f,[(x,.str "tree"),(y,.str "list")],.tup [.str "list", .tup [.int 0,.int 1,.int 1]],bL f x y l v r,s1,n,rfl,by simp,by simp,⟨⟨trivial,⟨⟨trivial,trivial,trivial⟩,⟨trivial,trivial,trivial⟩,trivial⟩,⟨trivial,⟨trivial,trivial,trivial,trivial⟩,trivial⟩,pB,trivial⟩,trivial⟩,fun p hp=>(by rw [List.mem_singleton.mp hp]; exact ⟨_,rfl⟩),by simp [rowG]; rfl,trivial,⟨trivial,trivial,trivial⟩,⟨trivial,⟨trivial,trivial,trivial,trivial⟩,trivial⟩,pB,⟨t.pure,yh row,trivial⟩,rfl,by simp,by simp [nxy],fun p hp=>?_,hr,?_⟩
 ·rcases List.mem_cons.mp (show p ∈ [(D.str "tree", t.d),(D.str "list", rowD row)] from hp) with rfl | hp
  ·exact .inr ⟨rfl,t,rfl,by omega⟩
  ·rw [List.mem_singleton.mp hp]
   exact .inl ⟨rfl,row,rfl,by omega⟩
 rcases hp with ⟨c1,c,e1,e2⟩ | ⟨c1,c,e,e3,e1,e2⟩
 ·refine .inl ⟨c1,?_⟩
  have:=h fun z=>(by rw [c] at z; cases z)
  unfold FdD vlL at this
  rw [c] at this
  rw [e1,e2]
  exact this
 ·refine .inr ⟨c1,_,_,e3,yh _,?_⟩
  have:=h fun _=>e
  unfold FdD vlL at this
  rw [c,e] at this
  rw [e1,e2]
  exact this
theorem Yt (T:Tops mg) (F:Fun K "_law_plain" "_law_plain" (top 31) f fd) (m:mg "_law_plain" = some (.ref f)):FD P w K mg base 1 "_law_plain" ["_law_found"] Mx:=by
 have S:zn ["_law_found", "_law_row", "_law_step_here"] ["_law_found"] (zb (top 31)):=⟨rfl,rfl,rfl,by decide +kernel,rfl,by decide +kernel,by decide +kernel⟩
 refine u7 F S (F.binds fun _ _ _ _ _ _ us hl=>(by obtain ⟨_,rfl⟩:=sj hl; rfl)) m fun qZ A outer s H E ds φ hr hl hT=>?_
 have hu:=hr.units
 refine ⟨_,(zl (ym (we (EW.et (uu (wx (yx (yz T.isinstance (z9 (z0 0) (z9 (su T.tuple w8) zc))))) (uu (Vh hu (wf T.len (z9 (z0 0) zc)) za) (t7 (wx (yx (yz T.isinstance (z9 (ze hu (z0 0) za) (z9 (su T.bool vm) zc))))))))) (zx (yf wy)) xi))
   (zl (ym (we (EW.et (uu (wx (yx (yz T.isinstance (z9 (ze hu (z0 0) za) (z9 (su T.list sw) zc))))) (t7 (wx (yx (yz T.isinstance (z9 (ze hu (z0 0) za) (z9 (su T.list sw) zc)))))))) (zx (yf wy)) xi))
   (zl (ym (gm (vv (ze hu (z0 0) za)) (yb (i:=1) S.nd rfl (by walk_at "o")) (w5 1) (zx (we (EW.et (uu (wx (yx (yz T.isinstance (z9 (z0 1) (z9 (su T.tuple w8) zc))))) (uu (Vh hu (wf T.len (z9 (z0 1) zc)) za) (uu (wx (yx (yz T.isinstance (z9 (ze hu (z0 1) za) (z9 (su T.bool vm) zc))))) (t7 (yx (yz T.isinstance (z9 (ze hu (z0 1) za) (z9 (su T.bool vm) zc))))))))) (zx (yf wy)) xi))))
   (zl (ym (gm (vv (ze hu (z0 0) za)) (yb (i:=2) S.nd rfl (by walk_at "o")) (w5 2) (zx (we (EW.et (uu (wx (yx (yz T.isinstance (z9 (z0 2) (z9 (su T.tuple w8) zc))))) (uu (Vh hu (wf T.len (z9 (z0 2) zc)) za) (t7 (yx (yz T.isinstance (z9 (ze hu (z0 2) za) (z9 (su T.bool vm) zc)))))))) (zx (yf wy)) xi))))
   (zx (yf wy)))))),?_⟩
 obtain ⟨b0,v0,rows,steps,rfl,hR,hS,h⟩:=hT
 refine y8 (fun ρ=>ρ=[some (dv (.tup [.bl b0,v0,.lst rows,.lst steps])),none,none]) ?_ ?_
 ·exact qe false (fun ψ hψ=>⟨(fun z=>(by cases z)),fun _=>⟨yp ▸ trivial,yp ▸ trivial,(fun z=>(by cases z)),fun _=>hψ⟩⟩) (fun z=>(by cases z)) (fun _=>rfl)
 rintro _ rfl
 refine y8 (fun ρ=>ρ=[some (dv (.tup [.bl b0,v0,.lst rows,.lst steps])),none,none]) ?_ ?_
 ·exact qe false (fun ψ hψ=>⟨(fun z=>(by cases z)),fun _=>hψ⟩) (fun z=>(by cases z)) (fun _=>rfl)
 rintro _ rfl
 refine y8 (fun ρ=>∃ a b,ρ=[some (dv (.tup [.bl b0,v0,.lst rows,.lst steps])),a,b]) ?_ ?_
 ·refine tz rows (fun ψ hψ=>⟨trivial,hψ⟩) (fun i ρ=>∃ a b,ρ=[some (dv (.tup [.bl b0,v0,.lst rows,.lst steps])),a,b]) ⟨none,none,rfl⟩ ?_ (fun _ q=>q)
  rintro i d _ hd ⟨a',b',rfl⟩
  obtain ⟨f,⟨ra,rup,rd,rv⟩,rfl,_,hup,_⟩:=hR d (List.mem_of_getElem? hd)
  refine Ny (qe false (fun ψ hψ=>⟨(fun z=>(by cases z)),fun _=>⟨yp ▸ trivial,yp ▸ trivial,(fun z=>(by cases z)),fun _=>⟨(fun z=>(by cases z)),fun _=>?_⟩⟩⟩) (fun z=>(by cases z)) (fun _=>Rr ⟨_,_,rfl⟩))
  rcases hup with e | ⟨n,e⟩ <;> (cases e; exact hψ)
 rintro _ ⟨a,b,rfl⟩
 refine y8 (fun ρ=>∃ a b,ρ=[some (dv (.tup [.bl b0,v0,.lst rows,.lst steps])),a,b]) ?_ ?_
 ·refine tz steps (fun ψ hψ=>⟨trivial,hψ⟩) (fun i ρ=>∃ a b,ρ=[some (dv (.tup [.bl b0,v0,.lst rows,.lst steps])),a,b]) ⟨_,_,rfl⟩ ?_ (fun _ q=>q)
  rintro i d _ hd ⟨a',b',rfl⟩
  obtain ⟨n,k,rfl⟩:=hS d (List.mem_of_getElem? hd)
  exact Ny (qe false (fun ψ hψ=>⟨(fun z=>(by cases z)),fun _=>⟨yp ▸ trivial,yp ▸ trivial,(fun z=>(by cases z)),fun _=>hψ⟩⟩) (fun z=>(by cases z)) (fun _=>Rr ⟨_,_,rfl⟩))
 rintro _ ⟨a,b,rfl⟩
 exact ⟨trivial,h⟩
theorem tw:∀ t:Tr,t.turned.dep=t.dep
 | .lf=>rfl
 | .nd l v r=>by
  show 1 + max r.turned.dep l.turned.dep=1 + max l.dep r.dep
  rw [tw l,tw r,Nat.max_comm]
noncomputable def pk (f:Str):D->Option D
 | .lst [a,b,c,e]=>some (.tup [.str f,a,b,c,e])
 | _=>none
theorem Ld (f:Str):∀ cs:List Rw,(cs.map rwL).filterMap (pk f)=cs.map (rwM f)
 | []=>rfl
 | r :: cs=>by
  rw [List.map_cons,List.filterMap_cons_some (show pk f (rwL r)=some (rwM f r) from rfl),Ld f cs]
  rfl
theorem Ht {a b:D} {w:Nat} (hw:w <= 1):cutD [a,b] none (some (1 + (w:Int)))=if w=0 then [a] else [a,b]:=by
 rcases (show w=0 \/ w=1 by omega) with rfl | rfl <;> rfl
theorem Ec (T:Tops mg) (Cw:FD P w K mg base 1 "_law_cell_at" ["_law_script", "_law_k"] Oh) (Bc:FD P w K mg base 1 "_law_number" ["_law_cell"] K9) (A9:FD P w K mg base 1 "_law_names" ["_law_cell", "_law_many"] Mz) (Ag:FD P w K mg base 2 "_law_tree" ["_law_cells"] Mu) (Bp:FD P w K mg base 1 "_law_program" ["_law_way", "_law_names_here"] Gf) (B8:FD P w K mg base 22 "_law_turned" ["_law_tree_here"] (d6 21)) (B4:FD P w K mg base 22 "_law_numbers" ["_law_tree_here"] (Ob 21)) (B7:FQ P w K mg base 24 "_law_turning" ["_law_run", "_law_tree_here", "_law_up", "_law_deep"] (Vr 21)) (B9:FQ P w K mg base 24 "_law_laying" ["_law_run", "_law_tree_here", "_law_row", "_law_up", "_law_deep"] (Od 21)) (Aa:FD P w K mg base 1 "_law_plain" ["_law_found"] Mx) (Aq:FD P w K mg base 10 "trace" ["program", "name", "args", "most"] (qt C RT FzT)) (F:Fun K "law" "law" (top 32) f fd):FnOk P w K mg base CX0 30 f fd ["_law_script"] (spD K 1 lawT):=by
 have S:zn ["_law_script", "_law_way", "_law_names_here", "_law_tree_here", "_law_row", "_law_most", "_law_run", "_law_args", "_law_value", "_law_due", "_law_handed", "_law_found", "_law_calls"] ["_law_script"] (zb (top 32)):=⟨rfl,rfl,rfl,by decide +kernel,rfl,by decide +kernel,by decide +kernel⟩
 refine P6 F S fun qZ A outer s H E ds φ hr hl hT=>?_
 have hu:=hr.units
 refine ⟨_,(zl (ym (x8 1 S.nd (vj (ya Cw (hr.mono (by decide)) (z9 (z0 0) (z9 za zc))) za)))
   (zl (ym (x8 2 S.nd (ya A9 (hr.mono (by decide)) (z9 (ya Cw (hr.mono (by decide)) (z9 (z0 0) (z9 za zc))) (z9 za zc)))))
   (zl (ym (x8 3 S.nd (ya Ag (hr.mono (by decide)) (z9 (xo (z0 0) (xa za) (xa za)) zc))))
   (zl (ym (x8 4 S.nd (jb T.tuple (z9 (Mf (T:=["_law_cell"]) (F:=[]) (js:=[]) (vv (xo (z0 0) (xa za) (xa (vk za (vj (Pk (ya Cw (hr.mono (by decide)) (z9 (z0 0) (z9 za zc))) za) za))))) (show y9 (zb (top 32)) _ ["_law_cell"] [] from ⟨rfl,by decide +kernel,by decide +kernel,by decide +kernel,by decide +kernel,by decide +kernel⟩) .nil (by decide) (fun cl C fp s H=>(yb (i:=0) (show ((["_law_cell"]:List Str) ++ ([]:List Str)).Nodup by decide +kernel) rfl (by walk_at "o"))) (w6 (by decide)) (w5 0) (fun cl C fp s H=>va) (fun cl C fp s H=>(ya Bc (hr.mono (by decide)) (z9 (z0 0) zc)))) zc))))
   (zl (ym (x8 5 S.nd za))
   (zl (ym (we (xu hu (vj (ya Cw (hr.mono (by decide)) (z9 (z0 0) (z9 za zc))) za) za) (zx (x8 5 S.nd (vj (Pk (ya Cw (hr.mono (by decide)) (z9 (z0 0) (z9 za zc))) za) za))) xi))
   (Kg 6 S.nd (z0 5)
   (y4 (qz 7 (by decide) S.nd (xo (ua (z9 (z0 3) (z9 (z0 4) zc))) ss (xa (vk za (z0 1))))))
   (y4 (xb (xm (xu hu (z0 1) za)) (zo (xt 8 (by decide) S.nd (xk B7 (hr.mono (by omega)) (zd (z0 3) (zd yy (zd za y3)))))
    (zj (qz 9 (by decide) S.nd (ya B8 (hr.mono (by decide)) (z9 (z0 3) zc))))) (zo (xt 8 (by decide) S.nd (xk B9 (hr.mono (by omega)) (zd (z0 3) (zd (z0 4) (zd yy (zd za y3))))))
    (zj (qz 9 (by decide) S.nd (jd (ya B4 (hr.mono (by decide)) (z9 (z0 3) zc)) (z0 4)))))))
   (zl (ym (x8 10 S.nd (Uv T.list (z9 (z0 7) zc))))
   (zl (ym (x8 11 S.nd (ya Aq (hr.mono (by decide)) (z9 (ya Bp (hr.mono (by decide)) (z9 (z0 1) (z9 (z0 2) zc))) (z9 (ze hu (z0 2) za) (z9 (z0 10) (z9 (z0 5) zc)))))))
   (zl (ym (we (EW.et (uu (wx (yx (ya Aa (hr.mono (by decide)) (z9 (z0 11) zc)))) (uu (Vh hu (z0 10) (z0 7)) (t7 (xu hu (ze hu (z0 11) za) (ze hu (z0 6) za)))))) (zx (yf wy)) xi))
   (zl (ym (tx (T:=["_law_part"]) (F:=["_law_names_here"]) (js:=[2]) 12 S.nd (vv (ze hu (z0 6) za)) (show y9 (zb (top 32)) _ ["_law_part"] ["_law_names_here"] from ⟨rfl,by decide +kernel,by decide +kernel,by decide +kernel,by decide +kernel,by decide +kernel⟩) (.cons rfl .nil) (by decide) (fun cl C fp s H=>(yb (i:=0) (show ((["_law_part"]:List Str) ++ (["_law_names_here"]:List Str)).Nodup by decide +kernel) rfl (by walk_at "o"))) (w6 (by decide)) (w5 0) (fun cl C fp s H=>va) (fun cl C fp s H=>(zp (z9 (ze hu (z0 1) za) (z9 (ze hu (z0 0) za) (z9 (ze hu (z0 0) za) (z9 (ze hu (z0 0) za) (z9 (ze hu (z0 0) za) zc)))))))))
   (zl (ym (U1 12 (we (Vh hu (z0 11) (zp (z9 (Lu (ze hu (z0 6) za)) (z9 (z0 8) (z9 (z0 12) (z9 (ze hu (z0 6) za) zc)))))) (zx (yf wy)) xi)))
   (zx (yf (Cp (ze hu (z0 6) za) (Ph (Cq hu (ze hu (z0 11) za) (z0 9)))))))))))))))))),?_⟩
 obtain ⟨ns,rfl,hl1,h⟩:=hT
 have f9:∀ (x:Int) (y:Int),y ≠ 0->y.natAbs <= 1000->FdOk x y:=fun x y a b=>of_eq_true (Pa a (by omega))
 have wb:=uj (ns.getD 0 0) 2 (by decide)
 obtain ⟨w,ew⟩:∃ w:Nat,(ns.getD 0 0).fmod 2=(w:Int):=⟨((ns.getD 0 0).fmod 2).toNat,by omega⟩
 have hw:w <= 1:=by omega
 clear wb
 refine y8 (fun ρ=>ρ=[some (dv (.scr ns)),some (dv (.int (w:Nat))),none,none,none,none,none,none,none,none,none,none,none]) ?_ ?_
 ·refine ⟨rfl,by decide,(show (2:Int) ≠ 0 by decide),trivial,?_⟩
  show setS _ 1 (dv (.int ((ns.getD 0 0).fmod 2)))=_
  rw [ew]
  rfl
 rintro _ rfl
 clear ew
 refine y8 (fun ρ=>∃ f x y l v r:Str,[f,x,y,l,v,r].Nodup /\ ρ=[some (dv (.scr ns)),some (dv (.int (w:Nat))),some (dO (.lst [.str f,.str x,.str y,.str l,.str v,.str r])),none,none,none,none,none,none,none,none,none,none]) ?_ ?_
 ·refine ⟨rfl,by decide,rfl,ns.getD 1 0,6,rfl,by decide,fun zs l nd=>⟨trivial,?_⟩⟩
  match zs,l,nd with
  | [a,b,c,d,e,g],_,nd=>exact ⟨a,b,c,d,e,g,nd,rfl⟩
 rintro _ ⟨f,x,y,l,v,r,nd,rfl⟩
 refine y8 (fun ρ=>∃ t:Tr,t.dep <= 20 /\ t.nodes <= 40 /\ ρ=[some (dv (.scr ns)),some (dv (.int (w:Nat))),some (dO (.lst [.str f,.str x,.str y,.str l,.str v,.str r])),some (dv t.d),none,none,none,none,none,none,none,none,none]) ?_ ?_
 ·refine ⟨rfl,(ns.drop 3).take 20,?_,by rw [List.length_take]; omega,fun t h1 h2=>⟨trivial,t,h1,h2,rfl⟩⟩
  show [D.lst (cutD (ns.map D.int) (some 3) (some 23))]=_
  rw [show cutD (ns.map D.int) (some 3) (some 23)=((ns.map D.int).drop 3).take (23 - 3) from Uy _ 3 23,List.map_take,List.map_drop]
 rintro _ ⟨t,td,tn,rfl⟩
 refine y8 (fun ρ=>∃ row:List Int,row.length <= 2 /\ ρ=[some (dv (.scr ns)),some (dv (.int (w:Nat))),some (dO (.lst [.str f,.str x,.str y,.str l,.str v,.str r])),some (dv t.d),some (dv (rowD row)),none,none,none,none,none,none,none,none]) ?_ ?_
 ·have rb:=uj ((ns.getD 0 0).fdiv 2) 3 (by decide)
  obtain ⟨q,eq⟩:∃ q:Nat,((ns.getD 0 0).fdiv 2).fmod 3=(q:Int):=⟨(((ns.getD 0 0).fdiv 2).fmod 3).toNat,by omega⟩
  have hq:q <= 2:=by omega
  have e1:(cutD (ns.map D.int) (some 1) (some (1 + ((ns.getD 0 0).fdiv 2).fmod 3)))=((ns.map D.int).drop 1).take q:=by
   rw [eq,show (1 + (q:Int))=((1 + q:Nat):Int) by omega]
   rw [show cutD (ns.map D.int) (some 1) (some ((1 + q:Nat):Int))=((ns.map D.int).drop 1).take (1 + q - 1) from Uy _ 1 _,show 1 + q - 1=q by omega]
  refine Rp (Mh (Pp (((ns.map D.int).drop 1).take q) (fun ψ hψ=>?_) (fun i es=>∃ zs:List Int,es=zs.map D.int /\ zs.length <= i) (by rw [List.length_take]; omega) ⟨[],rfl,Nat.le_refl _⟩ ?_ ?_))
  ·refine ⟨rfl,by decide,f9 _ _ (by decide) (by decide),(show (3:Int) ≠ 0 by decide),?_⟩
   show True /\ ψ (cutD (ns.map D.int) (some 1) (some (1 + ((ns.getD 0 0).fdiv 2).fmod 3)))
   rw [e1]
   exact ⟨trivial,hψ⟩
  ·rintro i d _ hd _ ⟨zs,rfl,lz⟩
   obtain ⟨z,_,rfl⟩:=List.mem_map.mp (List.mem_of_mem_drop (List.mem_of_mem_take (List.mem_of_getElem? hd)))
   exact Ny ⟨fun _=>⟨rfl,_,rfl,fun n=>⟨trivial,zs ++ [n],by rw [zMa]; rfl,by rw [zLa]; show _ + 1 <= _; omega⟩⟩,(fun z=>(by cases z))⟩
  ·rintro _ ⟨zs,rfl,lz⟩
   rw [List.length_take] at lz
   exact ⟨trivial,zs,by omega,rfl⟩
 rintro _ ⟨row,rl,rfl⟩
 refine y8 (fun ρ=>ρ=[some (dv (.scr ns)),some (dv (.int (w:Nat))),some (dO (.lst [.str f,.str x,.str y,.str l,.str v,.str r])),some (dv t.d),some (dv (rowD row)),some (dv (.int 300)),none,none,none,none,none,none,none]) ⟨trivial,rfl⟩ ?_
 rintro _ rfl
 refine y8 (fun ρ=>∃ most:Int,0 <= most /\ most <= 300 /\ ρ=[some (dv (.scr ns)),some (dv (.int (w:Nat))),some (dO (.lst [.str f,.str x,.str y,.str l,.str v,.str r])),some (dv t.d),some (dv (rowD row)),some (dv (.int most)),none,none,none,none,none,none,none]) ?_ ?_
 ·refine ⟨rfl,by decide,(show (2:Int) ≠ 0 by decide),yp ▸ trivial,yp ▸ trivial,fun _=>?_,fun _=>⟨300,by decide,by decide,rfl⟩⟩
  have mb:=uj ((ns.getD 2 0).fdiv 2) 101 (by decide)
  exact ⟨rfl,by decide,f9 _ _ (by decide) (by decide),(show (101:Int) ≠ 0 by decide),trivial,_,mb.1,by omega,rfl⟩
 rintro _ ⟨most,m0,m3,rfl⟩
 refine ⟨by simp,trivial,fun ρ=>ρ=[some (dv (.scr ns)),some (dv (.int (w:Nat))),some (dO (.lst [.str f,.str x,.str y,.str l,.str v,.str r])),some (dv t.d),some (dv (rowD row)),some (dv (.int most)),some (dv (lsD most s0)),some (dO (.lst (if w=0 then [t.d] else [t.d,rowD row]))),none,none,none,none,none],⟨rfl,rfl,trivial,?_⟩,?_⟩
 ·show setS _ 7 (dO (.lst (cutD [t.d,rowD row] none (some (1 + (w:Int))))))=_
  rw [Ht hw]
  rfl
 rintro _ rfl
 refine ⟨fun ρ=>∃ (s:LS) (val due:D) (as:List D),SO s /\ okD 38 val /\ okD 38 due /\ okD 40 (.lst as) /\ s.cs.length <= 301 /\ (∀ φ:EV->Prop,((s.cut=false->val=due)->φ ⟨.new,FdD f s val⟩)->qt C RT FzT [.tup [if w=0 then fnT f x l v r else fnL f x y l v r],.str f,.lst as,.int most] φ) /\ ρ=[some (dv (.scr ns)),some (dv (.int (w:Nat))),some (dO (.lst [.str f,.str x,.str y,.str l,.str v,.str r])),some (dv t.d),some (dv (rowD row)),some (dv (.int most)),some (dv (lsD most s)),some (dO (.lst as)),some (dv val),some (dv due),none,none,none],?_,?_⟩
 ·rcases (show w=0 \/ w=1 by omega) with rfl | rfl
  ·refine ⟨yp ▸ trivial,yp ▸ trivial,fun _=>?_,(fun z=>(by cases z))⟩
   have so:=Xf (m:=most) 20 t .non 1 s0 (by omega) td so_0 (.inl rfl)
   have kp:=uo (m:=most) t .non 1 s0 rfl
   have k1:=kp.cl
   have k2:=kp.le
   refine ⟨trivial,trivial,trivial,rfl,most,s0,t,.non,1,rfl,rfl,by omega,rfl,Nat.le_refl _,Nat.zero_le _,m3,trivial,?_⟩
   refine ⟨rfl,t,rfl,by omega,trivial,_,_,_,_,so.1,ka so.2 (by omega),t.turned.ok 37 (by rw [tw]; omega),?_,?_,fun φ h=>Ta m3 nd td tn h,rfl⟩
   ·show ∀ x ∈ [t.d],okD 39 x
    intro x hx
    rw [List.mem_singleton.mp hx]
    exact N8 td (by omega)
   ·have z1:s0.cs.length=0:=rfl
    have z2:s0.st.length=0:=rfl
    omega
  ·refine ⟨yp ▸ trivial,yp ▸ trivial,(fun z=>(by cases z)),fun _=>?_⟩
   have so:=Rm (m:=most) t row .non 1 s0 (by omega) so_0 (.inl rfl)
   have kp:=kq (m:=most) t row .non 1 s0 rfl
   have k1:=kp.cl
   have k2:=kp.le
   refine ⟨trivial,trivial,trivial,trivial,rfl,most,s0,t,row,.non,1,rfl,rfl,by omega,by omega,rfl,Nat.le_refl _,Nat.zero_le _,m3,trivial,?_⟩
   have fin:∀ due,due=rowD (t.nums ++ row)->∃ (s:LS) (val due':D) (as:List D),SO s /\ okD 38 val /\ okD 38 due' /\ okD 40 (.lst as) /\ s.cs.length <= 301 /\ (∀ φ:EV->Prop,((s.cut=false->val=due')->φ ⟨.new,FdD f s val⟩)->qt C RT FzT [.tup [if 1=0 then fnT f x l v r else fnL f x y l v r],.str f,.lst as,.int most] φ) /\ [some (dv (.scr ns)),some (dv (.int (1:Nat))),some (dO (.lst [.str f,.str x,.str y,.str l,.str v,.str r])),some (dv t.d),some (dv (rowD row)),some (dv (.int most)),some (dv (lsD most (layL most t row .non 1 s0).1)),some (dO (.lst [t.d,rowD row])),some (dv (vlL (layL most t row .non 1 s0))),some (dv due),none,none,none]=[some (dv (.scr ns)),some (dv (.int (1:Nat))),some (dO (.lst [.str f,.str x,.str y,.str l,.str v,.str r])),some (dv t.d),some (dv (rowD row)),some (dv (.int most)),some (dv (lsD most s)),some (dO (.lst as)),some (dv val),some (dv due'),none,none,none]:=fun due e=>by
    subst e
    refine ⟨_,_,_,_,so,?_,k9 _,?_,?_,fun φ h=>Ra m3 nd td tn rl fun e=>h fun c=>?_,rfl⟩
    ·unfold vlL
     split
     ·exact okN
     ·exact k9 _
    ·show ∀ x ∈ [t.d,rowD row],okD 39 x
     intro x hx
     rcases List.mem_cons.mp hx with rfl | hx
     ·exact N8 td (by omega)
     ·rw [List.mem_singleton.mp hx]; exact k9 _
    ·have z1:s0.cs.length=0:=rfl
     have z2:s0.st.length=0:=rfl
     omega
    ·unfold vlL
     rw [c,e c]
     rfl
   refine ⟨rfl,t,rfl,by omega,by omega,fun k hk=>⟨?_,?_⟩⟩
   ·rcases hk with rfl | rfl
    ·exact yh _
    ·trivial
   ·have ln:=t.nums_len
    exact ⟨yh row,by rw [sizeLine_eq,zLm,zLm]; omega,trivial,fin _ (by unfold rowD; rw [zMa])⟩
 rintro _ ⟨s,val,due,as,so,ov,od,oa,lc,tr,rfl⟩
 refine y8 (fun ρ=>ρ=[some (dv (.scr ns)),some (dv (.int (w:Nat))),some (dO (.lst [.str f,.str x,.str y,.str l,.str v,.str r])),some (dv t.d),some (dv (rowD row)),some (dv (.int most)),some (dv (lsD most s)),some (dO (.lst as)),some (dv val),some (dv due),some (dO (.lst as)),none,none]) ?_ ?_
 ·exact ⟨trivial,rfl⟩
 rintro _ rfl
 refine y8 (fun ρ=>(s.cut=false->val=due) /\ ρ=[some (dv (.scr ns)),some (dv (.int (w:Nat))),some (dO (.lst [.str f,.str x,.str y,.str l,.str v,.str r])),some (dv t.d),some (dv (rowD row)),some (dv (.int most)),some (dv (lsD most s)),some (dO (.lst as)),some (dv val),some (dv due),some (dO (.lst as)),some (dv (FdD f s val)),none]) ?_ ?_
 ·exact ⟨rfl,w,f,x,y,l,v,r,rfl,hw,rfl,tr _ fun e=>⟨trivial,e,rfl⟩⟩
 rintro _ ⟨ed,rfl⟩
 refine y8 (fun ρ=>ρ=[some (dv (.scr ns)),some (dv (.int (w:Nat))),some (dO (.lst [.str f,.str x,.str y,.str l,.str v,.str r])),some (dv t.d),some (dv (rowD row)),some (dv (.int most)),some (dv (lsD most s)),some (dO (.lst as)),some (dv val),some (dv due),some (dO (.lst as)),some (dv (FdD f s val)),none]) ?_ ?_
 ·refine qe false (fun ψ hψ=>K1 (fun ψ hψ=>Hu (Mj [dv (FdD f s val)] (fun ψ hψ=>hψ) rfl ⟨_,_,_,_,rfl,fun d hd=>?_,so.2,hψ⟩)) (fun ψ hψ=>K1 (fun ψ hψ=>L5 (Do (dO (.lst as)) (dO (.lst as)) (fun ψ hψ=>hψ) (fun ψ hψ=>hψ) (L8 oa (qo 40 _ oa) hψ))) (fun ψ hψ=>⟨Zh ▸ trivial,Zh ▸ trivial,?_⟩) hψ) hψ) (fun z=>(by cases z)) (fun _=>rfl)
  ·obtain ⟨q,hq,rfl⟩:=List.mem_map.mp hd
   exact ⟨f,q,rfl,so.1 q hq⟩
  ·show ψ (eqD (.bl (!s.cut)) (.bl s.cut))
   rw [Ls]
   cases s.cut <;> exact hψ
 rintro _ rfl
 refine y8 (fun ρ=>ρ=[some (dv (.scr ns)),some (dv (.int (w:Nat))),some (dO (.lst [.str f,.str x,.str y,.str l,.str v,.str r])),some (dv t.d),some (dv (rowD row)),some (dv (.int most)),some (dv (lsD most s)),some (dO (.lst as)),some (dv val),some (dv due),some (dO (.lst as)),some (dv (FdD f s val)),some (dO (.lst (s.cs.map (rwM f))))]) ?_ ?_
 ·refine Rp (wo (s.cs.map rwL) (fun ψ hψ=>⟨trivial,hψ⟩) (pk f) (by rw [zLm]; omega) (fun d hd=>?_) ?_)
  ·obtain ⟨q,hq,rfl⟩:=List.mem_map.mp hd
   exact Ny ⟨fun _=>⟨rfl,rfl,trivial,rfl⟩,(fun z=>(by cases z))⟩
  ·rw [Ld]
   exact ⟨trivial,rfl⟩
 rintro _ rfl
 have okF:=Cd (f:=f) so ov
 refine y8 (fun ρ=>ρ=[some (dv (.scr ns)),some (dv (.int (w:Nat))),some (dO (.lst [.str f,.str x,.str y,.str l,.str v,.str r])),some (dv t.d),some (dv (rowD row)),some (dv (.int most)),some (dv (lsD most s)),some (dO (.lst as)),some (dv val),some (dv due),some (dO (.lst as)),some (dv (FdD f s val)),some (dv (.lst (s.cs.map (rwM f))))]) ?_ ?_
 ·refine Rt (qe false (fun ψ hψ=>L5 (Do (dv (FdD f s val)) (dv (FdD f s val)) (fun ψ hψ=>hψ) (fun ψ hψ=>⟨rfl,rfl,hψ⟩) (L8 okF (qo 40 _ okF) hψ))) (fun z=>(by cases z)) (fun _=>rfl))
 rintro _ rfl
 refine Km ?_
 obtain ⟨cs,st,cut⟩:=s
 cases cut with
 | true=>exact ⟨fun _=>⟨trivial,h⟩,(fun z=>(by cases z))⟩
 | false =>
  refine ⟨(fun z=>(by cases z)),fun _=>⟨ka ov (by omega),ka od (by omega),?_⟩⟩
  show True /\ φ (dv (.bl (eqD val due)))
  rw [ed rfl,qo 38 _ od]
  exact ⟨trivial,h⟩
end
section
open PySem.W PySem.PyData
theorem hl1:LeftO PySem.Challenge.pw_toll_k13_trees_walked zq ["trace"] zX (Hook.obs (kHook zK zA zAK)) (Hook.val (kHook zK zA zAK)) 4380:=by
 intro w; rw [Fast.te4187177175401517315,Fast.te5923862056798008813,Fast.te14364793385576792824]; exact hl0 w
theorem said:PySem.Challenge.rw_toll_k13_trees_walked.wellSaid=true:=by kernel_rfl
noncomputable def zD:DefRec:=match top 32 with | .FunctionDef n a b _ _ _ c _ _ p=>⟨n,a,b,c,p⟩ | _=>⟨"", ⟨[],[],none,[],[],none,[]⟩,[],⟨.function,[],false,false,[]⟩,⟨0,0,0,0⟩⟩
theorem opened (hc:WalkO zq ["trace"] (XL zq []) (Hook.says (kHook zK zA zAK)) PySem.Challenge.rw_toll_k13_trees_walked.row.toRowW zD [] (fun f vs=>PySem.call f vs)):PySem.Challenge.rw_toll_k13_trees_walked.Holds:=by
 refine holds_law said fun sd=>holds_open (q:=zq) (loose:=["trace"]) (Xt:=zX) (XP:=XL zq []) (d:=zD) (kwd:=[]) (Yf:=Hook.obs (kHook zK zA zAK)) (Ya:=Hook.val (kHook zK zA zAK)) (YP:=Hook.says (kHook zK zA zAK)) (N:=4380) hl1 (Hook.of (kHook zK zA zAK)) (Hook.keeps (kHook zK zA zAK)) (fun s e=>xl_of s (Bool.and_eq_true_iff.mp e).1) XL.keeps (by kernel_rfl) (by kernel_rfl) (by kernel_rfl) (fun s e=>recFacts_of (Bool.and_eq_true_iff.mp e).2) (by kernel_rfl) sd (by kernel_rfl) ⟨rfl,rfl,rfl,rfl,rfl,by decide +kernel⟩ ?hw hc
 case hw=>w_witness2
end
section
variable {P:Program} {w:World} {K:W.Frag} {mg:Str->Option Value} {base:Heap} {f C:Addr} {fd:FuncData} {R:Str->D->Int->Prop} {Fz:D->D->Prop}
theorem jz (T:Tops mg) (F:Fun K "_law_cell_at" "_law_cell_at" (top 19) f fd) (m:mg "_law_cell_at" = some (.ref f)):FD P w K mg base 1 "_law_cell_at" ["_law_script", "_law_k"] Oh:=by
 have S:zn ["_law_script", "_law_k"] ["_law_script", "_law_k"] (zb (top 19)):=⟨rfl,rfl,rfl,by decide +kernel,rfl,by decide +kernel,by decide +kernel⟩
 refine u7 F S (F.binds fun _ _ _ _ _ _ us hl=>(by obtain ⟨_,_,rfl⟩:=ur hl; rfl)) m fun qZ A outer s H E ds φ hr hl hT=>?_
 have hu:=hr.units
 refine ⟨_,(zl (we (Hl (z0 1) (wf T.len (z9 (z0 0) zc))) (zx (yf (ze hu (z0 0) (z0 1)))) xi)
   (zx (yf za))),?_⟩
 obtain ⟨ns,k,rfl,h⟩:=Og hT
 walk_at "dl"
 refine ⟨fun hk=>?_,fun hk=>?_⟩
 ·have hk':k < ns.length:=by omega
  rw [rm (x:=ns[k]) (by omega) (by simp [hk'])]
  rw [show ns.getD k 0=ns[k] by simp [List.getD,hk']] at h
  exact h
 ·have hk':ns.length <= k:=by omega
  rw [show ns.getD k 0=0 by simp [List.getD,hk']] at h
  exact h
noncomputable abbrev NsA (K:W.Frag) (x:Str) (f:Addr):Prop:=W.nsIn K mainGlobals x=some (some (.ref f))
noncomputable abbrev NnA (K:W.Frag) (x:Str):Prop:=W.nsIn K mainGlobals x=some none
noncomputable abbrev FdA (K:W.Frag) (C:Addr) (x:Str) (f:Addr):Prop:=W.findIn K (.ref C) x=some (some (.ref f))
noncomputable def FnA (K:W.Frag) (x q:Str) (st:Stmt) (f:Addr):Prop:=(∃ fd,Fun K x q st f fd) /\ W.keepIn K (.ref f)=true
theorem fna_mk {K:W.Frag} {x q:Str} {st:Stmt} {f:Addr} {od an:Option Addr} {sl:Array (Option Value)} {oc kV dc pm cd ct:Value} (l:K.lookup f=some ⟨oc,od,.func (W.fnOf x q (wk st) (yc st) (zb st) .none kV dc pm an cd ct),sl⟩) (c:W.codeIn K cd q=true) (k:W.keepIn K (.ref f)=true):FnA K x q st f:=⟨⟨_,Lo l c k⟩,k⟩
theorem all_mk {l:W.OpenLaw} {w:World} {K:W.Frag} {h:Heap} {mg:Str->Option Value} {fa:Addr} (X:K.In h) (G:h.Ns mainGlobals mg) (hfa:mg "law" = some (.ref fa)) {f1 f2 f3 f4 f5 f6 f7 f8 f9 f10 f11 f12 f13 f14 f15 f16 f17 f18 f19 f20 f21 g0 g1 g2 g3 g4 g5 g6 g7 g8 g9 g10 g11 g12 g13 g14 g15 g16 g17:Addr} {od21 an21:Option Addr} {sl21:Array (Option Value)} {oc21 kV21 dc21 pm21 cd21 ct21:Value} {ft Tt:Addr} {nT:Nat} {tk:Tok} {odt ant:Option Addr} {slt slT:Array (Option Value)} {oct kVt dct pmt cdt ctt:Value} {C:Addr} {tq tr:Tok} (a1:NsA K "is_whole" f1) (l1:FnA K "is_whole" "is_whole" (top 5) f1) (a2:NsA K "is_tree" f2) (l2:FnA K "is_tree" "is_tree" (top 9) f2) (a3:NsA K "fits" f3) (l3:FnA K "fits" "fits" (top 8) f3) (a4:NsA K "nodes_of" f4) (l4:FnA K "nodes_of" "nodes_of" (top 11) f4) (a5:NsA K "size_of" f5) (l5:FnA K "size_of" "size_of" (top 10) f5) (a6:NsA K "function_of" f6) (l6:FnA K "function_of" "function_of" (top 6) f6) (a7:NsA K "check_args" f7) (l7:FnA K "check_args" "check_args" (top 16) f7) (a8:NsA K "_law_cell_at" f8) (l8:FnA K "_law_cell_at" "_law_cell_at" (top 19) f8) (a9:NsA K "_law_number" f9) (l9:FnA K "_law_number" "_law_number" (top 20) f9) (a10:NsA K "_law_names" f10) (l10:FnA K "_law_names" "_law_names" (top 21) f10) (a11:NsA K "_law_tree" f11) (l11:FnA K "_law_tree" "_law_tree" (top 22) f11) (a12:NsA K "_law_program" f12) (l12:FnA K "_law_program" "_law_program" (top 23) f12) (a13:NsA K "_law_turned" f13) (l13:FnA K "_law_turned" "_law_turned" (top 24) f13) (a14:NsA K "_law_numbers" f14) (l14:FnA K "_law_numbers" "_law_numbers" (top 25) f14) (a15:NsA K "_law_step" f15) (l15:FnA K "_law_step" "_law_step" (top 26) f15) (a16:NsA K "_law_begun" f16) (l16:FnA K "_law_begun" "_law_begun" (top 27) f16) (a17:NsA K "_law_ended" f17) (l17:FnA K "_law_ended" "_law_ended" (top 28) f17) (a18:NsA K "_law_turning" f18) (l18:FnA K "_law_turning" "_law_turning" (top 29) f18) (a19:NsA K "_law_laying" f19) (l19:FnA K "_law_laying" "_law_laying" (top 30) f19) (a20:NsA K "_law_plain" f20) (l20:FnA K "_law_plain" "_law_plain" (top 31) f20)
  (a21:W.nsIn K mainGlobals "law" = some (some (.ref f21))) (l21:K.lookup f21=some ⟨oc21,od21,.func (W.fnOf "law" "law" (wk (top 32)) (yc (top 32)) (zb (top 32)) .none kV21 dc21 pm21 an21 cd21 ct21),sl21⟩) (c21:W.codeIn K cd21 "law" = true) (k21:W.keepIn K (.ref f21)=true)
  (at_:W.nsIn K mainGlobals "trace" = some (some (.ref ft))) (lt:K.lookup ft=some ⟨oct,odt,.func (W.fnOf "trace" "trace" (wk (top 15)) (yc (top 15)) (zb (top 15)) (.ref Tt) kVt dct pmt ant cdt ctt),slt⟩) (ct_:W.codeIn K cdt "trace" = true) (kt:W.keepIn K (.ref ft)=true) (lT:K.lookup Tt=some ⟨.type "tuple", none,.seq #[.int 1000 tk] nT,slT⟩)
  (aC:W.nsIn K mainGlobals "Run" = some (some (.ref C))) (b0:FdA K C "__init__" g0) (i0:W.isFn K (.ref g0)=true) (m0:FnA K "__init__" "Run.__init__" (mth 0) g0) (b1:FdA K C "told" g1) (i1:W.isFn K (.ref g1)=true) (m1:FnA K "told" "Run.told" (mth 1) g1) (b2:FdA K C "go" g2) (i2:W.isFn K (.ref g2)=true) (m2:FnA K "go" "Run.go" (mth 2) g2) (b3:FdA K C "step" g3) (i3:W.isFn K (.ref g3)=true) (m3:FnA K "step" "Run.step" (mth 3) g3) (b4:FdA K C "own_step" g4) (i4:W.isFn K (.ref g4)=true) (m4:FnA K "own_step" "Run.own_step" (mth 4) g4) (b5:FdA K C "standing" g5) (i5:W.isFn K (.ref g5)=true) (m5:FnA K "standing" "Run.standing" (mth 5) g5) (b6:FdA K C "stand" g6) (i6:W.isFn K (.ref g6)=true) (m6:FnA K "stand" "Run.stand" (mth 6) g6) (b7:FdA K C "taken" g7) (i7:W.isFn K (.ref g7)=true) (m7:FnA K "taken" "Run.taken" (mth 7) g7) (b8:FdA K C "behind" g8) (i8:W.isFn K (.ref g8)=true) (m8:FnA K "behind" "Run.behind" (mth 8) g8) (b9:FdA K C "begin_body" g9) (i9:W.isFn K (.ref g9)=true) (m9:FnA K "begin_body" "Run.begin_body" (mth 9) g9) (b10:FdA K C "follow" g10) (i10:W.isFn K (.ref g10)=true) (m10:FnA K "follow" "Run.follow" (mth 10) g10) (b11:FdA K C "bring" g11) (i11:W.isFn K (.ref g11)=true) (m11:FnA K "bring" "Run.bring" (mth 11) g11) (b12:FdA K C "choose" g12) (i12:W.isFn K (.ref g12)=true) (m12:FnA K "choose" "Run.choose" (mth 12) g12) (b13:FdA K C "begin_value" g13) (i13:W.isFn K (.ref g13)=true) (m13:FnA K "begin_value" "Run.begin_value" (mth 13) g13) (b14:FdA K C "apply" g14) (i14:W.isFn K (.ref g14)=true) (m14:FnA K "apply" "Run.apply" (mth 14) g14) (b15:FdA K C "make" g15) (i15:W.isFn K (.ref g15)=true) (m15:FnA K "make" "Run.make" (mth 15) g15) (b16:FdA K C "enter" g16) (i16:W.isFn K (.ref g16)=true) (m16:FnA K "enter" "Run.enter" (mth 16) g16) (b17:FdA K C "leave" g17) (i17:W.isFn K (.ref g17)=true) (m17:FnA K "leave" "Run.leave" (mth 17) g17)
  (pg:W.plainGet K C Str.empty=true) (hd:W.hasDictIn K C=true) (po:W.plainOver K C=true) (sa:W.findIn K (.ref C) "__setattr__" = some (some (.builtin "object.__setattr__"))) (mk:W.makesIn K C=true) (kc:W.keepIn K (.ref C)=true) (nf0:W.findIn K (.ref C) "functions" = some none) (nf1:W.findIn K (.ref C) "most" = some none) (nf2:W.findIn K (.ref C) "calls" = some none) (nf3:W.findIn K (.ref C) "steps" = some none) (nf4:W.findIn K (.ref C) "frames" = some none) (nf5:W.findIn K (.ref C) "tasks" = some none) (nf6:W.findIn K (.ref C) "ready" = some none) (nf7:W.findIn K (.ref C) "is_cut" = some none) (bQ:W.nsIn K mainGlobals "MOST_CALLS" = some (some (.int 20 tq))) (bR:W.nsIn K mainGlobals "MOST_SIZE" = some (some (.int 100 tr))) (z_ValueError:NnA K "ValueError") (z_all:NnA K "all") (z_bool:NnA K "bool") (z_dict:NnA K "dict") (z_int:NnA K "int") (z_isinstance:NnA K "isinstance") (z_len:NnA K "len") (z_list:NnA K "list") (z_range:NnA K "range") (z_reversed:NnA K "reversed") (z_tuple:NnA K "tuple") (z_zip:NnA K "zip") :
  ∃ fd:FuncData,(∀ (s:Shared) (v:Value),BindsTo s fd ⟨[v],[]⟩ [("_law_script", v)]) /\ ∀ base:Heap,K.In base->base.Ns mainGlobals mg->FnOk l.prog w K mg base CX0 30 fa fd ["_law_script"] (spD K 1 lawT):=by
 have e:=hfa.symm.trans (W.mg_of X G a21)
 cases e
 have T:Tops mg:=⟨W.mg_none_of X G z_ValueError,W.mg_none_of X G z_all,W.mg_none_of X G z_bool,W.mg_none_of X G z_dict,W.mg_none_of X G z_int,W.mg_none_of X G z_isinstance,W.mg_none_of X G z_len,W.mg_none_of X G z_list,W.mg_none_of X G z_range,W.mg_none_of X G z_reversed,W.mg_none_of X G z_tuple,W.mg_none_of X G z_zip⟩
 obtain ⟨⟨_,F1⟩,_⟩:=l1
 obtain ⟨⟨_,F2⟩,_⟩:=l2
 obtain ⟨⟨_,F3⟩,_⟩:=l3
 obtain ⟨⟨_,F4⟩,_⟩:=l4
 obtain ⟨⟨_,F5⟩,_⟩:=l5
 obtain ⟨⟨_,F6⟩,_⟩:=l6
 obtain ⟨⟨_,F7⟩,_⟩:=l7
 obtain ⟨⟨_,F8⟩,_⟩:=l8
 obtain ⟨⟨_,F9⟩,_⟩:=l9
 obtain ⟨⟨_,F10⟩,_⟩:=l10
 obtain ⟨⟨_,F11⟩,_⟩:=l11
 obtain ⟨⟨_,F12⟩,_⟩:=l12
 obtain ⟨⟨_,F13⟩,_⟩:=l13
 obtain ⟨⟨_,F14⟩,_⟩:=l14
 obtain ⟨⟨_,F15⟩,_⟩:=l15
 obtain ⟨⟨_,F16⟩,_⟩:=l16
 obtain ⟨⟨_,F17⟩,_⟩:=l17
 obtain ⟨⟨_,F18⟩,_⟩:=l18
 obtain ⟨⟨_,F19⟩,_⟩:=l19
 obtain ⟨⟨_,F20⟩,_⟩:=l20
 have F21:=Lo (st:=top 32) l21 c21 k21
 refine ⟨W.fnOf "law" "law" (wk (top 32)) (yc (top 32)) (zb (top 32)) .none kV21 dc21 pm21 an21 cd21 ct21,fun s v=>.of_eq rfl,fun base _ _=>?_⟩
 have Z:Con K mg:=⟨⟨_,.int 20,W.mg_of X G bQ,⟨_,rfl⟩,fun _ _=>rfl⟩,⟨_,.int 100,W.mg_of X G bR,⟨_,rfl⟩,fun _ _=>rfl⟩⟩
 have O:CO K C zf:=⟨⟨pg,hd,po,sa⟩,fun f hf=>by
  simp only [zf,List.mem_cons,List.not_mem_nil,or_false] at hf
  rcases hf with rfl | rfl | rfl | rfl | rfl | rfl | rfl | rfl
  ·exact nf0
  ·exact nf1
  ·exact nf2
  ·exact nf3
  ·exact nf4
  ·exact nf5
  ·exact nf6
  ·exact nf7⟩
 obtain ⟨⟨_,G0⟩,n0⟩:=m0
 have H0:Meth K C "__init__" g0:=⟨b0,i0,n0⟩
 obtain ⟨⟨_,G1⟩,n1⟩:=m1
 have H1:Meth K C "told" g1:=⟨b1,i1,n1⟩
 obtain ⟨⟨_,G2⟩,n2⟩:=m2
 have H2:Meth K C "go" g2:=⟨b2,i2,n2⟩
 obtain ⟨⟨_,G3⟩,n3⟩:=m3
 have H3:Meth K C "step" g3:=⟨b3,i3,n3⟩
 obtain ⟨⟨_,G4⟩,n4⟩:=m4
 have H4:Meth K C "own_step" g4:=⟨b4,i4,n4⟩
 obtain ⟨⟨_,G5⟩,n5⟩:=m5
 have H5:Meth K C "standing" g5:=⟨b5,i5,n5⟩
 obtain ⟨⟨_,G6⟩,n6⟩:=m6
 have H6:Meth K C "stand" g6:=⟨b6,i6,n6⟩
 obtain ⟨⟨_,G7⟩,n7⟩:=m7
 have H7:Meth K C "taken" g7:=⟨b7,i7,n7⟩
 obtain ⟨⟨_,G8⟩,n8⟩:=m8
 have H8:Meth K C "behind" g8:=⟨b8,i8,n8⟩
 obtain ⟨⟨_,G9⟩,n9⟩:=m9
 have H9:Meth K C "begin_body" g9:=⟨b9,i9,n9⟩
 obtain ⟨⟨_,G10⟩,n10⟩:=m10
 have H10:Meth K C "follow" g10:=⟨b10,i10,n10⟩
 obtain ⟨⟨_,G11⟩,n11⟩:=m11
 have H11:Meth K C "bring" g11:=⟨b11,i11,n11⟩
 obtain ⟨⟨_,G12⟩,n12⟩:=m12
 have H12:Meth K C "choose" g12:=⟨b12,i12,n12⟩
 obtain ⟨⟨_,G13⟩,n13⟩:=m13
 have H13:Meth K C "begin_value" g13:=⟨b13,i13,n13⟩
 obtain ⟨⟨_,G14⟩,n14⟩:=m14
 have H14:Meth K C "apply" g14:=⟨b14,i14,n14⟩
 obtain ⟨⟨_,G15⟩,n15⟩:=m15
 have H15:Meth K C "make" g15:=⟨b15,i15,n15⟩
 obtain ⟨⟨_,G16⟩,n16⟩:=m16
 have H16:Meth K C "enter" g16:=⟨b16,i16,n16⟩
 obtain ⟨⟨_,G17⟩,n17⟩:=m17
 have H17:Meth K C "leave" g17:=⟨b17,i17,n17⟩
 have Bq:=Vf (P:=l.prog) (w:=w) (base:=base) T F1 (W.mg_of X G a1)
 have Ao:=So (P:=l.prog) (w:=w) (base:=base) T Bq F2 (W.mg_of X G a2)
 have Aw:=Hj (P:=l.prog) (w:=w) (base:=base) T Bq Ao F3 (W.mg_of X G a3)
 have Al:=Vd (P:=l.prog) (w:=w) (base:=base) T F4 (W.mg_of X G a4)
 have Ap:=Sn (P:=l.prog) (w:=w) (base:=base) T Al F5 (W.mg_of X G a5)
 have Bw:=ga (P:=l.prog) (w:=w) (base:=base) T F6 (W.mg_of X G a6)
 have Ab:=bp (P:=l.prog) (w:=w) (base:=base) T Aw F7 (W.mg_of X G a7)
 have Bm:=He (P:=l.prog) (w:=w) (base:=base) T O G3 H3
 have Cv:=Vc (P:=l.prog) (w:=w) (base:=base) T O Bm G4 H4
 have Bh:=M3 (P:=l.prog) (w:=w) (base:=base) T O G6 H6
 have Cy:=M2 (P:=l.prog) (w:=w) (base:=base) T O G7 H7
 have Ba:=P9 (P:=l.prog) (w:=w) (base:=base) T O G8 H8
 have Cz:=Yo (P:=l.prog) (w:=w) (base:=base) T O G5 H5
 have Bn:=P7 (P:=l.prog) (w:=w) (base:=base) T O Bh G10 H10
 have A6:=M6 (P:=l.prog) (w:=w) (base:=base) T O Cv Bh Cy G11 H11
 have Bo:=P8 (P:=l.prog) (w:=w) (base:=base) T O Cv Cy G12 H12
 have A7:=M4 (P:=l.prog) (w:=w) (base:=base) T O G17 H17
 have Bz:=Hf (P:=l.prog) (w:=w) (base:=base) T Z O Cv Ap G15 H15
 have Bb:=jw (P:=l.prog) (w:=w) (base:=base) T O Ba Cz G13 H13
 have Bd:=bf (P:=l.prog) (w:=w) (base:=base) T O Ba Cv Bn Cz G9 H9
 have Bi:=M5 (P:=l.prog) (w:=w) (base:=base) T Z O Bm G16 H16
 have A0:=M7 (P:=l.prog) (w:=w) (base:=base) T O Bi Cy Bz Cv G14 H14
 have Av:=Co (P:=l.prog) (w:=w) (base:=base) T O Bd Bb A0 A6 Bo A7 G2 H2
 have Aj:=Hg (P:=l.prog) (w:=w) (base:=base) T O G0 H0
 have Ak:=M0 (P:=l.prog) (w:=w) (base:=base) T O G1 H1
 have Ft:FunV K "trace" "trace" (top 15) ft (.int 1000 tk) _:=⟨⟨Tt,_,nT,oct,odt,kVt,dct,pmt,ant,cdt,ctt,slt,rfl,lt,ct_,lT,rfl⟩,kt⟩
 have Ar:=Nz (P:=l.prog) (w:=w) (base:=base) T O Ab Bw Aj Bi Av Ak mk kc (W.mg_of X G aC) Ft
 have As:FD l.prog w K mg base 10 "trace" ["program", "name", "args", "most"] (qt C RT FzT):=⟨ft,_,Ar,Ft.binds (ds:=[]) (fun T' kV doc pm an qZ ct us hl=>match us,hl with | [_,_,_,_],_=>⟨_,rfl,rfl⟩),kt,W.mg_of X G at_⟩
 have Br:=jz (P:=l.prog) (w:=w) (base:=base) T F8 (W.mg_of X G a8)
 have Bj:=bo (P:=l.prog) (w:=w) (base:=base) T F9 (W.mg_of X G a9)
 have Ac:=Yu (P:=l.prog) (w:=w) (base:=base) T F10 (W.mg_of X G a10)
 have Ah:=Ve (P:=l.prog) (w:=w) (base:=base) T Bj F11 (W.mg_of X G a11)
 have Bs:=jx (P:=l.prog) (w:=w) (base:=base) T F12 (W.mg_of X G a12)
 have Bx:=ul (P:=l.prog) (w:=w) (base:=base) T F13 (W.mg_of X G a13)
 have Bt:=u9 (P:=l.prog) (w:=w) (base:=base) T F14 (W.mg_of X G a14)
 have Bg:=Vb (P:=l.prog) (w:=w) (base:=base) T F15 (W.mg_of X G a15)
 have Bk:=Ym (P:=l.prog) (w:=w) (base:=base) T Bg F16 (W.mg_of X G a16)
 have Bl:=Yl (P:=l.prog) (w:=w) (base:=base) T F17 (W.mg_of X G a17)
 have Bu:=u4 (P:=l.prog) (w:=w) (base:=base) T Bg Bk Bl F18 (W.mg_of X G a18)
 have By:=uk (P:=l.prog) (w:=w) (base:=base) T Bg Bk Bl F19 (W.mg_of X G a19)
 have Ad:=Yt (P:=l.prog) (w:=w) (base:=base) T F20 (W.mg_of X G a20)
 exact Ec T Br Bj Ac Ah Bs (Bx 21) (Bt 21) (Bu 21) (By 21) Ad As F21
end
end K13
open PySem PySem.W PyProof.Rows
set_option maxRecDepth 100000 in
set_option maxHeartbeats 0 in
theorem PySem.Challenge.cw_toll_k13_trees_walked_holds : PySem.Challenge.rw_toll_k13_trees_walked.Holds := by
 refine K13.opened ?_
 k_fill
 refine DL.walkD (l:=PySem.Challenge.rw_toll_k13_trees_walked) (k:=30) (x:="_law_script") rfl rfl ⟨rfl,by decide,by decide⟩ (fun w h Y=>PySem.W.kIn_of Y) ?F
 case F =>
  intro w mg fa h KX G hmg
  refine' K13.all_mk KX G hmg ?a1 ?l1 ?a2 ?l2 ?a3 ?l3 ?a4 ?l4 ?a5 ?l5 ?a6 ?l6 ?a7 ?l7 ?a8 ?l8 ?a9 ?l9 ?a10 ?l10 ?a11 ?l11 ?a12 ?l12 ?a13 ?l13 ?a14 ?l14 ?a15 ?l15 ?a16 ?l16 ?a17 ?l17 ?a18 ?l18 ?a19 ?l19 ?a20 ?l20 ?a21 ?l21 ?c21 ?k21 ?at_ ?lt ?ct_ ?kt ?lT ?aC ?b0 ?i0 ?m0 ?b1 ?i1 ?m1 ?b2 ?i2 ?m2 ?b3 ?i3 ?m3 ?b4 ?i4 ?m4 ?b5 ?i5 ?m5 ?b6 ?i6 ?m6 ?b7 ?i7 ?m7 ?b8 ?i8 ?m8 ?b9 ?i9 ?m9 ?b10 ?i10 ?m10 ?b11 ?i11 ?m11 ?b12 ?i12 ?m12 ?b13 ?i13 ?m13 ?b14 ?i14 ?m14 ?b15 ?i15 ?m15 ?b16 ?i16 ?m16 ?b17 ?i17 ?m17 ?pg ?hd ?po ?sa ?mk ?kc ?nf0 ?nf1 ?nf2 ?nf3 ?nf4 ?nf5 ?nf6 ?nf7 ?bQ ?bR ?z_ValueError ?z_all ?z_bool ?z_dict ?z_int ?z_isinstance ?z_len ?z_list ?z_range ?z_reversed ?z_tuple ?z_zip
  case a1 | a2 | a3 | a4 | a5 | a6 | a7 | a8 | a9 | a10 | a11 | a12 | a13 | a14 | a15 | a16 | a17 | a18 | a19 | a20 | a21 | at_ | aC | b0 | i0 | b1 | i1 | b2 | i2 | b3 | i3 | b4 | i4 | b5 | i5 | b6 | i6 | b7 | i7 | b8 | i8 | b9 | i9 | b10 | i10 | b11 | i11 | b12 | i12 | b13 | i13 | b14 | i14 | b15 | i15 | b16 | i16 | b17 | i17 | z_ValueError | z_all | z_bool | z_dict | z_int | z_isinstance | z_len | z_list | z_range | z_reversed | z_tuple | z_zip=>show _=_; k_is
  case l1 | l2 | l3 | l4 | l5 | l6 | l7 | l8 | l9 | l10 | l11 | l12 | l13 | l14 | l15 | l16 | l17 | l18 | l19 | l20 | m0 | m1 | m2 | m3 | m4 | m5 | m6 | m7 | m8 | m9 | m10 | m11 | m12 | m13 | m14 | m15 | m16 | m17 =>
   refine' K13.fna_mk ?lA ?cA ?kA
   case lA=>k_is
   case cA=>k_is
   case kA=>k_is
  case l21 | c21 | k21 | lt | ct_ | kt | lT | pg | hd | po | sa | mk | kc | nf0 | nf1 | nf2 | nf3 | nf4 | nf5 | nf6 | nf7 | bQ | bR=>k_is
