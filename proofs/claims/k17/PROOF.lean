import PyProof.Rows.All
import Wide.All
import OpenK.KSplit
import OpenK.KApp
import KE.RegKMod
import KE.KJoinElse
import KE.KTops
import KE.RegKSuper
import KE.RegLcAnyAll
import KE.KCells
import KE.KPassesOwn
import KE.KNestStore
import KE.KStopIter
import KE.RegKBase
import KE.KDictOne
import KE.KxDecode
import KE.RegKMathGB
import KE.KNestM
import KE.KDflt
import KE.KOwnIterCall
import KE.KSortedM
import KE.KxLen
import KE.RegKMathGC
import KE.KIsClose
import KE.KDisp
import KE.KSetIn
import KE.KRevSl
import KE.KEqDeep
import KE.KAnyBase
import KE.KWhile
import KE.KRevIter
import KE.KTreeR
import KE.KxStill
import KE.KFinally
import KE.KTopLam
import KE.KWithOwn
import KE.KOpsOwn
import KE.KDictNew
import KE.KWhileD
import KE.KSumEnd
import KE.KPopAny
import KE.KGrown
import KE.KItemAt
import KE.KTextLit
import KE.KTupDict
import KE.KFmtOwn
import KE.KMinKey
import KE.KExtendNil
import KE.KMethU
import KE.KDictAnyTail
import KE.RegKStar
import KE.RegKTupTruth
import KE.RegKTupSum
import KE.KMethJoin
import KE.KPathRangeEnd
import KE.RegKParC
import KE.KxAffix
import KE.KxField
import KE.RegKMatchCls
import KE.KLcPair
import KE.KJoinL
import KE.RegKNeg
import KE.KxPercentT
import KE.KBytesCut
import KE.KCompIf
import KE.KxFormat
import KE.KTypeName
import KE.KCompText
import KE.BytesMulAny
import KE.KSortTup
import KE.KPairAssign
import KE.KTypeOf
import KE.KMulAny
import KE.KBytesMenu
import KE.KTextDict
import KE.KPathShort
import KE.KSplitRange
import KE.KKinds
import KE.KxPart
import KE.KRangeItem
import KE.KRangeNest
import KE.KSetAt
import KE.KxTruthy
import KE.KPairRows
import KE.KBytesMore
import KE.KRangePlain
import KE.KBitsMul
import KE.KTextTable
import KE.KForList
import KE.KIdxIf
import KE.KAssignIn
import KE.KFirstTurn
import KE.KOwnRange
import KE.KLooksOwn
import KE.KDictWord
import KE.KTurnsGround
import KE.KFinFacts
import KE.RegKTryOn
import KE.KCenter
import KE.KStrWords
import KE.KStateTextK
import KE.KStateWGiven
import KE.KCallTup
import KE.KTreeF
import KE.KEndWord
import KE.KStateBytes
import KE.KRangeEnd
import KE.KOf
import KE.KRepItem
import KE.KListLetter
import KE.KSliceSign
import KE.KToBytes
import KE.KPathText
import KE.KMinBuiltin
import KE.KFromBytes
import KE.KEqDat
import KE.KBytesUnr
import KE.KIsBytes
import KE.KCallRec
import KE.KEndW
import KE.RegLGeC
import Wide.FinOn
import PySem.Challenge.RW_toll_k17_runs_refused
set_option Elab.async false
set_option linter.all false
set_option maxRecDepth 100000
set_option maxHeartbeats 8000000
set_option exponentiation.threshold 5000
set_option compiler.extract_closed false
set_option bootstrap.genMatcherCode false
theorem zLa.{u} {α:Type u} {a b:List α}:(a++b).length=a.length+b.length:=List.length_append
theorem zLc.{u} {α:Type u} {x:α} {a:List α}:(x::a).length=a.length+1:=rfl
theorem zLn.{u} {α:Type u}:([]:List α).length=0:=rfl
theorem zLm.{u,v} {α:Type u} {β:Type v} {a:List α} (f:α->β):(a.map f).length=a.length:=List.length_map f
theorem zMa.{u,v} {α:Type u} {β:Type v} {f:α->β} {a b:List α}:(a++b).map f=a.map f++b.map f:=List.map_append
namespace L2
open PySem PySem.Spec PyProof.Rows
noncomputable def wa (s:Stmt):Arguments:=match s with
 | .FunctionDef _ a _ _ _ _ _ _ _ _=>a
 | _=>{ posonlyargs:=[],args:=[],vararg:=none,kwonlyargs:=[],kw_defaults:=[],kwarg:=none,defaults:=[] }
noncomputable def y0 (s:Stmt):List Stmt:=match s with
 | .FunctionDef _ _ b _ _ _ _ _ _ _=>b
 | _=>[]
noncomputable def zb (s:Stmt):Scope:=match s with
 | .FunctionDef _ _ _ _ _ _ sc _ _ _=>sc
 | _=>{ kind:=.function,names:=[],isGenerator:=false,isCoroutine:=false }
noncomputable def yh (s:Stmt) (j:Nat):Stmt:=match s with
 | .ClassDef _ _ _ body _ _ _ _ _ _ _=>body.getD j (.Pass ⟨0,0,0,0⟩)
 | _=>.Pass ⟨0,0,0,0⟩
end L2
namespace K17
open PySem PySem.Spec L2
open PyProof.Rows hiding St
noncomputable def top (i:Nat):Stmt:=PySem.Challenge.pw_toll_k17_runs_refused.main.body.getD i (.Pass ⟨0,0,0,0⟩)
section
open PySem.W PySem.PyData
noncomputable def zE (P:Params) (s:Str) (t:Nat) (v:Value):DictEntry:=⟨keyHash P s,.str s t,v⟩
noncomputable def zG (n q:Str) (s:Stmt) (d c m:Value) (k:Nat):Obj:=⟨.type "function", none,.func (fnOf n q (wa s) (y0 s) (zb s) d .none c m none (.ref k) .none),#[]⟩
noncomputable def zF (n:Str) (s:Stmt) (m:Str) (i k:Nat):Obj:=⟨.type "function", none,.func (fnOf n n (wa s) (y0 s) (zb s) .none .none .none (.str m i) none (.ref k) .none),#[]⟩
noncomputable def zC (n:Str) (a:Nat) (q:Str) (b c:Nat) (d e f:Int) (g:Nat) (h:Int) (i j k l:Nat) (m o:Int) (p:Nat):Obj:=⟨.type "code", none,.fields #[.str n a,.str q b,.str "/claim/cut.py" c,.int d 0,.int e 0,.int 0 0,.int 0 0,.int f 0,.ref g,.bool true,.int h 0,.ref i,.none,.ref j,.ref k,.ref l,.int m 0,.int o 0,.str "/claim/cut.py" p],#[]⟩
noncomputable def zK (P:Params):Frag:=(nat_lit 2,⟨.none,none,(.dict #[] 0),#[]⟩)::
(nat_lit 3,⟨(.type "dict"),none,(.dict #[zE P "__name__" 165 (.str "law_toll_k17_runs_refused" 630),zE P "__doc__" 166 .none,zE P "__package__" 167 .none,zE P "__loader__" 168 (.builtin "__main__.__loader__#opaque"),zE P "__spec__" 169 .none,zE P "__annotations__" 170 (.ref 6),zE P "__builtins__" 171 (.ref 4),zE P "__file__" 173 (.str "/claim/cut.py" 172),zE P "__cached__" 174 .none,zE P "TollError" 206 (.ref 24),zE P "NoText" 222 (.ref 37),zE P "NoProgram" 238 (.ref 49),zE P "NoFunction" 254 (.ref 61),zE P "NoValue" 270 (.ref 73),zE P "NoTable" 286 (.ref 85),zE P "NoRatio" 302 (.ref 97),zE P "NoPaper" 318 (.ref 109),zE P "NoSize" 343 (.ref 128),zE P "NoRow" 359 (.ref 140),zE P "TooMany" 375 (.ref 152),zE P "is_whole" 384 (.ref 161),zE P "function_of" 393 (.ref 168),zE P "fits" 401 (.ref 173),zE P "is_tree" 410 (.ref 180),zE P "size_of" 418 (.ref 187),zE P "nodes_of" 428 (.ref 194),zE P "MOST_CALLS" 432 (.int 20 431),zE P "MOST_SIZE" 434 (.int 100 433),zE P "trace" 446 (.ref 202),zE P "check_args" 452 (.ref 207),zE P "Run" 629 (.ref 337),zE P "_law_cell_at" 639 (.ref 348),zE P "_law_number" 646 (.ref 355),zE P "_law_names" 652 (.ref 360),zE P "_law_function" 664 (.ref 367),zE P "_law_value" 670 (.ref 372),zE P "_law_strange" 679 (.ref 379),zE P "_law_caught" 691 (.ref 386),zE P "_law_named" 703 (.ref 393),zE P "_law_run" 712 (.ref 400),zE P "_law_name" 721 (.ref 407),zE P "_law_spoiled" 736 (.ref 414),zE P "law" 742 (.ref 419)] 43),#[]⟩)::
(nat_lit 15,⟨(.type "tuple"),none,(.seq #[(.type "ValueError")] 0),#[]⟩)::
(nat_lit 22,⟨(.type "tuple"),none,(.seq #[] 0),#[]⟩)::
(nat_lit 23,⟨(.type "dict"),none,(.dict #[zE P "__module__" 196 (.str "toll.errors" 187),zE P "__firstlineno__" 200 (.int 2 199),zE P "__static_attributes__" 201 (.ref 22),zE P "__weakref__" 203 (.ref 25),zE P "__doc__" 204 .none] 3),#[]⟩)::
(nat_lit 24,⟨(.type "type"),none,(.cls ⟨"TollError",[(.type "ValueError")],[(.ref 24),(.type "ValueError"),(.type "Exception"),(.type "BaseException"),(.type "object")],23,"TollError",true,[],[(.ref 37),(.ref 49),(.ref 61),(.ref 73),(.ref 85),(.ref 97),(.ref 109),(.ref 128),(.ref 140),(.ref 152)],false,none,false⟩),#[(some (.ref 15)),none,(some (.str "TollError" 189)),(some (.str "TollError" 197)),(some (.builtin "ValueError.__new__")),(some (.bool true))]⟩)::
(nat_lit 25,⟨(.type "getset_descriptor"),none,(.fields #[(.str "__weakref__" 202),(.ref 24),(.builtin "ExceptionGroup.__weakref__"),.none]),#[]⟩)::
(nat_lit 28,⟨(.type "tuple"),none,(.seq #[(.ref 24)] 0),#[]⟩)::
(nat_lit 35,⟨(.type "tuple"),none,(.seq #[] 0),#[]⟩)::
(nat_lit 36,⟨(.type "dict"),none,(.dict #[zE P "__module__" 214 (.str "toll.errors" 187),zE P "__firstlineno__" 218 (.int 4 217),zE P "__static_attributes__" 219 (.ref 35),zE P "__doc__" 220 .none] 2),#[]⟩)::
(nat_lit 37,⟨(.type "type"),none,(.cls ⟨"NoText",[(.ref 24)],[(.ref 37),(.ref 24),(.type "ValueError"),(.type "Exception"),(.type "BaseException"),(.type "object")],36,"NoText",true,[],[],false,none,false⟩),#[(some (.ref 28)),none,(some (.str "NoText" 207)),(some (.str "NoText" 215)),(some (.builtin "ValueError.__new__")),(some (.bool true))]⟩)::
(nat_lit 40,⟨(.type "tuple"),none,(.seq #[(.ref 24)] 0),#[]⟩)::
(nat_lit 47,⟨(.type "tuple"),none,(.seq #[] 0),#[]⟩)::
(nat_lit 48,⟨(.type "dict"),none,(.dict #[zE P "__module__" 230 (.str "toll.errors" 187),zE P "__firstlineno__" 234 (.int 6 233),zE P "__static_attributes__" 235 (.ref 47),zE P "__doc__" 236 .none] 2),#[]⟩)::
(nat_lit 49,⟨(.type "type"),none,(.cls ⟨"NoProgram",[(.ref 24)],[(.ref 49),(.ref 24),(.type "ValueError"),(.type "Exception"),(.type "BaseException"),(.type "object")],48,"NoProgram",true,[],[],false,none,false⟩),#[(some (.ref 40)),none,(some (.str "NoProgram" 223)),(some (.str "NoProgram" 231)),(some (.builtin "ValueError.__new__")),(some (.bool true))]⟩)::
(nat_lit 52,⟨(.type "tuple"),none,(.seq #[(.ref 24)] 0),#[]⟩)::
(nat_lit 59,⟨(.type "tuple"),none,(.seq #[] 0),#[]⟩)::
(nat_lit 60,⟨(.type "dict"),none,(.dict #[zE P "__module__" 246 (.str "toll.errors" 187),zE P "__firstlineno__" 250 (.int 8 249),zE P "__static_attributes__" 251 (.ref 59),zE P "__doc__" 252 .none] 2),#[]⟩)::
(nat_lit 61,⟨(.type "type"),none,(.cls ⟨"NoFunction",[(.ref 24)],[(.ref 61),(.ref 24),(.type "ValueError"),(.type "Exception"),(.type "BaseException"),(.type "object")],60,"NoFunction",true,[],[],false,none,false⟩),#[(some (.ref 52)),none,(some (.str "NoFunction" 239)),(some (.str "NoFunction" 247)),(some (.builtin "ValueError.__new__")),(some (.bool true))]⟩)::
(nat_lit 64,⟨(.type "tuple"),none,(.seq #[(.ref 24)] 0),#[]⟩)::
(nat_lit 71,⟨(.type "tuple"),none,(.seq #[] 0),#[]⟩)::
(nat_lit 72,⟨(.type "dict"),none,(.dict #[zE P "__module__" 262 (.str "toll.errors" 187),zE P "__firstlineno__" 266 (.int 10 265),zE P "__static_attributes__" 267 (.ref 71),zE P "__doc__" 268 .none] 2),#[]⟩)::
(nat_lit 73,⟨(.type "type"),none,(.cls ⟨"NoValue",[(.ref 24)],[(.ref 73),(.ref 24),(.type "ValueError"),(.type "Exception"),(.type "BaseException"),(.type "object")],72,"NoValue",true,[],[],false,none,false⟩),#[(some (.ref 64)),none,(some (.str "NoValue" 255)),(some (.str "NoValue" 263)),(some (.builtin "ValueError.__new__")),(some (.bool true))]⟩)::
(nat_lit 76,⟨(.type "tuple"),none,(.seq #[(.ref 24)] 0),#[]⟩)::
(nat_lit 83,⟨(.type "tuple"),none,(.seq #[] 0),#[]⟩)::
(nat_lit 84,⟨(.type "dict"),none,(.dict #[zE P "__module__" 278 (.str "toll.errors" 187),zE P "__firstlineno__" 282 (.int 12 281),zE P "__static_attributes__" 283 (.ref 83),zE P "__doc__" 284 .none] 2),#[]⟩)::
(nat_lit 85,⟨(.type "type"),none,(.cls ⟨"NoTable",[(.ref 24)],[(.ref 85),(.ref 24),(.type "ValueError"),(.type "Exception"),(.type "BaseException"),(.type "object")],84,"NoTable",true,[],[],false,none,false⟩),#[(some (.ref 76)),none,(some (.str "NoTable" 271)),(some (.str "NoTable" 279)),(some (.builtin "ValueError.__new__")),(some (.bool true))]⟩)::
(nat_lit 88,⟨(.type "tuple"),none,(.seq #[(.ref 24)] 0),#[]⟩)::
(nat_lit 95,⟨(.type "tuple"),none,(.seq #[] 0),#[]⟩)::
(nat_lit 96,⟨(.type "dict"),none,(.dict #[zE P "__module__" 294 (.str "toll.errors" 187),zE P "__firstlineno__" 298 (.int 14 297),zE P "__static_attributes__" 299 (.ref 95),zE P "__doc__" 300 .none] 2),#[]⟩)::
(nat_lit 97,⟨(.type "type"),none,(.cls ⟨"NoRatio",[(.ref 24)],[(.ref 97),(.ref 24),(.type "ValueError"),(.type "Exception"),(.type "BaseException"),(.type "object")],96,"NoRatio",true,[],[],false,none,false⟩),#[(some (.ref 88)),none,(some (.str "NoRatio" 287)),(some (.str "NoRatio" 295)),(some (.builtin "ValueError.__new__")),(some (.bool true))]⟩)::
(nat_lit 100,⟨(.type "tuple"),none,(.seq #[(.ref 24)] 0),#[]⟩)::
(nat_lit 107,⟨(.type "tuple"),none,(.seq #[] 0),#[]⟩)::
(nat_lit 108,⟨(.type "dict"),none,(.dict #[zE P "__module__" 310 (.str "toll.errors" 187),zE P "__firstlineno__" 314 (.int 16 313),zE P "__static_attributes__" 315 (.ref 107),zE P "__doc__" 316 .none] 2),#[]⟩)::
(nat_lit 109,⟨(.type "type"),none,(.cls ⟨"NoPaper",[(.ref 24)],[(.ref 109),(.ref 24),(.type "ValueError"),(.type "Exception"),(.type "BaseException"),(.type "object")],108,"NoPaper",true,[],[],false,none,false⟩),#[(some (.ref 100)),none,(some (.str "NoPaper" 303)),(some (.str "NoPaper" 311)),(some (.builtin "ValueError.__new__")),(some (.bool true))]⟩)::
(nat_lit 112,⟨(.type "tuple"),none,(.seq #[(.ref 24)] 0),#[]⟩)::
(nat_lit 124,zC "__init__" 331 "NoSize.__init__" 332 333 20 2 3 119 181 120 121 122 123 336 20 337)::
(nat_lit 125,zG "__init__" "NoSize.__init__" (yh (top 9) 0) .none .none (.str "toll.errors" 187) 124)::
(nat_lit 126,⟨(.type "tuple"),none,(.seq #[(.str "at" 339)] 0),#[]⟩)::
(nat_lit 127,⟨(.type "dict"),none,(.dict #[zE P "__module__" 326 (.str "toll.errors" 187),zE P "__firstlineno__" 330 (.int 18 329),zE P "__init__" 338 (.ref 125),zE P "__static_attributes__" 340 (.ref 126),zE P "__doc__" 341 .none] 2),#[]⟩)::
(nat_lit 128,⟨(.type "type"),none,(.cls ⟨"NoSize",[(.ref 24)],[(.ref 128),(.ref 24),(.type "ValueError"),(.type "Exception"),(.type "BaseException"),(.type "object")],127,"NoSize",true,[],[],false,none,false⟩),#[(some (.ref 112)),none,(some (.str "NoSize" 319)),(some (.str "NoSize" 327)),(some (.builtin "ValueError.__new__")),(some (.bool true))]⟩)::
(nat_lit 131,⟨(.type "tuple"),none,(.seq #[(.ref 24)] 0),#[]⟩)::
(nat_lit 138,⟨(.type "tuple"),none,(.seq #[] 0),#[]⟩)::
(nat_lit 139,⟨(.type "dict"),none,(.dict #[zE P "__module__" 351 (.str "toll.errors" 187),zE P "__firstlineno__" 355 (.int 23 354),zE P "__static_attributes__" 356 (.ref 138),zE P "__doc__" 357 .none] 2),#[]⟩)::
(nat_lit 140,⟨(.type "type"),none,(.cls ⟨"NoRow",[(.ref 24)],[(.ref 140),(.ref 24),(.type "ValueError"),(.type "Exception"),(.type "BaseException"),(.type "object")],139,"NoRow",true,[],[],false,none,false⟩),#[(some (.ref 131)),none,(some (.str "NoRow" 344)),(some (.str "NoRow" 352)),(some (.builtin "ValueError.__new__")),(some (.bool true))]⟩)::
(nat_lit 143,⟨(.type "tuple"),none,(.seq #[(.ref 24)] 0),#[]⟩)::
(nat_lit 150,⟨(.type "tuple"),none,(.seq #[] 0),#[]⟩)::
(nat_lit 151,⟨(.type "dict"),none,(.dict #[zE P "__module__" 367 (.str "toll.errors" 187),zE P "__firstlineno__" 371 (.int 25 370),zE P "__static_attributes__" 372 (.ref 150),zE P "__doc__" 373 .none] 2),#[]⟩)::
(nat_lit 152,⟨(.type "type"),none,(.cls ⟨"TooMany",[(.ref 24)],[(.ref 152),(.ref 24),(.type "ValueError"),(.type "Exception"),(.type "BaseException"),(.type "object")],151,"TooMany",true,[],[],false,none,false⟩),#[(some (.ref 143)),none,(some (.str "TooMany" 360)),(some (.str "TooMany" 368)),(some (.builtin "ValueError.__new__")),(some (.bool true))]⟩)::
(nat_lit 160,zC "is_whole" 378 "is_whole" 379 380 28 1 3 155 181 156 157 158 159 382 28 383)::
(nat_lit 161,zF "is_whole" (top 13) "toll.programs" 376 160)::
(nat_lit 167,zC "function_of" 385 "function_of" 386 387 30 2 3 162 181 163 164 165 166 391 30 392)::
(nat_lit 168,zF "function_of" (top 14) "toll.programs" 376 167)::
(nat_lit 172,⟨(.type "code"),none,(.fields #[(.str "fits" 396),(.str "fits" 397),(.str "/claim/cut.py" 398),(.int 36 0),(.int 2 0),(.int 0 0),(.int 0 0),(.int 3 0),(.ref 169),(.bool true),(.int 181 0),(.ref 170),.none,.none,.none,(.ref 171),(.int 399 0),(.int 36 0),(.str "/claim/cut.py" 400)]),#[]⟩)::
(nat_lit 173,zF "fits" (top 16) "toll.values" 394 172)::
(nat_lit 179,zC "is_tree" 402 "is_tree" 403 404 42 1 3 174 181 175 176 177 178 408 42 409)::
(nat_lit 180,zF "is_tree" (top 17) "toll.values" 394 179)::
(nat_lit 186,zC "size_of" 411 "size_of" 412 413 52 2 3 181 181 182 183 184 185 416 52 417)::
(nat_lit 187,zF "size_of" (top 18) "toll.values" 394 186)::
(nat_lit 193,zC "nodes_of" 419 "nodes_of" 420 421 58 1 3 188 181 189 190 191 192 426 58 427)::
(nat_lit 194,zF "nodes_of" (top 19) "toll.values" 394 193)::
(nat_lit 195,⟨(.type "tuple"),none,(.seq #[(.int 1000 435)] 0),#[]⟩)::
(nat_lit 201,zC "trace" 436 "trace" 437 438 70 4 3 196 181 197 198 199 200 444 70 445)::
(nat_lit 202,zG "trace" "trace" (top 23) (.ref 195) .none (.str "toll.runs" 429) 201)::
(nat_lit 206,⟨(.type "code"),none,(.fields #[(.str "check_args" 447),(.str "check_args" 448),(.str "/claim/cut.py" 449),(.int 76 0),(.int 2 0),(.int 0 0),(.int 0 0),(.int 3 0),(.ref 203),(.bool true),(.int 181 0),(.ref 204),.none,.none,.none,(.ref 205),(.int 450 0),(.int 76 0),(.str "/claim/cut.py" 451)]),#[]⟩)::
(nat_lit 207,zF "check_args" (top 24) "toll.runs" 429 206)::
(nat_lit 218,⟨(.type "code"),none,(.fields #[(.str "__init__" 465),(.str "Run.__init__" 466),(.str "/claim/cut.py" 467),(.int 84 0),(.int 3 0),(.int 0 0),(.int 0 0),(.int 3 0),(.ref 215),(.bool true),(.int 181 0),(.ref 216),.none,.none,.none,(.ref 217),(.int 468 0),(.int 84 0),(.str "/claim/cut.py" 469)]),#[]⟩)::
(nat_lit 219,zG "__init__" "Run.__init__" (yh (top 25) 0) .none .none (.str "toll.runs" 429) 218)::
(nat_lit 225,zC "told" 471 "Run.told" 472 473 94 1 3 220 181 221 222 223 224 475 94 476)::
(nat_lit 226,zG "told" "Run.told" (yh (top 25) 1) .none .none (.str "toll.runs" 429) 225)::
(nat_lit 232,zC "go" 478 "Run.go" 479 480 99 1 3 227 181 228 229 230 231 483 99 484)::
(nat_lit 233,zG "go" "Run.go" (yh (top 25) 2) .none .none (.str "toll.runs" 429) 232)::
(nat_lit 239,zC "step" 486 "Run.step" 487 488 115 3 3 234 181 235 236 237 238 492 115 493)::
(nat_lit 240,zG "step" "Run.step" (yh (top 25) 3) .none .none (.str "toll.runs" 429) 239)::
(nat_lit 246,zC "own_step" 495 "Run.own_step" 496 497 122 2 3 241 181 242 243 244 245 500 122 501)::
(nat_lit 247,zG "own_step" "Run.own_step" (yh (top 25) 4) .none .none (.str "toll.runs" 429) 246)::
(nat_lit 253,zC "standing" 503 "Run.standing" 504 505 125 2 3 248 181 249 250 251 252 508 125 509)::
(nat_lit 254,zG "standing" "Run.standing" (yh (top 25) 5) .none .none (.str "toll.runs" 429) 253)::
(nat_lit 260,zC "stand" 511 "Run.stand" 512 513 128 3 3 255 181 256 257 258 259 518 128 519)::
(nat_lit 261,zG "stand" "Run.stand" (yh (top 25) 6) .none .none (.str "toll.runs" 429) 260)::
(nat_lit 267,zC "taken" 521 "Run.taken" 522 523 132 2 3 262 181 263 264 265 266 527 132 528)::
(nat_lit 268,zG "taken" "Run.taken" (yh (top 25) 7) .none .none (.str "toll.runs" 429) 267)::
(nat_lit 272,⟨(.type "code"),none,(.fields #[(.str "behind" 530),(.str "Run.behind" 531),(.str "/claim/cut.py" 532),(.int 137 0),(.int 3 0),(.int 0 0),(.int 0 0),(.int 3 0),(.ref 269),(.bool true),(.int 181 0),(.ref 270),.none,.none,.none,(.ref 271),(.int 533 0),(.int 137 0),(.str "/claim/cut.py" 534)]),#[]⟩)::
(nat_lit 273,zG "behind" "Run.behind" (yh (top 25) 8) .none .none (.str "toll.runs" 429) 272)::
(nat_lit 279,zC "begin_body" 536 "Run.begin_body" 537 538 141 2 3 274 181 275 276 277 278 542 141 543)::
(nat_lit 280,zG "begin_body" "Run.begin_body" (yh (top 25) 9) .none .none (.str "toll.runs" 429) 279)::
(nat_lit 286,zC "follow" 545 "Run.follow" 546 547 152 3 3 281 181 282 283 284 285 552 152 553)::
(nat_lit 287,zG "follow" "Run.follow" (yh (top 25) 10) .none .none (.str "toll.runs" 429) 286)::
(nat_lit 293,zC "bring" 555 "Run.bring" 556 557 160 2 3 288 181 289 290 291 292 560 160 561)::
(nat_lit 294,zG "bring" "Run.bring" (yh (top 25) 11) .none .none (.str "toll.runs" 429) 293)::
(nat_lit 300,zC "choose" 563 "Run.choose" 564 565 165 2 3 295 181 296 297 298 299 569 165 570)::
(nat_lit 301,zG "choose" "Run.choose" (yh (top 25) 12) .none .none (.str "toll.runs" 429) 300)::
(nat_lit 307,zC "begin_value" 572 "Run.begin_value" 573 574 170 2 3 302 181 303 304 305 306 578 170 579)::
(nat_lit 308,zG "begin_value" "Run.begin_value" (yh (top 25) 13) .none .none (.str "toll.runs" 429) 307)::
(nat_lit 314,zC "apply" 581 "Run.apply" 582 583 185 2 3 309 181 310 311 312 313 588 185 589)::
(nat_lit 315,zG "apply" "Run.apply" (yh (top 25) 14) .none .none (.str "toll.runs" 429) 314)::
(nat_lit 321,zC "make" 591 "Run.make" 592 593 198 3 3 316 181 317 318 319 320 597 198 598)::
(nat_lit 322,zG "make" "Run.make" (yh (top 25) 15) .none .none (.str "toll.runs" 429) 321)::
(nat_lit 326,⟨(.type "code"),none,(.fields #[(.str "enter" 600),(.str "Run.enter" 601),(.str "/claim/cut.py" 602),(.int 204 0),(.int 3 0),(.int 0 0),(.int 0 0),(.int 3 0),(.ref 323),(.bool true),(.int 181 0),(.ref 324),.none,.none,.none,(.ref 325),(.int 603 0),(.int 204 0),(.str "/claim/cut.py" 604)]),#[]⟩)::
(nat_lit 327,zG "enter" "Run.enter" (yh (top 25) 16) .none .none (.str "toll.runs" 429) 326)::
(nat_lit 333,zC "leave" 606 "Run.leave" 607 608 216 1 3 328 181 329 330 331 332 611 216 612)::
(nat_lit 334,zG "leave" "Run.leave" (yh (top 25) 17) .none .none (.str "toll.runs" 429) 333)::
(nat_lit 335,⟨(.type "tuple"),none,(.seq #[(.str "calls" 614),(.str "frames" 615),(.str "functions" 616),(.str "is_cut" 617),(.str "most" 618),(.str "ready" 619),(.str "steps" 620),(.str "tasks" 621)] 0),#[]⟩)::
(nat_lit 336,⟨(.type "dict"),none,(.dict #[zE P "__module__" 460 (.str "toll.runs" 429),zE P "__firstlineno__" 464 (.int 82 463),zE P "__init__" 470 (.ref 219),zE P "told" 477 (.ref 226),zE P "go" 485 (.ref 233),zE P "step" 494 (.ref 240),zE P "own_step" 502 (.ref 247),zE P "standing" 510 (.ref 254),zE P "stand" 520 (.ref 261),zE P "taken" 529 (.ref 268),zE P "behind" 535 (.ref 273),zE P "begin_body" 544 (.ref 280),zE P "follow" 554 (.ref 287),zE P "bring" 562 (.ref 294),zE P "choose" 571 (.ref 301),zE P "begin_value" 580 (.ref 308),zE P "apply" 590 (.ref 315),zE P "make" 599 (.ref 322),zE P "enter" 605 (.ref 327),zE P "leave" 613 (.ref 334),zE P "__static_attributes__" 622 (.ref 335),zE P "__dict__" 624 (.ref 338),zE P "__weakref__" 626 (.ref 339),zE P "__doc__" 627 .none] 4),#[]⟩)::
(nat_lit 337,⟨(.type "type"),none,(.cls ⟨"Run",[(.type "object")],[(.ref 337),(.type "object")],336,"Run",true,[],[],false,none,false⟩),#[none,none,(some (.str "Run" 453)),(some (.str "Run" 461)),(some (.builtin "object.__new__")),(some (.bool true))]⟩)::
(nat_lit 338,⟨(.type "getset_descriptor"),none,(.fields #[(.str "__dict__" 623),(.ref 337),(.builtin "function.__dict__"),(.builtin "function.__dict__#set")]),#[]⟩)::
(nat_lit 339,⟨(.type "getset_descriptor"),none,(.fields #[(.str "__weakref__" 625),(.ref 337),(.builtin "ExceptionGroup.__weakref__"),.none]),#[]⟩)::
(nat_lit 347,zC "_law_cell_at" 632 "_law_cell_at" 633 634 220 2 3 342 181 343 344 345 346 637 220 638)::
(nat_lit 348,zF "_law_cell_at" (top 27) "law_toll_k17_runs_refused" 630 347)::
(nat_lit 354,zC "_law_number" 640 "_law_number" 641 642 224 1 3 349 181 350 351 352 353 644 224 645)::
(nat_lit 355,zF "_law_number" (top 28) "law_toll_k17_runs_refused" 630 354)::
(nat_lit 359,⟨(.type "code"),none,(.fields #[(.str "_law_names" 647),(.str "_law_names" 648),(.str "/claim/cut.py" 649),(.int 226 0),(.int 2 0),(.int 0 0),(.int 0 0),(.int 3 0),(.ref 356),(.bool true),(.int 181 0),(.ref 357),.none,.none,.none,(.ref 358),(.int 650 0),(.int 226 0),(.str "/claim/cut.py" 651)]),#[]⟩)::
(nat_lit 360,zF "_law_names" (top 29) "law_toll_k17_runs_refused" 630 359)::
(nat_lit 366,zC "_law_function" 653 "_law_function" 654 655 237 3 3 361 181 362 363 364 365 662 237 663)::
(nat_lit 367,zF "_law_function" (top 30) "law_toll_k17_runs_refused" 630 366)::
(nat_lit 371,⟨(.type "code"),none,(.fields #[(.str "_law_value" 665),(.str "_law_value" 666),(.str "/claim/cut.py" 667),(.int 247 0),(.int 3 0),(.int 0 0),(.int 0 0),(.int 3 0),(.ref 368),(.bool true),(.int 181 0),(.ref 369),.none,.none,.none,(.ref 370),(.int 668 0),(.int 247 0),(.str "/claim/cut.py" 669)]),#[]⟩)::
(nat_lit 372,zF "_law_value" (top 31) "law_toll_k17_runs_refused" 630 371)::
(nat_lit 378,zC "_law_strange" 671 "_law_strange" 672 673 256 2 3 373 181 374 375 376 377 677 256 678)::
(nat_lit 379,zF "_law_strange" (top 32) "law_toll_k17_runs_refused" 630 378)::
(nat_lit 385,zC "_law_caught" 680 "_law_caught" 681 682 263 3 3 380 181 381 382 383 384 689 263 690)::
(nat_lit 386,zF "_law_caught" (top 33) "law_toll_k17_runs_refused" 630 385)::
(nat_lit 392,zC "_law_named" 692 "_law_named" 693 694 282 4 3 387 181 388 389 390 391 701 282 702)::
(nat_lit 393,zF "_law_named" (top 34) "law_toll_k17_runs_refused" 630 392)::
(nat_lit 399,zC "_law_run" 704 "_law_run" 705 706 292 3 3 394 181 395 396 397 398 710 292 711)::
(nat_lit 400,zF "_law_run" (top 35) "law_toll_k17_runs_refused" 630 399)::
(nat_lit 406,zC "_law_name" 713 "_law_name" 714 715 296 3 3 401 181 402 403 404 405 719 296 720)::
(nat_lit 407,zF "_law_name" (top 36) "law_toll_k17_runs_refused" 630 406)::
(nat_lit 413,zC "_law_spoiled" 722 "_law_spoiled" 723 724 300 4 3 408 181 409 410 411 412 734 300 735)::
(nat_lit 414,zF "_law_spoiled" (top 37) "law_toll_k17_runs_refused" 630 413)::
(nat_lit 418,⟨(.type "code"),none,(.fields #[(.str "law" 737),(.str "law" 738),(.str "/claim/cut.py" 739),(.int 319 0),(.int 1 0),(.int 0 0),(.int 0 0),(.int 3 0),(.ref 415),(.bool true),(.int 181 0),(.ref 416),.none,.none,.none,(.ref 417),(.int 740 0),(.int 319 0),(.str "/claim/cut.py" 741)]),#[]⟩)::
(nat_lit 419,zF "law" (top 38) "law_toll_k17_runs_refused" 630 418)::[]
noncomputable def zA:List Addr:=2::3::15::22::23::24::25::28::35::36::37::40::47::48::49::52::59::60::61::64::71::72::73::76::83::84::85::88::95::96::97::100::107::108::109::112::124::125::126::127::128::131::138::139::140::143::150::151::152::160::161::167::168::172::173::179::180::186::187::193::194::195::201::202::206::207::218::219::225::226::232::233::239::240::246::247::253::254::260::261::267::268::272::273::279::280::286::287::293::294::300::301::307::308::314::315::321::322::326::327::333::334::335::336::337::338::339::347::348::354::355::359::360::366::367::371::372::378::379::385::386::392::393::399::400::406::407::413::414::418::419::[]
theorem zAK (P:Params):zA=(zK P).map (·.1):=by kernel_rfl
noncomputable def zq:Program:={ PySem.Challenge.pw_toll_k17_runs_refused with main:={ PySem.Challenge.pw_toll_k17_runs_refused.main with body:=[1,2,3,4,5,6,7,8,9,10,11,13,14,16,17,18,19,21,22,24,25,27,28,29,30,31,32,33,34,35,36,37,38].filterMap fun i=>PySem.Challenge.pw_toll_k17_runs_refused.main.body[i]? } }
noncomputable abbrev zX (s:Shared):Bool:=xlAt zq [] s && recOk (RowW.records PySem.Challenge.rw_toll_k17_runs_refused.row.toRowW) s
noncomputable abbrev zP (w:World):Prop:=Option.map (fun s=>(Fast.tw4187177175401517315 zq ["trace"] (Fast.tw5923862056798008813 PySem.Challenge.pw_toll_k17_runs_refused.main.body) zX true s,zA.map s.heap.get?)) (openEnds Fast.tw14364793385576792824 PySem.Challenge.pw_toll_k17_runs_refused w 7710)=some (openGood zq ["trace"],(zK w.params).map fun p=>some p.2)
theorem hl0 (w:World):zP w:=by delta zP openEnds topFrom; rw [Fast.te14082659384304107361]; kernel_rfl
end
end K17
namespace L2
open PySem PySem.Spec PyProof.Rows
noncomputable abbrev Key:=Sum Int Str
noncomputable def Wp:Key->Value->Bool
 | .inl k,v=>Value.isInt k v
 | .inr x,v=>Value.isStrOf x v
noncomputable def keyH (w:World):Key->Int
 | .inl k=>hashInt k
 | .inr x=>hashStr w x
theorem yk:∀ {k:Key} {v:Value},Wp k v=true->(∃ i t,k=Sum.inl i /\ v=Value.int i t) \/ (∃ x t,k=Sum.inr x /\ v=Value.str x t)
 | .inl i,v,h=>by
  obtain ⟨t,e⟩:=Value.isInt_shape (k:=i) (v:=v) h
  exact .inl ⟨i,t,rfl,e⟩
 | .inr x,v,h=>by
  obtain ⟨t,e⟩:=Value.isStrOf_shape (x:=x) (v:=v) h
  exact .inr ⟨x,t,rfl,e⟩
theorem Uo (i:Int) (t:Tok):Wp (.inl i) (.int i t)=true:=by simp [Wp,Value.isInt]
theorem Um (x:Str) (t:Tok):Wp (.inr x) (.str x t)=true:=by simp [Wp,Value.isStrOf]
theorem Je (a b:Int):decide ((Sum.inl a:Key)=Sum.inl b)=(a == b):=by
 by_cases e:a=b
 ·subst e; simp
 ·have h:¬ (Sum.inl a:Key)=Sum.inl b:=fun q=>e (Sum.inl.inj q)
  rw [decide_eq_false h]
  exact (beq_eq_false_iff_ne.mpr e).symm
theorem Jb (a b:Str):decide ((Sum.inr a:Key)=Sum.inr b)=decide (a=b):=by
 by_cases e:a=b
 ·subst e; simp
 ·have h:¬ (Sum.inr a:Key)=Sum.inr b:=fun q=>e (Sum.inr.inj q)
  rw [decide_eq_false h,decide_eq_false e]
theorem Jd (a:Int) (b:Str):decide ((Sum.inl a:Key)=Sum.inr b)=false:=decide_eq_false (fun q=>nomatch q)
theorem Jc (a:Str) (b:Int):decide ((Sum.inr a:Key)=Sum.inl b)=false:=decide_eq_false (fun q=>nomatch q)
noncomputable def yd (prog:Program) (w:World):PySem.KeyKind prog w Key where
 is:=Wp
 hash:=keyH w
 inj:=fun v a b ha hb=>by
  rcases yk ha with ⟨i,t,rfl,rfl⟩ | ⟨x,t,rfl,rfl⟩
  ·rcases yk hb with ⟨j,u,rfl,e⟩ | ⟨y,u,rfl,e⟩
   ·injection e with e1 _; rw [e1]
   ·exact nomatch e
  ·rcases yk hb with ⟨j,u,rfl,e⟩ | ⟨y,u,rfl,e⟩
   ·exact nomatch e
   ·injection e with e1 _; rw [e1]
 byValue:=fun k v h=>by
  rcases yk h with ⟨i,t,rfl,rfl⟩ | ⟨x,t,rfl,rfl⟩ <;> rfl
 pyHash:=fun hv h=>by
  rcases yk hv with ⟨i,t,rfl,rfl⟩ | ⟨x,t,rfl,rfl⟩
  ·exact wpAny_pyHash_int h
  ·exact wpAny_pyHash_str h
 eqBool:=fun hu hv h=>by
  rcases yk hu with ⟨i,t,rfl,rfl⟩ | ⟨x,t,rfl,rfl⟩
  ·rcases yk hv with ⟨j,u,rfl,rfl⟩ | ⟨y,u,rfl,rfl⟩
   ·rw [Je] at h; exact wpAny_eqBool_int h
   ·rw [Jd] at h; exact SeqAt.EqAt.int_str i t y u _ _ _ _ h
  ·rcases yk hv with ⟨j,u,rfl,rfl⟩ | ⟨y,u,rfl,rfl⟩
   ·rw [Jc] at h; exact SeqAt.EqAt.str_int x t j u _ _ _ _ h
   ·rw [Jb] at h; exact wpAny_eqBool_str h
 «strs»:=fun k x t v h=>by
  rcases yk h with ⟨i,u,rfl,e⟩ | ⟨y,u,rfl,e⟩
  ·exact nomatch e
  ·injection e with e1 _
   subst e1
   cases v <;> rfl
theorem Y4 (prog:Program) (w:World) (i:Int) (t:Tok):(yd prog w).is (.inl i) (.int i t)=true:=Uo i t
theorem qj (prog:Program) (w:World) (x:Str) (t:Tok):(yd prog w).is (.inr x) (.str x t)=true:=Um x t
inductive V where
 | non | bl (b:Bool) | int (i:Int) | str (x:Str) | byt (b:Array UInt8) | flt (b:UInt64) | ref (a:Addr) | ty (n:String)
 deriving DecidableEq
noncomputable def RelV:V->Value->Prop
 | .non,u=>u=Value.none
 | .bl b,u=>u=Value.bool b
 | .int i,u=>∃ t,u=Value.int i t
 | .str x,u=>∃ t,u=Value.str x t
 | .byt b,u=>∃ t,u=Value.bytes b t
 | .flt b,u=>∃ t,u=Value.float b t
 | .ref a,u=>u=Value.ref a
 | .ty n,u=>u=Value.type n
noncomputable abbrev Vals:List V->List Value->Prop:=Paired RelV
theorem Vals.length {xs:List V} {us:List Value} (r:Vals xs us):xs.length=us.length:=Paired.length r
theorem Vals.get:∀ {xs:List V} {us:List Value} {i:Nat} {x:V},Vals xs us->xs[i]?=some x->∃ u,us[i]?=some u /\ RelV x u
 | _,_,_,_,.nil,e=>by simp at e
 | _,_,0,_,.cons r _,e=>by simp at e; subst e; exact ⟨_,rfl,r⟩
 | _,_,i + 1,x,.cons _ t,e=>by
  obtain ⟨u,h1,h2⟩:=Vals.get (i:=i) (x:=x) t (by simpa using e)
  exact ⟨u,by simpa using h1,h2⟩
theorem Vals.set {x:V} {u:Value} (r:RelV x u):∀ {xs:List V} {us:List Value} (i:Nat),Vals xs us->Vals (xs.set i x) (us.set i u)
 | _,_,_,.nil=>.nil
 | _,_,0,.cons _ t=>.cons r t
 | _,_,i + 1,.cons q t=>.cons q (Vals.set r i t)
theorem Vals.append:∀ {xs ys:List V} {us ws:List Value},Vals xs us->Vals ys ws->Vals (xs ++ ys) (us ++ ws)
 | _,_,_,_,.nil,s=>s
 | _,_,_,_,.cons r t,s=>.cons r (Vals.append t s)
theorem Vals.take:∀ {xs:List V} {us:List Value} (n:Nat),Vals xs us->Vals (xs.take n) (us.take n)
 | _,_,0,_=>.nil
 | _,_,_ + 1,.nil=>.nil
 | _,_,n + 1,.cons r t=>.cons r (Vals.take n t)
theorem Vals.drop:∀ {xs:List V} {us:List Value} (n:Nat),Vals xs us->Vals (xs.drop n) (us.drop n)
 | _,_,0,r=>r
 | _,_,_ + 1,.nil=>.nil
 | _,_,n + 1,.cons _ t=>Vals.drop n t
noncomputable def RelO:Option V->Option Value->Prop
 | some v,some u=>RelV v u
 | none,none=>True
 | _,_=>False
noncomputable def KV {κ:Type}:List (κ × V)->List (κ × Value)->Prop:=Paired fun (p:κ × V) (q:κ × Value)=>p.1=q.1 /\ RelV p.2 q.2
noncomputable def kV:Key->V
 | .inl i=>.int i
 | .inr x=>.str x
inductive HO where
  | lst (xs:List V)
  | tup (xs:List V)
  | dK (kvs:List (Key × V)) | dT (kvs:List (List Key × V))
  | set (S:Int->Bool) (n:Nat)
  | ins (C dx:Addr) (fs:List (Str × V))
  | own (x:Addr)
  | xd (fs:List (Str × V))
  | met (f x:Addr)
  | rng (lo hi:Int)
  | frz (o:Obj) (u:HO)
  | tbl (ps:Array Value)
  | ext (φ:Heap->Prop)
noncomputable abbrev Hp:=Addr->Option HO
noncomputable def upd (H:Hp) (a:Addr) (o:HO):Hp:=fun b=>if b=a then some o else H b
theorem zi {H:Hp} {a:Addr} {o:HO}:upd H a o a=some o:=by unfold upd; rw [if_pos rfl]
theorem zj {H:Hp} {a b:Addr} {o:HO} (h:b ≠ a):upd H a o b=H b:=by unfold upd; rw [if_neg h]
theorem zf {H:Hp} {a b:Addr} {o:HO} (h:H a=some o) (h':H b=none):a ≠ b:=by
 intro e; subst e; rw [h] at h'; cases h'
section
variable (P:Program) (w:World)
noncomputable def xv (H:Hp) (h:Heap) (a:Addr):HO->Prop
 | .lst xs=>xs.length <= sizeLine /\ ∃ (its:List Value) (n:Nat),Vals xs its /\ h.get? a=some { cls:=.type "list", data:=.seq its.toArray n }
 | .tup xs=>xs.length <= sizeLine /\ ∃ its:List Value,Vals xs its /\ IsTup h a its.toArray /\ ∃ o,h.get? a=some o /\ o.dict=none
 | .dK kvs=>kvs.length <= sizeLine /\ (a == sysModules)=false /\ ∃ vs,KV kvs vs /\ h.DictOf (yd P w) a vs
 | .dT kvs=>kvs.length <= sizeLine /\ (a == sysModules)=false /\ ∃ xs:List (List Key × Addr × Value),
   Paired (fun (p:List Key × V) (q:List Key × Addr × Value)=>p.1=q.1 /\ H q.2.1=some (.tup (p.1.map kV)) /\ RelV p.2 q.2.2) kvs xs /\
   ∃ o es ep,h.get? a=some o /\ o.ExactDict /\ o.data=.dict es ep /\ es.toList=xs.map (entryOfKey (tupleKind (yd P w))) /\ (xs.map (·.1)).Nodup
 | .set S n=>h.SetOf (intKind P w) a S n
 | .ins C dx fs=>H dx=some (.own a) /\ fs.length <= 1000 /\ dx ≠ a /\ h.get? a=some (W.instObj C dx) /\
   ∃ mA,h.Ns1 dx mA /\ (∀ f,RelO (fs.lookup f) (mA f)) /\ PySem.Within mA (fs.map (·.1))
 | .own _=>∃ o,h.get? a=some o
 | .xd fs=>∃ mA,h.Ns1 a mA /\ ∀ f,RelO (fs.lookup f) (mA f)
 | .rng lo hi=>∃ t u v,h.get? a=some { cls:=.type "range", data:=.fields #[.int lo t,.int hi u,.int 1 v] }
 | .frz o u=>h.get? a=some o /\ xv H h a u
 | .tbl ps=>h.get? a=some { cls:=.none,data:=.fields ps }
 | .met f x=>h.get? a=some (W.methodObj (.ref f) (.ref x))
 | .ext φ=>φ h /\ (∃ o,h.get? a=some o) /\ ∀ h1 h2:Heap,φ h1->(∀ o,h1.get? a=some o->h2.get? a=some o)->φ h2
noncomputable def HOk (H:Hp) (h:Heap):Prop:=∀ a o,H a=some o->xv P w H h a o
end
section
variable {P:Program} {w:World} {H H':Hp} {h h':Heap} {a:Addr} {o:HO}
theorem xv.lt (x:xv P w H h a o):a < h.objs.size:=by
 cases o with
 | lst xs=>obtain ⟨_,_,_,_,e⟩:=x; exact Heap.lt_size e
 | tup xs=>obtain ⟨_,_,_,p⟩:=x; exact p.1.lt
 | dK kvs=>obtain ⟨_,_,_,_,o,_,_,e,_⟩:=x; exact Heap.lt_size e
 | dT kvs=>obtain ⟨_,_,_,_,o,_,_,e,_⟩:=x; exact Heap.lt_size e
 | set S n=>obtain ⟨o,_,_,_,e,_⟩:=x; exact Heap.lt_size e
 | ins C dx fs=>obtain ⟨_,_,_,e,_⟩:=x; exact Heap.lt_size e
 | own y=>obtain ⟨_,e⟩:=x; exact Heap.lt_size e
 | xd fs=>obtain ⟨_,⟨_,_,_,e,_⟩,_⟩:=x; exact Heap.lt_size e
 | rng lo hi=>obtain ⟨_,_,_,e⟩:=x; exact Heap.lt_size e
 | frz ob u=>obtain ⟨e,_⟩:=x; exact Heap.lt_size e
 | tbl ps=>exact Heap.lt_size (show h.get? a=some _ from x)
 | met f y=>exact Heap.lt_size (show h.get? a=some _ from x)
 | ext φ=>obtain ⟨_,⟨_,e⟩,_⟩:=x; exact Heap.lt_size e
theorem Paired.mapP {α β:Type} {F G:α->β->Prop}:∀ {l₁:List α} {l₂:List β},Paired F l₁ l₂->(∀ a b,F a b->G a b)->Paired G l₁ l₂
 | _,_,.nil,_=>.nil
 | _,_,.cons r t,f=>.cons (f _ _ r) (Paired.mapP t f)
theorem xv.stay (x:xv P w H h a o) (k:∀ b u,(b=a \/ H b=some (.own a))->h.get? b=some u->h'.get? b=some u)
  (ho:∀ b,H b=some (.own a)->H' b=some (.own a)) (ht:∀ b xs,H b=some (.tup xs)->H' b=some (.tup xs)):xv P w H' h' a o:=by
 induction o with
 | lst xs=>obtain ⟨z,its,n,r,e⟩:=x; exact ⟨z,its,n,r,k _ _ (.inl rfl) e⟩
 | tup xs=>obtain ⟨z,its,r,⟨ob,e,c⟩,od,ed,cd⟩:=x; exact ⟨z,its,r,⟨ob,k _ _ (.inl rfl) e,c⟩,od,k _ _ (.inl rfl) ed,cd⟩
 | dK kvs=>obtain ⟨z,y,vs,r,ob,es,ep,e,c⟩:=x; exact ⟨z,y,vs,r,ob,es,ep,k _ _ (.inl rfl) e,c⟩
 | dT kvs =>
  obtain ⟨z,y,xs,r,ob,es,ep,e,c⟩:=x
  exact ⟨z,y,xs,Paired.mapP r fun p q z=>⟨z.1,ht _ _ z.2.1,z.2.2⟩,ob,es,ep,k _ _ (.inl rfl) e,c⟩
 | set S n=>obtain ⟨ob,es,ep,t,e,c⟩:=x; exact ⟨ob,es,ep,t,k _ _ (.inl rfl) e,c⟩
 | ins C dx fs =>
  obtain ⟨d,z,ne,e,mA,⟨od,es,ep,e2,c⟩,r⟩:=x
  exact ⟨ho _ d,z,ne,k _ _ (.inl rfl) e,mA,⟨od,es,ep,k _ _ (.inr d) e2,c⟩,r⟩
 | own y=>obtain ⟨ob,e⟩:=x; exact ⟨ob,k _ _ (.inl rfl) e⟩
 | xd fs=>obtain ⟨mA,⟨od,es,ep,e,c⟩,r⟩:=x; exact ⟨mA,⟨od,es,ep,k _ _ (.inl rfl) e,c⟩,r⟩
 | rng lo hi=>obtain ⟨t,u,v,e⟩:=x; exact ⟨t,u,v,k _ _ (.inl rfl) e⟩
 | frz ob u ih=>obtain ⟨e,q⟩:=x; exact ⟨k _ _ (.inl rfl) e,ih q⟩
 | tbl ps =>
  have e:h.get? a=some { cls:=.none,data:=.fields ps }:=x
  show h'.get? a=some { cls:=.none,data:=.fields ps }
  exact k a _ (.inl rfl) e
 | met f y =>
  have e:h.get? a=some (W.methodObj (.ref f) (.ref y)):=x
  show h'.get? a=some (W.methodObj (.ref f) (.ref y))
  exact k a _ (.inl rfl) e
 | ext φ=>obtain ⟨p,⟨o,e⟩,st⟩:=x; exact ⟨st _ _ p fun o q=>k _ _ (.inl rfl) q,⟨o,k _ _ (.inl rfl) e⟩,st⟩
theorem HOk.lt (x:HOk P w H h) (e:H a=some o):a < h.objs.size:=(x a o e).lt
theorem HOk.fresh (x:HOk P w H h) (e:h.objs.size <= a):H a=none:=by
 cases q:H a with
 | none=>rfl
 | some u=>exact absurd (Nat.lt_of_lt_of_le (x.lt q) e) (Nat.lt_irrefl _)
theorem HOk.kept (x:HOk P w H h) (k:∀ b u,h.get? b=some u->h'.get? b=some u):HOk P w H h':=fun a o e =>
 (x a o e).stay (fun b u _ q=>k b u q) (fun _ q=>q) fun _ _ q=>q
theorem HOk.laid (x:HOk P w H h) (k:∀ b u,h.get? b=some u->h'.get? b=some u) (hp:h.objs.size <= a) (new:xv P w (upd H a o) h' a o):HOk P w (upd H a o) h':=fun b u e=>by
 have hn:=x.fresh hp
 by_cases hb:b=a
 ·subst hb; rw [zi] at e; cases e; exact new
 ·rw [zj hb] at e
  exact (x b u e).stay (fun c v _ q=>k c v q) (fun c q=>by rw [zj (zf q hn)]; exact q) fun c xs q=>by rw [zj (zf q hn)]; exact q
end
noncomputable def Rd (H:Hp) (a:Addr) (u:HO):Prop:=H a=some u \/ ∃ o,H a=some (.frz o u)
theorem Rd.ok {P:Program} {w:World} {H:Hp} {h:Heap} {a:Addr} {u:HO} (r:Rd H a u) (x:HOk P w H h):xv P w H h a u:=by
 rcases r with r | ⟨o,r⟩
 ·exact x a u r
 ·obtain ⟨_,q⟩:=x a _ r
  exact q
noncomputable def Mut:Option HO->Prop
 | some (.lst _)=>True
 | some (.dK _)=>True
 | some (.dT _)=>True
 | some (.set _ _)=>True
 | some (.ins _ _ _)=>True
 | some (.ext _)=>True
 | _=>False
section
variable {P:Program} {w:World} {H:Hp} {h h':Heap} {x e:Addr} {o':HO}
theorem HOk.write (ok:HOk P w H h) (mu:Mut (H x)) (he:e=x \/ H e=some (.own x)) (k:∀ b u,b ≠ e->h.get? b=some u->h'.get? b=some u) (heo:∃ u,h'.get? e=some u)
  (new:xv P w (upd H x o') h' x o'):HOk P w (upd H x o') h':=fun b u q=>by
 have nown:∀ c y,H c=some (.own y)->c ≠ x:=fun c y r z=>by subst z; rw [r] at mu; exact mu
 have ntup:∀ c xs,H c=some (.tup xs)->c ≠ x:=fun c xs r z=>by subst z; rw [r] at mu; exact mu
 by_cases hb:b=x
 ·subst hb; rw [zi] at q; cases q; exact new
 ·rw [zj hb] at q
  by_cases hbe:b=e
  ·have q':H b=some (.own x):=by
    rcases he with z | z
    ·exact absurd (hbe.trans z) hb
    ·rw [hbe]; exact z
   rw [q] at q'; cases q'
   obtain ⟨v,hv⟩:=heo
   exact ⟨v,by rw [hbe]; exact hv⟩
  ·refine (ok b u q).stay (fun c v hc r=>k c v ?_ r) (fun c r=>by rw [zj (nown c b r)]; exact r) fun c xs r=>by rw [zj (ntup c xs r)]; exact r
   rcases hc with rfl | hc
   ·exact hbe
   ·rintro rfl
    rcases he with z | z
    ·exact nown c b hc z
    ·rw [hc] at z; cases z; exact hb rfl
end
structure Un (fs ex:List Addr) (H H':Hp) (h h':Heap):Prop where
 keep:∀ b o,h.get? b=some o->H b=none->b ∉ fs->b ∉ ex->h'.get? b=some o
 slot:∀ b o,h.get? b=some o->H b=none->b ∈ fs->b ∉ ex->∃ sl,h'.get? b=some { o with slots:=sl }
 free:∀ b o,h.get? b=some o->H b=none->b ∉ ex->H' b=none
 there:∀ b o,h.get? b=some o->b ∉ ex->∃ o',h'.get? b=some o'
 tups:∀ b xs,H b=some (.tup xs)->H' b=some (.tup xs)
 frzs:∀ b o u,H b=some (.frz o u)->H' b=some (.frz o u)
 tbls:∀ b ps,H b=some (.tbl ps)->∃ more,H' b=some (.tbl (ps ++ more))
section
variable {fs fs' ex ex':List Addr} {H H1 H2:Hp} {h h1 h2 h':Heap} {a x e:Addr} {o:HO}
theorem Un.any (u:Un fs ex H H1 h h1) {b:Addr} {ob:Obj} (q:h.get? b=some ob) (n:H b=none) (hx:b ∉ ex):∃ sl,h1.get? b=some { ob with slots:=sl }:=by
 by_cases hb:b ∈ fs
 ·exact u.slot b ob q n hb hx
 ·exact ⟨ob.slots,u.keep b ob q n hb hx⟩
theorem Un.trans (a:Un fs ex H H1 h h1) (b:Un fs ex H1 H2 h1 h2):Un fs ex H H2 h h2 where
 keep:=fun c ob q n hc hx=>b.keep c ob (a.keep c ob q n hc hx) (a.free c ob q n hx) hc hx
 slot:=fun c ob q n hc hx=>by
  obtain ⟨sl,e1⟩:=a.slot c ob q n hc hx
  obtain ⟨sl',e2⟩:=b.slot c _ e1 (a.free c ob q n hx) hc hx
  exact ⟨sl',e2⟩
 free:=fun c ob q n hx=>by
  obtain ⟨o',e1⟩:=a.there c ob q hx
  exact b.free c o' e1 (a.free c ob q n hx) hx
 there:=fun c ob q hx=>by
  obtain ⟨o',e1⟩:=a.there c ob q hx
  exact b.there c o' e1 hx
 tups:=fun c xs q=>b.tups c xs (a.tups c xs q)
 frzs:=fun c ob xs q=>b.frzs c ob xs (a.frzs c ob xs q)
 tbls:=fun c ps q=>by
  obtain ⟨m1,e1⟩:=a.tbls c ps q
  obtain ⟨m2,e2⟩:=b.tbls c _ e1
  exact ⟨m1 ++ m2,by rw [e2,Array.append_assoc]⟩
theorem Un.kept (k:∀ b u,h.get? b=some u->h'.get? b=some u):Un fs ex H H h h' :=
 ⟨fun b ob q _ _ _=>k b ob q,fun b ob q _ _ _=>⟨ob.slots,k b ob q⟩,fun _ _ _ n _=>n,fun b ob q _=>⟨ob,k b ob q⟩,fun _ _ q=>q,fun _ _ _ q=>q,fun _ ps q=>⟨#[],by rw [q]; simp⟩⟩
theorem Un.refl:Un fs ex H H h h:=Un.kept fun _ _ q=>q
theorem Un.laid (k:∀ b u,h.get? b=some u->h'.get? b=some u) (hp:h.objs.size <= a) (hn:H a=none):Un fs ex H (upd H a o) h h' where
 keep:=fun b u q _ _ _=>k b u q
 slot:=fun b u q _ _ _=>⟨u.slots,k b u q⟩
 free:=fun b u q n _=>by rw [zj (Nat.ne_of_lt (Nat.lt_of_lt_of_le (Heap.lt_size q) hp))]; exact n
 there:=fun b u q _=>⟨u,k b u q⟩
 tups:=fun b xs q=>by rw [zj (zf q hn)]; exact q
 frzs:=fun b u xs q=>by rw [zj (zf q hn)]; exact q
 tbls:=fun b ps q=>⟨#[],by rw [zj (zf q hn),q]; simp⟩
theorem Un.write (mu:Mut (H x)) (he:e=x \/ H e=some (.own x)) (k:∀ b u,b ≠ e->h.get? b=some u->h'.get? b=some u) (heo:∃ u,h'.get? e=some u):Un fs ex H (upd H x o) h h':=by
 have hx:∀ b,H b=none->b ≠ x:=fun b n z=>by subst z; rw [n] at mu; exact mu
 have hb:∀ b,H b=none->b ≠ e:=fun b n z=>by
  subst z
  rcases he with r | r
  ·exact hx b n r
  ·rw [n] at r; cases r
 have hm:∀ b u,H b=some u->¬ Mut (some u)->b ≠ x:=fun b u q nm z=>by subst z; rw [q] at mu; exact nm mu
 refine ⟨fun b u q n _ _=>k b u (hb b n) q,fun b u q n _ _=>⟨u.slots,k b u (hb b n) q⟩,fun b u q n _=>by rw [zj (hx b n)]; exact n,fun b u q _=>?_,
  fun b xs q=>by rw [zj (hm b _ q fun z=>z)]; exact q,fun b u xs q=>by rw [zj (hm b _ q fun z=>z)]; exact q,fun b ps q=>⟨#[],by rw [zj (hm b _ q fun z=>z),q]; simp⟩⟩
 by_cases hbe:b=e
 ·subst hbe; exact heo
 ·exact ⟨u,k b u hbe q⟩
end
noncomputable def trk (h:Heap) (H:Hp):List Addr:=(List.range h.objs.size).filter fun a=>(H a).isSome
noncomputable def hidT (h:Heap) (H:Hp):Heap:=W.hideAll h (trk h H)
theorem Uv (h:Heap) (H:Hp):(hidT h H).objs.size=h.objs.size:=W.hideAll_size _ _
theorem Q6 {h:Heap} {H:Hp} {b:Addr} {o:Obj} (e:h.get? b=some o) (n:H b=none):(hidT h H).get? b=some o :=
 W.hideAll_get _ e fun hm=>by
  have q:(H b).isSome=true:=(List.mem_filter.mp hm).2
  rw [n] at q; simp at q
theorem N6 {h:Heap} {H:Hp} {b:Addr} {o:Obj} (e:(hidT h H).get? b=some o):h.get? b=some o /\ H b=none:=by
 have e':h.get? b=some o:=W.of_hideAll (trk h H) e
 refine ⟨e',?_⟩
 cases q:H b with
 | none=>rfl
 | some x =>
  have hm:b ∈ trk h H:=List.mem_filter.mpr ⟨List.mem_range.mpr (Heap.lt_size e'),by simp [q]⟩
  have z:(hidT h H).get? b=none:=W.hideAll_none (trk h H) hm
  rw [z] at e; cases e
structure Mod (K:W.Frag) (mg:Str->Option Value) (base:Heap):Prop where
 kin:K.In base
 glob:base.Ns mainGlobals mg
 blt:∃ mb,base.Ns builtinsNs mb /\ ∀ x:Str,x ≠ "__name__"->mb x=bootBuiltins x
 nolimit:base.NoLimit
structure Cx where
 prog:Program
 w:World
 K:W.Frag
 mg:Str->Option Value
 base:Heap
 A:Around
 N:List Str
 s₀:Shared
 H₀:Hp
 env:Env
 outer:List Env
 stack:List Env
 ex:List Addr
 fn:Str->Bool
 calm:Bool
 pn:List (Addr × Obj)
 xe:Value->Shared->Prop
noncomputable def frs (l:List Env):List Addr:=l.filterMap (·.frame)
noncomputable abbrev Cx.fs (X:Cx):List Addr:=frs X.outer
noncomputable def Vis (sc:Scope) (x:Str):Prop:=sc.names.lookup x=some .local \/ sc.names.lookup x=some .cell \/ sc.names.lookup x=some .free
noncomputable def Loc (sc:Scope) (x:Str):Prop:=sc.names.lookup x=some .local \/ sc.names.lookup x=some .cell
noncomputable def Look (env:Env) (h:Heap) (m:Str->Option Value) (x:Str) (u:Value):Prop :=
 (env.kindOf x=some .local /\ m x=some u) \/ ((env.kindOf x=some .cell \/ env.kindOf x=some .free) /\ ∃ c,env.cells.lookup x=some c /\ h.IsCell c (some u))
structure Cx.Ok (X:Cx):Prop where
 mod:Mod X.K X.mg X.base
 kind:X.env.scope.kind=.function
 glob:X.env.globals=mainGlobals
 blt:X.env.builtins=builtinsNs
 above:X.s₀.heap.objs.size <= X.env.locals
 inj:∀ x y c,X.env.cells.lookup x=some c->X.env.cells.lookup y=some c->x=y
 has:∀ x,(X.env.kindOf x=some .cell \/ X.env.kindOf x=some .free)->∃ c,X.env.cells.lookup x=some c
 cab:∀ x c,X.fn x=true->X.env.cells.lookup x=some c->X.s₀.heap.objs.size <= c
 hd:X.calm=true->X.A.handled=none
 frames:X.A.frames=some X.stack
 stk:X.stack=X.outer \/ (X.stack=X.env :: X.outer /\ X.env.frame=some X.env.locals)
 exf:∀ b ∈ X.ex,b ≠ X.env.locals /\ ∀ x c,X.env.cells.lookup x=some c->c ≠ b
 bs:∀ b o,X.base.get? b=some o->X.s₀.heap.get? b=some o /\ X.H₀ b=none
 bsz:X.base.objs.size <= X.s₀.heap.objs.size
 noex:∀ b o,X.base.get? b=some o->b ∉ X.ex
 exfs:∀ b ∈ X.ex,b ∉ X.fs
 funs:X.s₀.heap.FunFrames X.base X.outer
 frf:∀ b ∈ X.fs,X.H₀ b=none
structure Inv (X:Cx) (pn:List (Addr × Obj)) (σ:List (Option V)) (H:Hp) (s:Shared):Prop where
 ok:X.Ok
 os:s.os=X.s₀.os
 bare:AllBare s.gens
 base:Un X.fs X.ex X.H₀ H X.s₀.heap s.heap
 loc:∃ m,s.heap.Ns X.env.locals m /\ ∀ (i:Nat) (x:Str) (v:V),X.N[i]?=some x->σ[i]?=some (some v)->Vis X.env.scope x->∃ u,RelV v u /\ Look X.env s.heap m x u
 cell:∀ x c,X.env.cells.lookup x=some c->∃ v,s.heap.IsCell c v
 free:H X.env.locals=none
 freeC:∀ x c,X.env.cells.lookup x=some c->H c=none
 pin:∀ p ∈ X.pn ++ pn,s.heap.get? p.1=some p.2 /\ H p.1=none /\ p.1 ≠ X.env.locals /\ p.1 ∉ X.fs /\ ∀ v,p.2.data ≠ .cell v
 hok:HOk X.prog X.w H s.heap
 len:σ.length=X.N.length
section
variable {X:Cx} {pn:List (Addr × Obj)} {σ:List (Option V)} {H H':Hp} {s:Shared} {h':Heap}
theorem Cx.Ok.nofr (ok:X.Ok) {b:Addr} {o:Obj} (e:X.base.get? b=some o):b ∉ X.fs:=fun hb=>by
 have:=(ok.funs.mem hb).1
 rw [e] at this; cases this
theorem Inv.bs (I:Inv X pn σ H s):∀ b o,X.base.get? b=some o->s.heap.get? b=some o /\ H b=none:=fun b o e =>
 ⟨I.base.keep b o (I.ok.bs b o e).1 (I.ok.bs b o e).2 (I.ok.nofr e) (I.ok.noex b o e),I.base.free b o (I.ok.bs b o e).1 (I.ok.bs b o e).2 (I.ok.noex b o e)⟩
theorem Inv.bk (I:Inv X pn σ H s):∀ b o,X.base.get? b=some o->s.heap.get? b=some o:=fun b o e=>(I.bs b o e).1
theorem Inv.mod (I:Inv X pn σ H s):Mod X.K X.mg X.base:=I.ok.mod
theorem Inv.kIn (I:Inv X pn σ H s):X.K.In s.heap:=I.ok.mod.kin.keeps I.bk
theorem Inv.lt (I:Inv X pn σ H s):X.env.locals < s.heap.objs.size:=let ⟨_,hn,_⟩:=I.loc; hn.lt
theorem Inv.sz (I:Inv X pn σ H s):X.s₀.heap.objs.size <= s.heap.objs.size:=Nat.le_trans I.ok.above (Nat.le_of_lt I.lt)
theorem Inv.nofs (I:Inv X pn σ H s) {a:Addr} (h:s.heap.objs.size <= a):a ∉ X.fs:=fun hb=>by
 obtain ⟨_,o,ho,_⟩:=I.ok.funs.mem hb
 exact absurd (Nat.lt_of_lt_of_le (Heap.lt_size ho) (Nat.le_trans I.sz h)) (Nat.lt_irrefl _)
theorem Inv.cne (I:Inv X pn σ H s):∀ x c,X.env.cells.lookup x=some c->c ≠ X.env.locals:=fun x c e z=>by
 obtain ⟨v,o,ho,hd⟩:=I.cell x c e
 obtain ⟨m,⟨o',es,ep,ho',hd',_⟩,_⟩:=I.loc
 rw [z,ho'] at ho; cases ho; rw [hd'] at hd; cases hd
theorem Inv.funs (I:Inv X pn σ H s):s.heap.FunFrames X.base X.outer:=by
 have all:∀ (l:List Env),(∀ b ∈ frs l,b ∈ X.fs)->X.s₀.heap.FunFrames X.base l->s.heap.FunFrames X.base l:=by
  intro l
  induction l with
  | nil=>intro _ _; trivial
  | cons env r ih =>
   intro hs hl
   obtain ⟨hk,⟨L,o,hf,hn,ho,hd⟩,hr⟩:=hl
   have hL:L ∈ X.fs:=hs L (by unfold frs; rw [List.filterMap_cons,hf]; exact List.mem_cons_self)
   obtain ⟨sl,e⟩:=I.base.slot L o ho (I.ok.frf L hL) hL fun z=>I.ok.exfs L z hL
   exact ⟨hk,⟨L,_,hf,hn,e,hd⟩,ih (fun b hb=>hs b (by unfold frs; rw [List.filterMap_cons,hf]; exact List.mem_cons_of_mem _ hb)) hr⟩
 exact all X.outer (fun _ hb=>hb) I.ok.funs
theorem Inv.stack (I:Inv X pn σ H s):s.heap.FunFrames X.base X.stack:=by
 rcases I.ok.stk with e | ⟨e,hf⟩
 ·rw [e]; exact I.funs
 ·rw [e]
  obtain ⟨m,hn,_⟩:=I.loc
  refine .cons (by rw [I.ok.kind]; decide) hf hn ?_ I.funs
  exact Heap.get?_none_of_le (Nat.le_trans I.ok.bsz I.ok.above)
theorem Inv.stkSub (I:Inv X pn σ H s):∀ b ∈ frs X.stack,b ∈ X.env.locals :: X.fs:=fun b hb=>by
 rcases I.ok.stk with e | ⟨e,hf⟩
 ·rw [e] at hb; exact List.mem_cons_of_mem _ hb
 ·rw [e] at hb
  unfold frs at hb
  rw [List.filterMap_cons,hf] at hb
  exact hb
theorem Inv.stkFree (I:Inv X pn σ H s):∀ b ∈ frs X.stack,H b=none:=fun b hb=>by
 rcases List.mem_cons.mp (I.stkSub b hb) with e | hb
 ·rw [e]; exact I.free
 ·obtain ⟨_,o,ho,_⟩:=I.ok.funs.mem hb
  exact I.base.free b o ho (I.ok.frf b hb) fun z=>I.ok.exfs b z hb
theorem Inv.step {g':Array GenState} {t':Nat} {d':Drawn} {ch:List Addr} (I:Inv X pn σ H s)
  (hch:∀ b ∈ ch,(b ∈ X.ex \/ X.s₀.heap.objs.size <= b) /\ b ≠ X.env.locals /\ (∀ x c,X.env.cells.lookup x=some c->c ≠ b) /\ ∀ p ∈ X.pn ++ pn,p.1 ≠ b)
  (keep:∀ b o,b ≠ X.env.locals->b ∉ X.fs->b ∉ ch->s.heap.get? b=some o->H b=none->h'.get? b=some o)
  (slot:∀ b o,b ≠ X.env.locals->b ∈ X.fs->b ∉ ch->s.heap.get? b=some o->H b=none->∃ sl,h'.get? b=some { o with slots:=sl }) (free:∀ b o,b ∉ ch->s.heap.get? b=some o->H b=none->H' b=none)
  (there:∀ b o,b ∉ ch->s.heap.get? b=some o->∃ o',h'.get? b=some o')
  (tups:∀ b xs,H b=some (.tup xs)->H' b=some (.tup xs)) (frzs:∀ b o u,H b=some (.frz o u)->H' b=some (.frz o u)) (tbls:∀ b ps,H b=some (.tbl ps)->∃ more,H' b=some (.tbl (ps ++ more)))
  (ns:∀ m,s.heap.Ns X.env.locals m->h'.Ns X.env.locals m) (hok:HOk X.prog X.w H' h') (hg:AllBare g') :
  Inv X pn σ H' { s with heap:=h',gens:=g',drawn:=d',toks:=t' }:=by
 have neL:∀ b o,X.s₀.heap.get? b=some o->b ≠ X.env.locals:=fun b o e=>Nat.ne_of_lt (Nat.lt_of_lt_of_le (Heap.lt_size e) I.ok.above)
 have neC:∀ b o,X.s₀.heap.get? b=some o->b ∉ X.ex->b ∉ ch:=fun b o e hx hb=>by
  rcases (hch b hb).1 with z | z
  ·exact hx z
  ·exact absurd (Nat.lt_of_lt_of_le (Heap.lt_size e) z) (Nat.lt_irrefl _)
 have cellK:∀ x c,X.env.cells.lookup x=some c->∀ v,s.heap.IsCell c v->h'.IsCell c v:=fun x c e v ⟨o,ho,hd⟩=>by
  have nch:c ∉ ch:=fun z=>(hch c z).2.2.1 x c e rfl
  by_cases hc:c ∈ X.fs
  ·obtain ⟨sl,q⟩:=slot c o (I.cne x c e) hc nch ho (I.freeC x c e)
   exact ⟨_,q,hd⟩
  ·exact ⟨o,keep c o (I.cne x c e) hc nch ho (I.freeC x c e),hd⟩
 refine ⟨I.ok,I.os,hg,⟨fun b o e n hb hx=>?_,fun b o e n hb hx=>?_,fun b o e n hx=>?_,fun b o e hx=>?_,fun b xs e=>tups b xs (I.base.tups b xs e),fun b o xs e=>frzs b o xs (I.base.frzs b o xs e),fun b ps e=>?_⟩,?_,fun x c e=>?_,?_,fun x c e=>?_,fun p hp=>?_,hok,I.len⟩
 ·exact keep b o (neL b o e) hb (neC b o e hx) (I.base.keep b o e n hb hx) (I.base.free b o e n hx)
 ·obtain ⟨sl,e1⟩:=I.base.slot b o e n hb hx
  obtain ⟨sl',e2⟩:=slot b _ (neL b o e) hb (neC b o e hx) e1 (I.base.free b o e n hx)
  exact ⟨sl',e2⟩
 ·obtain ⟨o',e1⟩:=I.base.there b o e hx
  exact free b o' (neC b o e hx) e1 (I.base.free b o e n hx)
 ·obtain ⟨o',e1⟩:=I.base.there b o e hx
  exact there b o' (neC b o e hx) e1
 ·obtain ⟨m1,e1⟩:=I.base.tbls b ps e
  obtain ⟨m2,e2⟩:=tbls b _ e1
  exact ⟨m1 ++ m2,by rw [e2,Array.append_assoc]⟩
 ·obtain ⟨m,hn,hl⟩:=I.loc
  refine ⟨m,ns m hn,fun i x v e1 e2 e3=>?_⟩
  obtain ⟨u,r,l⟩:=hl i x v e1 e2 e3
  refine ⟨u,r,?_⟩
  rcases l with l | ⟨k,c,e,z⟩
  ·exact .inl l
  ·exact .inr ⟨k,c,e,cellK x c e _ z⟩
 ·obtain ⟨v,z⟩:=I.cell x c e
  exact ⟨v,cellK x c e v z⟩
 ·obtain ⟨m,⟨o,_,_,ho,_⟩,_⟩:=I.loc
  exact free _ o (fun z=>(hch _ z).2.1 rfl) ho I.free
 ·obtain ⟨v,o,ho,hd⟩:=I.cell x c e
  exact free c o (fun z=>(hch c z).2.2.1 x c e rfl) ho (I.freeC x c e)
 ·obtain ⟨e,n,ne,nf,d⟩:=I.pin p hp
  have nch:p.1 ∉ ch:=fun z=>(hch p.1 z).2.2.2 p hp rfl
  exact ⟨keep p.1 p.2 ne nf nch e n,free p.1 p.2 nch e n,ne,nf,d⟩
theorem Inv.un {t':Nat} (I:Inv X pn σ H s) (u:Un X.fs [] H H' s.heap h') (hok:HOk X.prog X.w H' h'):Inv X pn σ H' { s with heap:=h',toks:=t' }:=by
 obtain ⟨m,⟨o,es,ep,ho,r⟩,_⟩:=id I.loc
 obtain ⟨sl,hL⟩:=u.any ho I.free (by simp)
 exact I.step (g':=s.gens) (d':=s.drawn) (ch:=[]) (fun _ z=>nomatch z) (fun b o _ hb _ e n=>u.keep b o e n hb (by simp)) (fun b o _ hb _ e n=>u.slot b o e n hb (by simp)) (fun b o _ e n=>u.free b o e n (by simp)) (fun b o _ e=>u.there b o e (by simp)) u.tups u.frzs u.tbls (fun m' hm=>by
  obtain ⟨o',es',ep',ho',r'⟩:=hm
  rw [ho] at ho'; cases ho'
  exact ⟨_,es',ep',hL,r'⟩) hok I.bare
theorem Inv.call {g':Array GenState} {t':Nat} {d':Drawn} {ch:List Addr} (I:Inv X pn σ H s) (u:Un (frs X.stack) ch H H' s.heap h') (hok:HOk X.prog X.w H' h') (hg:AllBare g')
  (hch:∀ b ∈ ch,(b ∈ X.ex \/ X.s₀.heap.objs.size <= b) /\ b ≠ X.env.locals /\ (∀ x c,X.env.cells.lookup x=some c->c ≠ b) /\ ∀ p ∈ X.pn ++ pn,p.1 ≠ b) :
  Inv X pn σ H' { s with heap:=h',gens:=g',drawn:=d',toks:=t' }:=by
 obtain ⟨m,⟨o,es,ep,ho,r⟩,_⟩:=id I.loc
 obtain ⟨sl,hL⟩:=u.any ho I.free fun z=>(hch _ z).2.1 rfl
 exact I.step (ch:=ch) hch (fun b o hL hb hc e n=>u.keep b o e n (fun z=>(List.mem_cons.mp (I.stkSub b z)).elim hL hb) hc) (fun b o _ _ hc e n=>u.any e n hc) (fun b o hc e n=>u.free b o e n hc) (fun b o hc e=>u.there b o e hc) u.tups u.frzs u.tbls (fun m' hm=>by
  obtain ⟨o',es',ep',ho',r'⟩:=hm
  rw [ho] at ho'; cases ho'
  exact ⟨_,es',ep',hL,r'⟩) hok hg
theorem Inv.turned {t':Nat} {it:Addr} (I:Inv X pn σ H s) (k:∀ b o,b ≠ it->s.heap.get? b=some o->h'.get? b=some o) (hn:H it=none) (hL:it ≠ X.env.locals)
  (h1:it ∈ X.ex \/ X.s₀.heap.objs.size <= it) (h2:∀ x c,X.env.cells.lookup x=some c->c ≠ it) (h3:∀ p ∈ X.pn ++ pn,p.1 ≠ it):Inv X pn σ H { s with heap:=h',toks:=t' }:=by
 have nit:∀ b u,H b=some u->b ≠ it:=fun b u e z=>by rw [z,hn] at e; cases e
 refine I.step (g':=s.gens) (d':=s.drawn) (ch:=[it]) (fun b hb=>?_) (fun b o _ _ hc e _=>k b o (fun z=>hc (by simp [z])) e) (fun b o _ _ hc e _=>⟨o.slots,k b o (fun z=>hc (by simp [z])) e⟩) (fun _ _ _ _ n=>n)
  (fun b o hc e=>⟨o,k b o (fun z=>hc (by simp [z])) e⟩) (fun _ _ e=>e) (fun _ _ _ e=>e) (fun b ps e=>⟨#[],by rw [e]; simp⟩) (fun m hm=>?_) (fun b u e=>?_) I.bare
 ·have e:b=it:=by simpa using hb
  subst e
  exact ⟨h1,hL,h2,h3⟩
 ·obtain ⟨o,es,ep,ho,r⟩:=hm
  exact ⟨o,es,ep,k _ o (Ne.symm hL) ho,r⟩
 ·refine (I.hok b u e).stay (fun c v hc q=>k c v ?_ q) (fun _ q=>q) fun _ _ q=>q
  rcases hc with z | z
  ·rw [z]; exact nit b u e
  ·exact nit c _ z
theorem Inv.tok (I:Inv X pn σ H s) (t:Nat):Inv X pn σ H { s with toks:=t }:=I.un (h':=s.heap) (t':=t) Un.refl I.hok
theorem Inv.kept {t':Nat} (I:Inv X pn σ H s) (k:∀ b u,s.heap.get? b=some u->h'.get? b=some u):Inv X pn σ H { s with heap:=h',toks:=t' }:=I.un (Un.kept k) (I.hok.kept k)
theorem Inv.laid {a:Addr} {o:HO} {t':Nat} (I:Inv X pn σ H s) (k:∀ b u,s.heap.get? b=some u->h'.get? b=some u) (hp:s.heap.objs.size <= a) (new:xv X.prog X.w (upd H a o) h' a o) :
  Inv X pn σ (upd H a o) { s with heap:=h',toks:=t' }:=I.un (Un.laid k hp (I.hok.fresh hp)) (I.hok.laid k hp new)
theorem Inv.write {x e:Addr} {o:HO} {t':Nat} (I:Inv X pn σ H s) (mu:Mut (H x)) (he:e=x \/ H e=some (.own x)) (k:∀ b u,b ≠ e->s.heap.get? b=some u->h'.get? b=some u) (heo:∃ u,h'.get? e=some u)
  (new:xv X.prog X.w (upd H x o) h' x o):Inv X pn σ (upd H x o) { s with heap:=h',toks:=t' }:=I.un (Un.write mu he k heo) (I.hok.write mu he k heo new)
theorem Inv.weak {σ':List (Option V)} (I:Inv X pn σ H s) (hl:σ'.length=σ.length) (w:∀ (i:Nat) v,σ'[i]?=some (some v)->σ[i]?=some (some v)):Inv X pn σ' H s :=
 ⟨I.ok,I.os,I.bare,I.base,let ⟨m,hn,hl'⟩:=I.loc; ⟨m,hn,fun i x v e1 e2 e3=>hl' i x v e1 (w i v e2) e3⟩,I.cell,I.free,I.freeC,I.pin,I.hok,hl.trans I.len⟩
theorem Inv.pins_of {pins':List (Addr × Obj)} (I:Inv X pn σ H s) (h:∀ p ∈ pins',s.heap.get? p.1=some p.2 /\ H p.1=none /\ p.1 ≠ X.env.locals /\ p.1 ∉ X.fs /\ ∀ v,p.2.data ≠ .cell v):Inv X pins' σ H s :=
 ⟨I.ok,I.os,I.bare,I.base,I.loc,I.cell,I.free,I.freeC,fun p hp=>(List.mem_append.mp hp).elim (fun z=>I.pin p (List.mem_append_left _ z)) (h p),I.hok,I.len⟩
theorem gl {N:List Str} (hN:N.Nodup) {i j:Nat} {x:Str} (a:N[i]?=some x) (b:N[j]?=some x):i=j:=by
 obtain ⟨h1,e1⟩:=List.getElem?_eq_some_iff.mp a
 obtain ⟨h2,e2⟩:=List.getElem?_eq_some_iff.mp b
 exact (List.getElem_inj hN).mp (e1.trans e2.symm)
theorem cj {M:Model} {A:Around} {E:Value->Shared->Prop} {i:Nat} {x:Str} {v:V} {u:Value} {Q:Unit->Shared->Prop} (I:Inv X pn σ H s) (hN:X.N.Nodup) (hi:X.N[i]?=some x) (hx:Loc X.env.scope x) (r:RelV v u)
  (h:∀ s',Inv X pn (σ.set i (some v)) H s'->(∃ a,Heap.SameBut a s.heap s'.heap /\ (a=X.env.locals \/ X.env.cells.lookup x=some a))->Q () s') (hf:X.fn x=true \/ X.env.scope.names.lookup x=some .local:=by first | exact .inl rfl | exact .inr rfl | assumption):wpAny M A (storeName X.env x u) Q E s:=by
 obtain ⟨m,hn,hl⟩:=id I.loc
 have hcls:(X.env.scope.kind == .class || (X.env.scope.kind == .module && X.env.locals != X.env.globals))=false:=by rw [I.ok.kind]; rfl
 have hiσ:i < σ.length:=by rw [I.len]; exact (List.getElem?_eq_some_iff.mp hi).1
 have cne:=I.cne
 have tracked:∀ {a:Addr} {h':Heap},(∃ o,s.heap.get? a=some o /\ H a=none)->Heap.SameBut a s.heap h'->HOk X.prog X.w H h':=fun {a h'} ha hs b ob e=>by
  obtain ⟨_,_,hfree⟩:=ha
  refine (I.hok b ob e).stay (fun c w' hc q=>(hs.2 c ?_).trans q) (fun _ q=>q) fun _ _ q=>q
  rintro rfl
  rcases hc with rfl | hc
  ·rw [hfree] at e; cases e
  ·rw [hfree] at hc; cases hc
 rcases hx with hk | hk
 ·refine wpAny_storeName_local hk hn (fun h' hn' hs=>?_) hcls
  obtain ⟨oL,_,_,hoL,_⟩:=id hn
  refine h _ ⟨I.ok,I.os,I.bare,⟨fun b o e n hb hx=>?_,fun b o e n hb hx=>?_,I.base.free,fun b o e hx=>?_,I.base.tups,I.base.frzs,I.base.tbls⟩,⟨_,hn',fun j y v' e1 e2 e3=>?_⟩,fun y c e=>?_,I.free,I.freeC,fun p hp=>?_,tracked ⟨oL,hoL,I.free⟩ hs,by simpa using I.len⟩ ⟨_,hs,.inl rfl⟩
  ·exact (hs.2 b (Nat.ne_of_lt (Nat.lt_of_lt_of_le (Heap.lt_size e) I.ok.above))).trans (I.base.keep b o e n hb hx)
  ·obtain ⟨sl,e1⟩:=I.base.slot b o e n hb hx
   exact ⟨sl,(hs.2 b (Nat.ne_of_lt (Nat.lt_of_lt_of_le (Heap.lt_size e) I.ok.above))).trans e1⟩
  ·obtain ⟨o',e1⟩:=I.base.there b o e hx
   exact ⟨o',(hs.2 b (Nat.ne_of_lt (Nat.lt_of_lt_of_le (Heap.lt_size e) I.ok.above))).trans e1⟩
  ·by_cases hj:j=i
   ·subst hj
    rw [hi] at e1; cases e1
    rw [List.getElem?_set_self hiσ] at e2
    cases e2
    exact ⟨u,r,.inl ⟨hk,by simp⟩⟩
   ·rw [List.getElem?_set_ne (Ne.symm hj)] at e2
    obtain ⟨u',r',q⟩:=hl j y v' e1 e2 e3
    refine ⟨u',r',?_⟩
    rcases q with ⟨k,e⟩ | ⟨k,c,e,z⟩
    ·refine .inl ⟨k,?_⟩
     have:y ≠ x:=fun e=>hj (gl hN e1 (e ▸ hi))
     simp [this,e]
    ·exact .inr ⟨k,c,e,z.sameBut hs (cne y c e)⟩
  ·obtain ⟨w',z⟩:=I.cell y c e
   exact ⟨w',z.sameBut hs (cne y c e)⟩
  ·obtain ⟨e,n,ne,nf,d⟩:=I.pin p hp
   exact ⟨(hs.2 p.1 ne).trans e,n,ne,nf,d⟩
 ·have hfn:X.fn x=true:=by
   rcases hf with z | z
   ·exact z
   ·rw [z] at hk; cases hk
  obtain ⟨c,hc⟩:=I.ok.has x (.inl hk)
  obtain ⟨w',z⟩:=I.cell x c hc
  refine wpAny_storeName_cell I.ok.kind hk hc z (fun h' hc' hs=>?_)
  obtain ⟨oc,hoc,hocd⟩:=id z
  refine h { s with heap:=h' } ⟨I.ok,I.os,I.bare,⟨fun b o e n hb hx=>?_,fun b o e n hb hx=>?_,I.base.free,fun b o e hx=>?_,I.base.tups,I.base.frzs,I.base.tbls⟩,⟨m,hn.sameBut hs (Ne.symm (cne x c hc)),fun j y v' e1 e2 e3=>?_⟩,fun y c' e=>?_,I.free,I.freeC,fun p hp=>?_,tracked ⟨oc,hoc,I.freeC x c hc⟩ hs,by simpa using I.len⟩ ⟨c,hs,.inr hc⟩
  ·exact (hs.2 b (Nat.ne_of_lt (Nat.lt_of_lt_of_le (Heap.lt_size e) (I.ok.cab x c hfn hc)))).trans (I.base.keep b o e n hb hx)
  ·obtain ⟨sl,e1⟩:=I.base.slot b o e n hb hx
   exact ⟨sl,(hs.2 b (Nat.ne_of_lt (Nat.lt_of_lt_of_le (Heap.lt_size e) (I.ok.cab x c hfn hc)))).trans e1⟩
  ·obtain ⟨o',e1⟩:=I.base.there b o e hx
   exact ⟨o',(hs.2 b (Nat.ne_of_lt (Nat.lt_of_lt_of_le (Heap.lt_size e) (I.ok.cab x c hfn hc)))).trans e1⟩
  ·by_cases hj:j=i
   ·subst hj
    rw [hi] at e1; cases e1
    rw [List.getElem?_set_self hiσ] at e2
    cases e2
    exact ⟨u,r,.inr ⟨.inl hk,c,hc,hc'⟩⟩
   ·rw [List.getElem?_set_ne (Ne.symm hj)] at e2
    obtain ⟨u',r',q⟩:=hl j y v' e1 e2 e3
    refine ⟨u',r',?_⟩
    rcases q with q | ⟨k,c',e,z'⟩
    ·exact .inl q
    ·refine .inr ⟨k,c',e,z'.sameBut hs ?_⟩
     rintro rfl
     exact hj (gl hN e1 (I.ok.inj _ _ _ e hc ▸ hi))
  ·by_cases hcc:c'=c
   ·subst hcc; exact ⟨_,hc'⟩
   ·obtain ⟨w2,z2⟩:=I.cell y c' e
    exact ⟨w2,z2.sameBut hs hcc⟩
  ·obtain ⟨e,n,ne,nf,d⟩:=I.pin p hp
   refine ⟨(hs.2 p.1 ?_).trans e,n,ne,nf,d⟩
   intro q
   rw [q,hoc] at e
   have q':oc=p.2:=Option.some.inj e
   exact d w' (by rw [<- q']; exact hocd)
theorem jw {M:Model} {A:Around} {E:Value->Shared->Prop} {i:Nat} {x:Str} {v:V} {u:Value} {Q:Unit->Shared->Prop} (I:Inv X pn σ H s) (hN:X.N.Nodup) (hi:X.N[i]?=some x) (hx:Loc X.env.scope x) (r:RelV v u)
  (h:∀ s',Inv X pn (σ.set i (some v)) H s'->Q () s') (hf:X.fn x=true \/ X.env.scope.names.lookup x=some .local:=by first | exact .inl rfl | exact .inr rfl | assumption):wpAny M A (storeName X.env x u) Q E s :=
 cj I hN hi hx r (fun s' I' _=>h s' I') hf
theorem Inv.call' {s':Shared} {ch:List Addr} (I:Inv X pn σ H s) (ho:s'.os=s.os) (u:Un (frs X.stack) ch H H' s.heap s'.heap) (hok:HOk X.prog X.w H' s'.heap) (hg:AllBare s'.gens)
  (hch:∀ b ∈ ch,(b ∈ X.ex \/ X.s₀.heap.objs.size <= b) /\ b ≠ X.env.locals /\ (∀ x c,X.env.cells.lookup x=some c->c ≠ b) /\ ∀ p ∈ X.pn ++ pn,p.1 ≠ b):Inv X pn σ H' s':=by
 obtain ⟨h',g',d',t',o'⟩:=s'
 have e:o'=s.os:=ho
 subst e
 exact I.call (g':=g') (t':=t') (d':=d') u hok hg hch
end
noncomputable abbrev XK:=Value->Option Addr->Hp->Prop
noncomputable abbrev St:=List (Option V)
noncomputable abbrev VK:=V->Hp->Prop
noncomputable abbrev TE:=St->Hp->VK->Prop
noncomputable abbrev TT:=St->Hp->(Bool->Hp->Prop)->Prop
noncomputable abbrev TA:=St->Hp->(List V->Hp->Prop)->Prop
structure Ends where
 nx:St->Hp->Prop
 rt:VK
 bk:St->Hp->Prop:=fun _ _=>False
 ct:St->Hp->Prop:=fun _ _=>False
noncomputable abbrev TS:=Ends->St->Hp->Prop
noncomputable def EP (X:Cx) (pn:List (Addr × Obj)) (σ:St) (Q:VK) (u:Value) (s':Shared):Prop:=∃ v H',Inv X pn σ H' s' /\ RelV v u /\ Q v H'
noncomputable def TP (X:Cx) (pn:List (Addr × Obj)) (σ:St) (Q:Bool->Hp->Prop) (b:Bool) (s':Shared):Prop:=∃ H',Inv X pn σ H' s' /\ Q b H'
noncomputable def AP (X:Cx) (pn:List (Addr × Obj)) (σ:St) (Q:List V->Hp->Prop) (us:List Value) (s':Shared):Prop:=∃ vs H',Inv X pn σ H' s' /\ Vals vs us /\ Q vs H'
noncomputable def SP (X:Cx) (pn:List (Addr × Obj)) (D:Ends) (f:Flow) (s':Shared):Prop :=
 match f with
 | .next=>∃ σ' H',Inv X pn σ' H' s' /\ D.nx σ' H'
 | .brk=>∃ σ' H',Inv X pn σ' H' s' /\ D.bk σ' H'
 | .cont=>∃ σ' H',Inv X pn σ' H' s' /\ D.ct σ' H'
 | .ret u=>∃ v σ' H',Inv X pn σ' H' s' /\ RelV v u /\ D.rt v H'
noncomputable def PE (X:Cx) (e:Expr) (t:TE):Prop :=
 ∀ (pn:List (Addr × Obj)) (s:Shared) (σ:St) (H:Hp) (Q:VK),Inv X pn σ H s->t σ H Q->wpAny (model X.prog X.w) X.A (eval e X.env) (EP X pn σ Q) X.xe s
noncomputable def PT (X:Cx) (e:Expr) (t:TT):Prop :=
 ∀ (pn:List (Addr × Obj)) (s:Shared) (σ:St) (H:Hp) (Q:Bool->Hp->Prop),Inv X pn σ H s->t σ H Q->wpAny (model X.prog X.w) X.A (isTrue e X.env (eval e X.env)) (TP X pn σ Q) X.xe s
noncomputable def PW (X:Cx) (e:Expr) (t:TT):Prop :=
 ∀ (whole:Sem Value) (pn:List (Addr × Obj)) (s:Shared) (σ:St) (H:Hp) (Q:Bool->Hp->Prop),Inv X pn σ H s->t σ H Q->wpAny (model X.prog X.w) X.A (isTrue e X.env whole) (TP X pn σ Q) X.xe s
theorem PW.pt {X:Cx} {e:Expr} {t:TT} (h:PW X e t):PT X e t:=h _
noncomputable def PA (X:Cx) (es:List Expr) (t:TA):Prop :=
 ∀ (pos:Pos) (pn:List (Addr × Obj)) (s:Shared) (σ:St) (H:Hp) (Q:List V->Hp->Prop),Inv X pn σ H s->t σ H Q->wpAny (model X.prog X.w) X.A (spliced (backTo pos (starEach es X.env))) (AP X pn σ Q) X.xe s
noncomputable def PS (X:Cx) (st:Stmt) (t:TS):Prop :=
 ∀ (pn:List (Addr × Obj)) (s:Shared) (σ:St) (H:Hp) (D:Ends),Inv X pn σ H s->t D σ H->wpAny (model X.prog X.w) X.A (exec st X.env) (SP X pn D) X.xe s
noncomputable def PSs (X:Cx) (st:List Stmt) (t:TS):Prop :=
 ∀ (pn:List (Addr × Obj)) (s:Shared) (σ:St) (H:Hp) (D:Ends),Inv X pn σ H s->t D σ H->wpAny (model X.prog X.w) X.A (execs st X.env) (SP X pn D) X.xe s
theorem thn {α:Type} {t:Sem α} {Q Q':α->Shared->Prop} {M:Model} {A:Around} {E:Value->Shared->Prop} {s:Shared} (h:wpAny M A t Q E s) (hQ:∀ a s,Q a s->Q' a s):wpAny M A t Q' E s:=wpAny_mono h hQ fun _ _ x=>x
section
variable {X:Cx}
noncomputable def tVar (i:Nat):TE:=fun σ H Q=>∃ v,σ[i]?=some (some v) /\ Q v H
noncomputable def tC (v:V):TE:=fun _ H Q=>Q v H
theorem vf {i:Nat} {x:Str} {pos:Pos} (hN:X.N[i]?=some x) (hv:Vis X.env.scope x) (hd:(x == ("__debug__" : Str))=false:=by decide) (hcd:(x == ("__classdict__" : Str))=false:=by decide):PE X (.Name x pos) (tVar i):=by
 intro pn s σ H Q I h
 obtain ⟨v,e,h⟩:=h
 obtain ⟨m,hn,hl⟩:=I.loc
 obtain ⟨u,r,l⟩:=hl i x v hN e hv
 have fin:EP X pn σ Q u s:=⟨v,H,I,r,h⟩
 rcases l with ⟨hk,hm⟩ | ⟨hk,c,hc,hcell⟩
 ·exact wpAny_Name (wpAny_loadName_local I.ok.kind hk hn hm fin) hd
 ·rcases hk with hk | hk
  ·exact wpAny_Name (wpAny_loadName_cell I.ok.kind hk hc hcell fin) hd
  ·exact wpAny_Name (wpAny_loadName_free I.ok.kind hk hc hcell fin hcd) hd
theorem Kh {i j pos}:PE X (.Constant (.int i) j pos) (tC (.int i)):=fun _ _ _ H _ I h=>wpAny_Constant_int ⟨.int i,H,I.tok _,⟨_,rfl⟩,h⟩
theorem Ge {b j pos}:PE X (.Constant (.bool b) j pos) (tC (.bl b)):=fun _ _ _ H _ I h=>Constant_bool ⟨.bl b,H,I,rfl,h⟩
theorem Kg {j pos}:PE X (.Constant .none j pos) (tC .non):=fun _ _ _ H _ I h=>Constant_none ⟨.non,H,I,rfl,h⟩
theorem Kb {x j pos}:PE X (.Constant (.str x) j pos) (tC (.str x)):=fun _ _ _ H _ I h=>Calls.Constant_str ⟨.str x,H,I.tok _,⟨_,rfl⟩,h⟩
noncomputable def Gl (X:Cx) (x:Str):Prop:=X.env.kindOf x=some .globalImplicit
theorem wm {E:Value->Shared->Prop} {pn:List (Addr × Obj)} {s:Shared} {σ:St} {H:Hp} {x:Str} {u:Value} {pos:Pos} {Q:Value->Shared->Prop} (I:Inv X pn σ H s) (hg:Gl X x) (hm:X.mg x=some u) (h:Q u s)
  (hd:(x == ("__debug__" : Str))=false:=by decide):wpAny (model X.prog X.w) X.A (eval (.Name x pos) X.env) Q E s :=
 Calls.Name_function_global I.ok.kind hg (Calls.loadGlobal_global (by rw [I.ok.glob]; exact I.mod.glob.keeps I.bk) hm h) hd
theorem tz {E:Value->Shared->Prop} {pn:List (Addr × Obj)} {s:Shared} {σ:St} {H:Hp} {x:Str} {u:Value} {pos:Pos} {Q:Value->Shared->Prop} (I:Inv X pn σ H s) (hg:Gl X x) (hm:X.mg x=none) (hv:bootBuiltins x=some u) (h:Q u s)
  (hn:x ≠ "__name__":=by decide) (hd:(x == ("__debug__" : Str))=false:=by decide):wpAny (model X.prog X.w) X.A (eval (.Name x pos) X.env) Q E s:=by
 obtain ⟨mb,h1,h2⟩:=I.mod.blt
 exact Calls.Name_function_global I.ok.kind hg (Calls.loadGlobal_builtin (by rw [I.ok.glob]; exact I.mod.glob.keeps I.bk) hm (by rw [I.ok.blt]; exact h1.keeps I.bk) ((h2 x hn).trans hv) h) hd
theorem Ow {x:Str} {v:V} {u:Value} {pos:Pos} (hg:Gl X x) (hm:X.mg x=some u) (r:RelV v u) (hd:(x == ("__debug__" : Str))=false:=by decide):PE X (.Name x pos) (tC v) :=
 fun _ _ _ H _ I h=>wm I hg hm ⟨v,H,I,r,h⟩ hd
theorem Oz {x:Str} {v:V} {u:Value} {pos:Pos} (hg:Gl X x) (hm:X.mg x=none) (hv:bootBuiltins x=some u) (r:RelV v u) (hn:x ≠ "__name__":=by decide) (hd:(x == ("__debug__" : Str))=false:=by decide):PE X (.Name x pos) (tC v) :=
 fun _ _ _ H _ I h=>tz I hg hm hv ⟨v,H,I,r,h⟩ hn hd
variable {a b:Expr} {ta tb:TE} {pos:Pos}
noncomputable def tB (t:TE):TT:=fun σ H Q=>t σ H fun x H1=>∃ c,x=.bl c /\ Q c H1
theorem K4 {e:Expr} {t:TE} (h:PE X e t) (he:∀ whole,isTrue e X.env whole=(do let v <- whole; standAt e.pos; holding [v] (truthy v)):=by intro _; rfl):PT X e (tB t):=by
 intro pn s σ H Q I hw
 refine isTrue_plain (thn (h pn s σ H _ I hw) fun v s1 ⟨x,H1,I1,r1,q1⟩=>?_) (he _)
 obtain ⟨d,rfl,q⟩:=q1
 cases r1
 exact wpAny_truthy_bool ⟨H1,I1,q⟩
variable {tA tB':TT} {rest:List Expr}
noncomputable def tAnd (t u:TT):TT:=fun σ H Q=>t σ H fun c H1=>if c=true then u σ H1 Q else Q false H1
noncomputable def tOr (t u:TT):TT:=fun σ H Q=>t σ H fun c H1=>if c=true then Q true H1 else u σ H1 Q
noncomputable def tNot (t:TT):TT:=fun σ H Q=>t σ H fun c H1=>Q (!c) H1
theorem Oi (ha:PT X a tA):PW X (.BoolOp .And [a] pos) tA:=by
 intro wh pn s σ H Q I h
 refine isTrue_and (thn (ha pn s σ H Q I h) fun c s1 e=>?_)
 cases c with
 | true=>exact isTrue_and_nil e
 | false=>exact e
theorem Lz (ha:PT X a tA):PW X (.BoolOp .Or [a] pos) tA:=by
 intro wh pn s σ H Q I h
 refine isTrue_or (thn (ha pn s σ H Q I h) fun c s1 e=>?_)
 cases c with
 | false=>exact isTrue_or_nil e
 | true=>exact e
theorem K1 (ha:PT X a tA) (hb:PW X (.BoolOp .And (b :: rest) pos) tB'):PW X (.BoolOp .And (a :: b :: rest) pos) (tAnd tA tB'):=by
 intro wh pn s σ H Q I h
 refine isTrue_and (thn (ha pn s σ H _ I h) fun c s1 ⟨H1,I1,q1⟩=>?_)
 cases c with
 | true=>exact hb wh pn s1 σ H1 Q I1 q1
 | false=>exact ⟨H1,I1,q1⟩
theorem Gb (ha:PT X a tA) (hb:PW X (.BoolOp .Or (b :: rest) pos) tB'):PW X (.BoolOp .Or (a :: b :: rest) pos) (tOr tA tB'):=by
 intro wh pn s σ H Q I h
 refine isTrue_or (thn (ha pn s σ H _ I h) fun c s1 ⟨H1,I1,q1⟩=>?_)
 cases c with
 | true=>exact ⟨H1,I1,q1⟩
 | false=>exact hb wh pn s1 σ H1 Q I1 q1
theorem K5 (ha:PT X a tA):PT X (.UnaryOp .Not a pos) (tNot tA):=by
 intro pn s σ H Q I h
 exact isTrue_not (ha pn s σ H (fun c H1=>Q (!c) H1) I h)
noncomputable def G4 (ta tb:TE):TE:=fun σ H Q=>ta σ H fun x H1=>∃ c,x=.bl c /\ if c=true then tb σ H1 Q else Q (.bl false) H1
noncomputable def Hx (ta:TE):TE:=fun σ H Q=>ta σ H fun x H1=>∃ c,x=.bl c /\ Q (.bl (!c)) H1
theorem Ke {op} {t:TE} (h:PE X a t):PE X (.BoolOp op [a] pos) t:=fun pn s σ H Q I hw=>BoolOp_one (h pn s σ H Q I hw)
theorem Kj (ha:PE X a ta) (hb:PE X (.BoolOp .And (b :: rest) pos) tb):PE X (.BoolOp .And (a :: b :: rest) pos) (G4 ta tb):=by
 intro pn s σ H Q I h
 refine BoolOp_and (thn (ha pn s σ H _ I h) fun v s1 ⟨x,H1,I1,r1,q1⟩=>?_)
 obtain ⟨c,rfl,q1⟩:=q1
 cases r1
 refine wpAny_truthy_bool ?_
 cases c with
 | true=>exact hb pn s1 σ H1 Q I1 q1
 | false=>exact ⟨.bl false,H1,I1,rfl,q1⟩
theorem Kf (ha:PE X a ta):PE X (.UnaryOp .Not a pos) (Hx ta):=by
 intro pn s σ H Q I h
 refine UnaryOp_ (thn (ha pn s σ H _ I h) fun v s1 ⟨x,H1,I1,r1,q1⟩=>?_)
 obtain ⟨c,rfl,q1⟩:=q1
 cases r1
 exact not_of (wpAny_truthy_bool ⟨.bl (!c),H1,I1,rfl,q1⟩)
noncomputable def tIf (t:TT) (ta tb:TE):TE:=fun σ H Q=>t σ H fun c H1=>if c=true then ta σ H1 Q else tb σ H1 Q
theorem Rh {c:Expr} (hc:PT X c tA) (ha:PE X a ta) (hb:PE X b tb):PE X (.IfExp c a b pos) (tIf tA ta tb):=by
 intro pn s σ H Q I h
 refine wpAny_IfExp (thn (hc pn s σ H _ I h) fun d s1 ⟨H1,I1,q1⟩=>?_)
 cases d with
 | true=>exact ha pn s1 σ H1 Q I1 q1
 | false=>exact hb pn s1 σ H1 Q I1 q1
end
noncomputable def SqL (K:W.Frag) (H:Hp) (a:Addr) (xs:List V):Prop :=
 Rd H a (.lst xs) \/
  ∃ (o:Obj) (its:Array Value) (n:Nat),K.lookup a=some o /\ o.cls=.type "list" /\ o.dict=none /\ o.data=.seq its n /\ its.size <= sizeLine /\ Vals xs its.toList
noncomputable def SqT (K:W.Frag) (H:Hp) (a:Addr) (xs:List V):Prop :=
 Rd H a (.tup xs) \/
  ∃ (o:Obj) (its:Array Value) (n:Nat),K.lookup a=some o /\ o.cls=.type "tuple" /\ o.data=.seq its n /\ its.size <= sizeLine /\ Vals xs its.toList
noncomputable def absV:Value->Option V
 | .none=>some .non
 | .bool b=>some (.bl b)
 | .int i _=>some (.int i)
 | .str x _=>some (.str x)
 | .bytes b _=>some (.byt b)
 | .float b _=>some (.flt b)
 | .ref a=>some (.ref a)
 | .type n=>some (.ty n)
 | _=>none
theorem RelV.abs {x:V} {u:Value} (r:RelV x u):absV u=some x:=by
 cases x with
 | non=>cases r; rfl
 | bl _=>cases r; rfl
 | int _=>obtain ⟨t,rfl⟩:=r; rfl
 | str _=>obtain ⟨t,rfl⟩:=r; rfl
 | byt _=>obtain ⟨t,rfl⟩:=r; rfl
 | flt _=>obtain ⟨t,rfl⟩:=r; rfl
 | ref _=>cases r; rfl
 | ty _=>cases r; rfl
theorem RelV.inj {x y:V} {u:Value} (r:RelV x u) (q:RelV y u):x=y:=Option.some.inj (r.abs.symm.trans q.abs)
theorem Vals.inj:∀ {xs ys:List V} {us:List Value},Vals xs us->Vals ys us->xs=ys
 | _,_,_,.nil,.nil=>rfl
 | _,_,_,.cons r t,.cons r' t'=>by rw [r.inj r',Vals.inj t t']
section
variable {X:Cx} {pn:List (Addr × Obj)} {σ:St} {H:Hp} {s:Shared} {a:Addr} {xs ys:List V}
theorem SqL.of {K:W.Frag} (h:H a=some (.lst xs)):SqL K H a xs:=.inl (.inl h)
theorem SqT.of {K:W.Frag} (h:H a=some (.tup xs)):SqT K H a xs:=.inl (.inl h)
theorem Inv.list (I:Inv X pn σ H s) (h:SqL X.K H a xs):∃ its:List Value,Vals xs its /\ PlainL s.heap a its.toArray /\ xs.length <= sizeLine:=by
 rcases h with h | ⟨o,its,n,hk,hc,hd,hs,hz,r⟩
 ·obtain ⟨z,its,n,r,e⟩:=h.ok I.hok
  exact ⟨its,r,⟨_,n,e,rfl,rfl,rfl⟩,z⟩
 ·refine ⟨its.toList,r,⟨o,n,I.kIn a o hk,hc,hd,by simpa using hs⟩,?_⟩
  have e:=r.length
  simp only [Array.length_toList] at e
  omega
theorem Inv.tuple (I:Inv X pn σ H s) (h:SqT X.K H a xs):∃ its:List Value,Vals xs its /\ IsTup s.heap a its.toArray /\ xs.length <= sizeLine:=by
 rcases h with h | ⟨o,its,n,hk,hc,hs,hz,r⟩
 ·obtain ⟨z,its,r,p⟩:=h.ok I.hok
  exact ⟨its,r,p.1,z⟩
 ·refine ⟨its.toList,r,⟨o,I.kIn a o hk,hc,n,by simpa using hs⟩,?_⟩
  have e:=r.length
  simp only [Array.length_toList] at e
  omega
theorem Inv.list_inj (I:Inv X pn σ H s) (h:SqL X.K H a xs) (h':SqL X.K H a ys):xs=ys:=by
 obtain ⟨its,r,⟨o,n,e,_,_,d⟩,_⟩:=I.list h
 obtain ⟨its',r',⟨o',n',e',_,_,d'⟩,_⟩:=I.list h'
 rw [e] at e'; cases e'
 rw [d] at d'
 injection d' with d1 _
 have:its=its':=by simpa using congrArg Array.toList d1
 subst this
 exact r.inj r'
theorem Inv.tuple_inj (I:Inv X pn σ H s) (h:SqT X.K H a xs) (h':SqT X.K H a ys):xs=ys:=by
 obtain ⟨its,r,⟨o,e,_,n,d⟩,_⟩:=I.tuple h
 obtain ⟨its',r',⟨o',e',_,n',d'⟩,_⟩:=I.tuple h'
 rw [e] at e'; cases e'
 rw [d] at d'
 injection d' with d1 _
 have:its=its':=by simpa using congrArg Array.toList d1
 subst this
 exact r.inj r'
end
noncomputable abbrev Cx.wish (X:Cx) (E:Value->Shared->Prop):Cx:={ X with xe:=E }
noncomputable abbrev Cx.nox (X:Cx):Cx:=X.wish fun _ _=>False
theorem Cx.Ok.wish {X:Cx} (ok:X.Ok) (E:Value->Shared->Prop):(X.wish E).Ok :=
 ⟨ok.mod,ok.kind,ok.glob,ok.blt,ok.above,ok.inj,ok.has,ok.cab,ok.hd,ok.frames,ok.stk,ok.exf,ok.bs,ok.bsz,ok.noex,ok.exfs,ok.funs,ok.frf⟩
theorem Cx.Ok.unwish {X:Cx} {E:Value->Shared->Prop} (ok:(X.wish E).Ok):X.Ok :=
 ⟨ok.mod,ok.kind,ok.glob,ok.blt,ok.above,ok.inj,ok.has,ok.cab,ok.hd,ok.frames,ok.stk,ok.exf,ok.bs,ok.bsz,ok.noex,ok.exfs,ok.funs,ok.frf⟩
section
variable {X:Cx} {pn:List (Addr × Obj)} {σ:St} {H:Hp} {s:Shared} {E:Value->Shared->Prop}
theorem Inv.wish (I:Inv X pn σ H s) (E:Value->Shared->Prop):Inv (X.wish E) pn σ H s:=⟨I.ok.wish E,I.os,I.bare,I.base,I.loc,I.cell,I.free,I.freeC,I.pin,I.hok,I.len⟩
theorem Inv.unwish (I:Inv (X.wish E) pn σ H s):Inv X pn σ H s:=⟨I.ok.unwish,I.os,I.bare,I.base,I.loc,I.cell,I.free,I.freeC,I.pin,I.hok,I.len⟩
theorem SP.unwish {D:Ends} {f:Flow} {s':Shared} (h:SP (X.wish E) pn D f s'):SP X pn D f s':=by
 cases f with
 | next=>obtain ⟨σ',H',I,q⟩:=h; exact ⟨σ',H',I.unwish,q⟩
 | brk=>obtain ⟨σ',H',I,q⟩:=h; exact ⟨σ',H',I.unwish,q⟩
 | cont=>obtain ⟨σ',H',I,q⟩:=h; exact ⟨σ',H',I.unwish,q⟩
 | ret u=>obtain ⟨v,σ',H',I,r,q⟩:=h; exact ⟨v,σ',H',I.unwish,r,q⟩
theorem PSs.nox {st:List Stmt} {t:TS} (h:PSs X.nox st t):PSs X st t:=fun pn s σ H D I hw =>
 wpAny_mono (h pn s σ H D (I.wish _) hw) (fun _ _ q=>q.unwish) fun _ _ z=>False.elim z
end
section
variable {X:Cx} {st:Stmt} {rest:List Stmt} {t u:TS} {e:Expr} {te:TE} {pos:Pos}
noncomputable def Hy:TS:=fun D σ H=>D.nx σ H
noncomputable def tSeq (t u:TS):TS:=fun D σ H=>t { D with nx:=u D } σ H
theorem qe:PSs X [] Hy:=fun _ _ σ H _ I h=>wpAny_execs_nil ⟨σ,H,I,h⟩
theorem wt (h1:PS X st t) (h2:PSs X rest u):PSs X (st :: rest) (tSeq t u):=by
 intro pn s σ H D I h
 refine wpAny_execs_cons (thn (h1 pn s σ H { D with nx:=u D } I h) fun f s1 q=>?_)
 cases f with
 | next =>
  obtain ⟨σ',H',I',q⟩:=q
  exact h2 pn s1 σ' H' D I' q
 | ret v=>exact q
 | brk=>exact q
 | cont=>exact q
theorem qc (h1:PS X st t):PSs X [st] t:=by
 intro pn s σ H D I h
 refine wpAny_execs_cons (thn (h1 pn s σ H D I h) fun f s1 q=>?_)
 cases f with
 | next=>exact wpAny_execs_nil q
 | ret v=>exact q
 | brk=>exact q
 | cont=>exact q
noncomputable def Hz:TS:=fun D σ H=>D.ct σ H
theorem Y0:PS X (.Continue pos) Hz:=fun _ _ σ H _ I h=>wpAny_Continue ⟨σ,H,I,h⟩
theorem Inv.quiet {pn:List (Addr × Obj)} {σ:St} {H:Hp} {s:Shared} (I:Inv X pn σ H s):interactive X.env=false:=by simp [interactive,I.ok.kind]
noncomputable def Wa (te:TE):TS:=fun D σ H=>te σ H fun _ H1=>D.nx σ H1
theorem ue (he:PE X e te) (hs:swapsWith e none pos.line X.env=pure false:=by rfl):PS X (.Expr e pos) (Wa te):=by
 intro pn s σ H D I h
 exact wpAny_Expr_any (thn (he pn s σ H _ I h) fun v s1 ⟨x,H1,I1,r1,q1⟩=>⟨σ,H1,I1,q1⟩) I.quiet hs
noncomputable def tRet (te:TE):TS:=fun D σ H=>te σ H D.rt
theorem cz (he:PE X e te):PS X (.Return (some e) pos) (tRet te):=by
 intro pn s σ H D I h
 exact wpAny_Return_some (thn (he pn s σ H _ I h) fun v s1 ⟨x,H1,I1,r1,q1⟩=>⟨x,σ,H1,I1,r1,q1⟩)
noncomputable def tIfS (c:TT) (t u:TS):TS:=fun D σ H=>c σ H fun b H1=>if b=true then t D σ H1 else u D σ H1
theorem Om {c:Expr} {a b:List Stmt} {tc:TT} (hc:PT X c tc) (ha:PSs X a t) (hb:PSs X b u):PS X (.If c a b pos) (tIfS tc t u):=by
 intro pn s σ H D I h
 refine wpAny_If (thn (hc pn s σ H _ I h) fun d s1 ⟨H1,I1,q1⟩=>?_)
 cases d with
 | true=>exact ha pn s1 σ H1 D I1 q1
 | false=>exact hb pn s1 σ H1 D I1 q1
noncomputable def Mw:TS:=fun _ _ _=>False
theorem cy {sts:List Stmt}:PSs X sts Mw:=fun _ _ _ _ _ _ h=>h.elim
end
noncomputable abbrev TG:=V->St->Hp->(St->Hp->Prop)->Prop
noncomputable abbrev TGs:=List V->St->Hp->(St->Hp->Prop)->Prop
noncomputable def PG (X:Cx) (target:Expr) (t:TG):Prop :=
 ∀ (pn:List (Addr × Obj)) (s:Shared) (σ:St) (H:Hp) (v:V) (u:Value) (Q:St->Hp->Prop),Inv X pn σ H s->RelV v u->t v σ H Q ->
  wpAny (model X.prog X.w) X.A (assign target X.env u) (fun _ s'=>∃ σ' H',Inv X pn σ' H' s' /\ Q σ' H') X.xe s
noncomputable def PGs (X:Cx) (ts:List Expr) (t:TGs):Prop :=
 ∀ (pn:List (Addr × Obj)) (s:Shared) (σ:St) (H:Hp) (vs:List V) (us:List Value) (Q:St->Hp->Prop),Inv X pn σ H s->Vals vs us->t vs σ H Q ->
  wpAny (model X.prog X.w) X.A (assignInOrder ((assignEach ts X.env).map (·.2)) us) (fun _ s'=>∃ σ' H',Inv X pn σ' H' s' /\ Q σ' H') X.xe s
noncomputable abbrev TSet:=V->V->V->Hp->(Hp->Prop)->Prop
noncomputable def PSet (X:Cx) (t:TSet):Prop :=
 ∀ (pn:List (Addr × Obj)) (s:Shared) (σ:St) (H:Hp) (o i v:V) (ov iv u:Value) (Q:Hp->Prop),Inv X pn σ H s->RelV o ov->RelV i iv->RelV v u->t o i v H Q ->
  wpAny (model X.prog X.w) X.A (setItem ov iv u) (fun _ s'=>∃ H',Inv X pn σ H' s' /\ Q H') X.xe s
section
variable {X:Cx} {pos:Pos}
noncomputable def kz (i:Nat):TG:=fun v σ H Q=>Q (σ.set i (some v)) H
theorem ya {i:Nat} {x:Str} (hN:X.N.Nodup) (hi:X.N[i]?=some x) (hx:Loc X.env.scope x) (hf:X.fn x=true \/ X.env.scope.names.lookup x=some .local:=by first | exact .inl rfl | exact .inr rfl | assumption):PG X (.Name x pos) (kz i):=by
 intro pn s σ H v u Q I r h
 exact wpAny_assign_Name (jw I hN hi hx r (fun s' I'=>⟨_,H,I',h⟩) hf)
noncomputable def gNil:TGs:=fun vs σ H Q=>vs=[] /\ Q σ H
noncomputable def Wu (t:TG) (u:TGs):TGs:=fun vs σ H Q=>∃ v r,vs=v :: r /\ t v σ H fun σ' H'=>u r σ' H' Q
theorem gc:PGs X [] gNil:=by
 intro pn s σ H vs us Q I r h
 obtain ⟨e,h⟩:=h
 subst e
 cases r
 exact assignInOrder_nil ⟨σ,H,I,h⟩
theorem wv {e:Expr} {es:List Expr} {t:TG} {u:TGs} (h1:PG X e t) (h2:PGs X es u)
  (hs:(assignEach (e :: es) X.env).map (·.2)=assign e X.env :: (assignEach es X.env).map (·.2):=by rfl):PGs X (e :: es) (Wu t u):=by
 intro pn s σ H vs us Q I r h
 obtain ⟨v,vr,e1,h⟩:=h
 subst e1
 cases r with
 | cons r rr =>
  rw [hs]
  refine assignInOrder_cons (thn (h1 pn s σ H _ _ _ I r h) fun _ s1 ⟨σ1,H1,I1,q1⟩=>?_)
  exact h2 pn s1 σ1 H1 _ _ Q I1 rr q1
noncomputable def gTup (K:W.Frag) (n:Nat) (t:TGs):TG:=fun v σ H Q=>∃ a xs,v=.ref a /\ SqT K H a xs /\ xs.length=n /\ t xs σ H Q
theorem K9 {es:List Expr} {k:Nat} {t:TGs} {n:Nat} (hc:X.calm=true) (h:PGs X es t)
  (hn:(assignEach es X.env).length=n:=by rfl) (hst:(assignEach es X.env).findIdx? (·.1)=none:=by rfl):PG X (.Tuple es k pos) (gTup X.K n t):=by
 intro pn s σ H v u Q I r hw
 obtain ⟨a,xs,e1,hq,hl,hw⟩:=hw
 subst e1
 cases r
 obtain ⟨its,rv,ht,hz⟩:=I.tuple hq
 refine assign_Tuple_tuple (I.ok.hd hc) ht (by simp [hn,<- hl,rv.length]) hst fun h' hx=>?_
 have I1:Inv X pn σ H { s with heap:=h' }:=I.kept (t':=s.toks) fun b o e=>hx b o (Nat.ne_of_lt (Heap.lt_size e)) e
 exact h pn _ σ H xs _ Q I1 (by simpa using rv) hw
noncomputable def gSub (to ti:TE) (t:TSet):TG:=fun v σ H Q=>to σ H fun o H1=>ti σ H1 fun i H2=>t o i v H2 fun H3=>Q σ H3
theorem Pf {o i:Expr} {to ti:TE} {t:TSet} (ho:PE X o to) (hi:PE X i ti) (hs:PSet X t)
  (ha:∀ v,assign (.Subscript o i pos) X.env v=(do
   let ov <- holding [v] (eval o X.env)
   let iv <- holding [v,ov] (eval i X.env)
   standAt pos
   holding [v,ov,iv] (setItem ov iv v)
   release [v,ov,iv] []):=by intro _; rfl):PG X (.Subscript o i pos) (gSub to ti t):=by
 intro pn s σ H v u Q I r h
 rw [ha]
 refine wpAny_bind (wpAny_holding (thn (ho pn s σ H _ I h) fun ov s1 ⟨x,H1,I1,r1,q1⟩=>?_))
 refine wpAny_bind (wpAny_holding (thn (hi pn s1 σ H1 _ I1 q1) fun iv s2 ⟨y,H2,I2,r2,q2⟩=>?_))
 refine wpAny_bind (wpAny_standAt (wpAny_bind (wpAny_holding (thn (hs pn s2 σ H2 x y v ov iv u _ I2 r1 r2 r q2) fun _ s3 ⟨H3,I3,q3⟩=>?_))))
 exact wpAny_release ⟨σ,H3,I3,q3⟩
noncomputable def tAsg (te:TE) (g:TG):TS:=fun D σ H=>te σ H fun x H1=>g x σ H1 D.nx
theorem Xe {tg e:Expr} {te:TE} {g:TG} (he:PE X e te) (hg:PG X tg g) (hs:swapsWithSole [tg] e pos.line X.env=pure false:=by rfl) (hw:swappedStores [tg] e X.env=pure none:=by rfl)
  (h1:(assignEach [tg] X.env).map (·.2)=[assign tg X.env]:=by rfl):PS X (.Assign [tg] e pos) (tAsg te g):=by
 intro pn s σ H D I h
 refine wpAny_Assign_stores (thn (he pn s σ H _ I h) fun v s1 ⟨x,H1,I1,r1,q1⟩=>?_) hs hw
 rw [h1]
 exact thn (hg pn s1 σ H1 x v _ I1 r1 q1) fun _ s2 q=>q
theorem qf {i:Nat} {x:Str} {e:Expr} {te:TE} {pos':Pos} (hN:X.N.Nodup) (hi:X.N[i]?=some x) (hx:Loc X.env.scope x) (he:PE X e te) (hs:swapsWith e (some (.Name x pos')) pos.line X.env=pure false:=by rfl) (hf:X.fn x=true \/ X.env.scope.names.lookup x=some .local:=by first | exact .inl rfl | exact .inr rfl | assumption) :
  PS X (.Assign [.Name x pos'] e pos) (tAsg te (kz i)):=by
 intro pn s σ H D I h
 refine wpAny_Assign_Name (thn (he pn s σ H _ I h) fun v s1 ⟨y,H1,I1,r1,q1⟩=>?_) hs
 exact jw I1 hN hi hx r1 (fun s2 I2=>⟨_,H1,I2,q1⟩) hf
noncomputable def Mu (c:TT) (tb:TS):TS:=fun D σ H=>∃ W:Nat->St->Hp->Prop,(∃ m,W m σ H) /\ ∀ m σ H,W m σ H ->
 c σ H fun b H1=>if b=true then ∃ N:St->Hp->Prop,(∀ σ' H',N σ' H'->∃ m',m' < m /\ W m' σ' H') /\ tb { D with nx:=N,ct:=N,bk:=D.nx } σ H1 else D.nx σ H1
theorem Xd {c:Expr} {body:List Stmt} {tc:TT} {tb:TS} (hp:PassesOwn (model X.prog X.w) X.A X.env X.xe) (hc:PT X c tc) (hb:PSs X body tb):PS X (.While c body [] pos) (Mu tc tb):=by
 intro pn s σ H D I h
 obtain ⟨W,⟨m0,w0⟩,turn⟩:=h
 refine wpAny_While (codeAny_whileLoop (fun n s'=>∃ σ' H',Inv X pn σ' H' s' /\ W n σ' H') ?_ m0 ⟨σ,H,I,w0⟩)
 rintro n s1 ⟨σ1,H1,I1,w1⟩
 refine wpAny_passesOwn hp (thn (hc pn s1 σ1 H1 _ I1 (turn n σ1 H1 w1)) fun b s2 ⟨H2,I2,q2⟩=>?_)
 cases b with
 | true =>
  obtain ⟨N,hN,q2⟩:=q2
  rw [if_pos rfl]
  refine wpAny_passesOwn hp (thn (hb pn s2 σ1 H2 _ I2 q2) fun f s3 q3=>?_)
  cases f with
  | next =>
   obtain ⟨σ3,H3,I3,n3⟩:=q3
   obtain ⟨m',hm,w3⟩:=hN σ3 H3 n3
   exact ⟨m',hm,σ3,H3,I3,w3⟩
  | cont =>
   obtain ⟨σ3,H3,I3,n3⟩:=q3
   obtain ⟨m',hm,w3⟩:=hN σ3 H3 n3
   exact ⟨m',hm,σ3,H3,I3,w3⟩
  | brk=>exact q3
  | ret v=>exact q3
 | false =>
  rw [if_neg Bool.false_ne_true]
  exact wpAny_execs_nil ⟨σ1,H2,I2,q2⟩
end
structure It where
 go:Nat->Hp->Prop
 yld:Nat->Hp->V->Hp->Prop
 stop:Nat->Hp->Prop
noncomputable def FpOk (X:Cx) (pn:List (Addr × Obj)) (H:Hp) (b:Addr):Prop :=
 H b=none /\ b ≠ X.env.locals /\ b ∉ X.fs /\ (b ∈ X.ex \/ X.s₀.heap.objs.size <= b) /\ (∀ x c,X.env.cells.lookup x=some c->c ≠ b) /\ ∀ p ∈ X.pn ++ pn,p.1 ≠ b
theorem Inv.fpOk {X:Cx} {pn:List (Addr × Obj)} {σ:St} {H H':Hp} {s:Shared} {b:Addr} (I:Inv X pn σ H s) (hb:s.heap.objs.size <= b) (hn:H' b=none):FpOk X pn H' b:=by
 refine ⟨hn,Nat.ne_of_gt (Nat.lt_of_lt_of_le I.lt hb),I.nofs hb,.inr (Nat.le_trans I.sz hb),fun x c e z=>?_,fun p hp z=>?_⟩
 ·obtain ⟨v,q⟩:=I.cell x c e
  exact absurd (Nat.lt_of_lt_of_le q.lt (by rw [z]; exact hb)) (Nat.lt_irrefl _)
 ·exact absurd (Nat.lt_of_lt_of_le (Heap.lt_size (I.pin p hp).1) (by rw [z]; exact hb)) (Nat.lt_irrefl _)
structure Turn (P:Program) (w:World) (K:W.Frag) (tg:Expr) (J:It) (fp:List Addr) (it:Addr) (tn:Nat->Heap->Prop):Prop where
 mem:it ∈ fp
 obj:∀ i h,tn i h->∀ b ∈ fp,∃ o,h.get? b=some o /\ ∀ v,o.data ≠ .cell v
 keep:∀ i h h',tn i h->(∀ b ∈ fp,∀ o,h.get? b=some o->h'.get? b=some o)->tn i h'
 item:∀ (X:Cx),X.prog=P->X.w=w->X.K=K->X.calm=true->∀ (i:Nat) (pn:List (Addr × Obj)) (s:Shared) (σ:St) (H:Hp) (E:Value->Shared->Prop),Inv X pn σ H s->(∀ b ∈ fp,FpOk X pn H b)->tn i s.heap->J.go i H ->
  wpAny (model P w) X.A (pyNext (.ref it)) (fun r s1=>∃ u,r=some u /\
   wpAny (model P w) X.A (letOwnedTupleGo tg (.ref it) u) (fun _ s2=>∃ x H',Inv X pn σ H' s2 /\ RelV x u /\ J.yld i H x H' /\ tn (i + 1) s2.heap /\ ∀ b ∈ fp,H' b=none) E s1) E s
 done:∀ (X:Cx),X.prog=P->X.w=w->X.K=K->X.calm=true->∀ (i:Nat) (pn:List (Addr × Obj)) (s:Shared) (σ:St) (H:Hp) (E:Value->Shared->Prop),Inv X pn σ H s->(∀ b ∈ fp,FpOk X pn H b)->tn i s.heap->J.stop i H ->
  wpAny (model P w) X.A (pyNext (.ref it)) (fun r s1=>r=none /\ Inv X pn σ H s1) E s
 self:∀ (A:Around) (i:Nat) (s:Shared) (Q:Value->Shared->Prop) (E:Value->Shared->Prop),tn i s.heap->Q (.ref it) s->wpAny (model P w) A (pyIter (.ref it)) Q E s
noncomputable abbrev TI:=St->Hp->(It->Hp->Prop)->Prop
noncomputable def PIE (X:Cx) (pn:List (Addr × Obj)) (σ:St) (tg:Expr) (R:It->Hp->Prop) (itv:Value) (s2:Shared):Prop :=
 ∃ (it:Addr) (fp:List Addr) (tn:Nat->Heap->Prop) (J:It) (H':Hp),itv=.ref it /\ Inv X pn σ H' s2 /\ Turn X.prog X.w X.K tg J fp it tn /\ tn 0 s2.heap /\ (∀ b ∈ fp,FpOk X pn H' b) /\ R J H'
noncomputable def PI (X:Cx) (tg iter:Expr) (wi:TI):Prop :=
 ∀ (pn:List (Addr × Obj)) (s:Shared) (σ:St) (H:Hp) (R:It->Hp->Prop),Inv X pn σ H s->wi σ H R ->
  wpAny (model X.prog X.w) X.A (eval iter X.env) (fun v s1=>wpAny (model X.prog X.w) X.A (pyIter v) (PIE X pn σ tg R) X.xe s1) X.xe s
theorem Q7 {M:Model} {A:Around} {E:Value->Shared->Prop} {s:Shared} {tg:Expr} {it:Addr} {u:Value} {o:Obj} {n:String} {vs:Array Value} {Q:Unit->Shared->Prop} (ho:s.heap.get? it=some o) (hc:o.cls=.type n) (hd:o.data=.fields vs)
  (hn:["enumerate", "zip", "dict_itemiterator", "dict_reverseitemiterator", "odict_iterator", "itertools.zip_longest", "itertools.pairwise"].contains n=false) (hQ:Q () s):wpAny M A (letOwnedTupleGo tg (.ref it) u) Q E s:=by
 unfold letOwnedTupleGo
 cases tg <;> first
  | exact wpAny_pure hQ
  | (cases u <;> first
    | exact wpAny_pure hQ
    | (refine wpAny_bind (wpAny_load ho ?_)
       rw [hc,hd]
       show wpAny M A (if (["enumerate", "zip", "dict_itemiterator", "dict_reverseitemiterator", "odict_iterator", "itertools.zip_longest", "itertools.pairwise"].contains n && vs[0]? == some (rawInt _))=true then _ else _) Q E s
       rw [if_neg (by intro h; rw [hn,Bool.false_and] at h; cases h)]
       exact wpAny_pure hQ))
noncomputable def Itl (K:W.Frag) (a:Addr):It :=
 ⟨fun i H=>∃ xs x,SqL K H a xs /\ xs[i]?=some x,fun i H x H'=>H'=H /\ ∀ xs,SqL K H a xs->xs[i]?=some x,fun i H=>∃ xs,SqL K H a xs /\ xs.length <= i⟩
noncomputable def Itt (K:W.Frag) (a:Addr):It :=
 ⟨fun i H=>∃ xs x,SqT K H a xs /\ xs[i]?=some x,fun i H x H'=>H'=H /\ ∀ xs,SqT K H a xs->xs[i]?=some x,fun i H=>∃ xs,SqT K H a xs /\ xs.length <= i⟩
noncomputable def Itr (lo:Int) (n:Nat):It:=⟨fun i _=>i < n,fun i H x H'=>H'=H /\ x=.int (lo + i),fun i _=>n <= i⟩
theorem V8 {P:Program} {w:World} {K:W.Frag} {tg:Expr} (a it:Addr):Turn P w K tg (Itl K a) [it] it (fun i h=>h.IsListIter it a i) where
 mem:=by simp
 obj:=fun i h st b hb=>by
  have e:b=it:=by simpa using hb
  subst e
  obtain ⟨o,e,c,d⟩:=st
  exact ⟨o,e,fun v z=>by rw [d] at z; cases z⟩
 keep:=fun i h h' st k=>st.at fun o e=>k it (by simp) o e
 item:=by
  intro X hP hw hK hc i pn s σ H E I hf st hg
  subst hP hw hK
  obtain ⟨xs,x,hq,hx⟩:=hg
  obtain ⟨its,rv,p,hz⟩:=I.list hq
  obtain ⟨u,hu,ru⟩:=rv.get hx
  obtain ⟨f0,f1,f2,f3,f4,f5⟩:=hf it (by simp)
  refine wpAny_pyNext_list_item st p.isList (x:=u) (by simpa using hu) fun h' st' sb=>?_
  have I1:Inv X pn σ H { s with heap:=h' }:=I.turned (t':=s.toks) (fun b o hb e=>(sb.2 b hb).trans e) f0 f1 f3 f4 f5
  obtain ⟨o,e,c,d⟩:=id st'
  exact ⟨u,rfl,Q7 (s:={ s with heap:=h' }) e c d (by decide) ⟨x,H,I1,ru,⟨rfl,fun ys hy=>by rw [I.list_inj hy hq]; exact hx⟩,st',fun b hb=>(hf b hb).1⟩⟩
 done:=by
  intro X hP hw hK hc i pn s σ H E I hf st hg
  subst hP hw hK
  obtain ⟨xs,hq,hx⟩:=hg
  obtain ⟨its,rv,p,hz⟩:=I.list hq
  obtain ⟨f0,f1,f2,f3,f4,f5⟩:=hf it (by simp)
  have hl:=rv.length
  exact wpAny_pyNext_list_end (I.ok.hd hc) st p.isList (by simp; omega) fun h' eb=>⟨rfl,I.turned (t':=s.toks) (fun b o hb e=>eb b o hb e) f0 f1 f3 f4 f5⟩
 self:=fun _ _ _ _ _ st h=>wpAny_pyIter_listiter st h
theorem W8 {P:Program} {w:World} {K:W.Frag} {tg:Expr} (a it:Addr):Turn P w K tg (Itt K a) [it] it (fun i h=>h.IsTupleIter it a i) where
 mem:=by simp
 obj:=fun i h st b hb=>by
  have e:b=it:=by simpa using hb
  subst e
  obtain ⟨o,e,c,d⟩:=st
  exact ⟨o,e,fun v z=>by rw [d] at z; cases z⟩
 keep:=fun i h h' st k=>st.at fun o e=>k it (by simp) o e
 item:=by
  intro X hP hw hK hc i pn s σ H E I hf st hg
  subst hP hw hK
  obtain ⟨xs,x,hq,hx⟩:=hg
  obtain ⟨its,rv,p,hz⟩:=I.tuple hq
  obtain ⟨u,hu,ru⟩:=rv.get hx
  obtain ⟨f0,f1,f2,f3,f4,f5⟩:=hf it (by simp)
  refine wpAny_pyNext_tuple_item st (show s.heap.IsTuple a its.toArray from p) (x:=u) (by simpa using hu) fun h' st' sb=>?_
  have I1:Inv X pn σ H { s with heap:=h' }:=I.turned (t':=s.toks) (fun b o hb e=>(sb.2 b hb).trans e) f0 f1 f3 f4 f5
  obtain ⟨o,e,c,d⟩:=id st'
  exact ⟨u,rfl,Q7 (s:={ s with heap:=h' }) e c d (by decide) ⟨x,H,I1,ru,⟨rfl,fun ys hy=>by rw [I.tuple_inj hy hq]; exact hx⟩,st',fun b hb=>(hf b hb).1⟩⟩
 done:=by
  intro X hP hw hK hc i pn s σ H E I hf st hg
  subst hP hw hK
  obtain ⟨xs,hq,hx⟩:=hg
  obtain ⟨its,rv,p,hz⟩:=I.tuple hq
  obtain ⟨f0,f1,f2,f3,f4,f5⟩:=hf it (by simp)
  have hl:=rv.length
  exact wpAny_pyNext_tuple_end (I.ok.hd hc) st (show s.heap.IsTuple a its.toArray from p) (by simp; omega) fun h' eb=>⟨rfl,I.turned (t':=s.toks) (fun b o hb e=>eb b o hb e) f0 f1 f3 f4 f5⟩
 self:=fun _ _ _ _ _ st h=>wpAny_pyIter_tupleiter st h
theorem W9 {P:Program} {w:World} {K:W.Frag} {tg:Expr} (it:Addr) (lo:Int) (n:Nat):Turn P w K tg (Itr lo n) [it] it (fun i h=>IsRangeIter h it (lo + (i:Nat) * 1) ((n:Int) - (i:Nat)) 1) where
 mem:=by simp
 obj:=fun i h st b hb=>by
  have e:b=it:=by simpa using hb
  subst e
  exact ⟨_,st,fun v z=>by
   have z':Data.fields _=Data.cell v:=z
   cases z'⟩
 keep:=fun i h h' st k=>k it (by simp) _ st
 item:=by
  intro X hP hw hK hc i pn s σ H E I hf st hg
  subst hP hw hK
  obtain ⟨f0,f1,f2,f3,f4,f5⟩:=hf it (by simp)
  have W:=Walks.range (prog:=X.prog) (w:=X.w) (I.ok.hd hc) it lo 1 n
  refine W.item i s _ _ hg st fun v h' tk hv st' kk=>?_
  obtain ⟨t,rfl⟩:=hv
  have I1:Inv X pn σ H { s with heap:=h',toks:=tk }:=I.turned (fun b o hb e=>kk b o (by simpa using hb) e) f0 f1 f3 f4 f5
  refine ⟨_,rfl,Q7 (s:={ s with heap:=h',toks:=tk }) (n:="range_iterator") st' rfl rfl (by decide) ⟨.int (lo + i),H,I1,⟨t,?_⟩,⟨rfl,rfl⟩,st',fun b hb=>(hf b hb).1⟩⟩
  rw [Int.mul_one]
 done:=by
  intro X hP hw hK hc i pn s σ H E I hf st hg
  subst hP hw hK
  obtain ⟨f0,f1,f2,f3,f4,f5⟩:=hf it (by simp)
  exact wpAny_pyNext_range_end (I.ok.hd hc) st (by have:n <= i:=hg; omega) fun h' eb=>⟨rfl,I.turned (t':=s.toks) (fun b o hb e=>eb b o hb e) f0 f1 f3 f4 f5⟩
 self:=fun _ _ _ _ _ st h=>wpAny_pyIter_rangeiter st h
section
variable {X:Cx} {tg:Expr}
theorem Rb {pn:List (Addr × Obj)} {σ:St} {H:Hp} {s:Shared} {R:It->Hp->Prop} {E:Value->Shared->Prop} {lo hi:Int} {t u v:Tok} {tk:Nat} (I:Inv X pn σ H s) (h1:-(2 ^ 62) <= lo) (h2:lo < 2 ^ 62) (h3:-(2 ^ 62) <= hi) (h4:hi < 2 ^ 62)
  (q:R (Itr lo (hi - lo).toNat) H):wpAny (model X.prog X.w) X.A (pyIter (.ref s.heap.objs.size)) (PIE X pn σ tg R) E { s with heap:=s.heap.push { cls:=.type "range", data:=.fields #[.int lo t,.int hi u,.int 1 v] },toks:=tk }:=by
 refine wpAny_pyIter_range (IsRange.new ..) (small_one h1 h2 h3 h4) ?_
 have I1:Inv X pn σ H { s with heap:=s.heap.push { cls:=.type "range", data:=.fields #[.int lo t,.int hi u,.int 1 v] },toks:=tk }:=I.kept fun b o e=>Heap.get?_push_of_some _ e
 refine ⟨(s.heap.push { cls:=.type "range", data:=.fields #[.int lo t,.int hi u,.int 1 v] }).objs.size,[(s.heap.push { cls:=.type "range", data:=.fields #[.int lo t,.int hi u,.int 1 v] }).objs.size],_,_,H,rfl,
  I1.kept (t':=tk) fun b o e=>Heap.get?_push_of_some _ e,W9 _ lo (hi - lo).toNat,?_,fun b hb=>?_,q⟩
 ·have e1:lo + ((0:Nat):Int) * 1=lo:=by simp
  have e2:(((hi - lo).toNat:Nat):Int) - ((0:Nat):Int)=Builtin.Range.rangeSize lo hi 1:=by rw [rangeSize_one]; split <;> omega
  show IsRangeIter _ _ (lo + ((0:Nat):Int) * 1) ((((hi - lo).toNat:Nat):Int) - ((0:Nat):Int)) 1
  rw [e1,e2]
  exact Heap.get?_push_size _ rfl
 ·have e:b=(s.heap.push { cls:=.type "range", data:=.fields #[.int lo t,.int hi u,.int 1 v] }).objs.size:=by simpa using hb
  subst e
  exact I1.fpOk (Nat.le_refl _) (I1.hok.fresh (Nat.le_refl _))
noncomputable def Gr (ta:TA):TI:=fun σ H R=>ta σ H fun vs H1=>∃ j:Int,vs=[.int j] /\ -(2 ^ 62) <= j /\ j < 2 ^ 62 /\ R (Itr 0 j.toNat) H1
theorem Vs {a:Expr} {ta:TA} {p pos:Pos} (hg:Gl X "range") (hm:X.mg "range" = none) (ha:PA X [a] ta) (hs:starEach [a] X.env=[(false,eval a X.env)]:=by rfl):PI X tg (.Call (.Name "range" p) [a] [] pos) (Gr ta):=by
 intro pn s σ H R I h
 refine Call_ (tz I hg hm boot_range (PyProof.Rows.callWith_type1 (thn (ha pos pn s σ H _ I h) fun us s1 ⟨vs,H1,I1,r1,q1⟩=>?_) hs rfl))
 obtain ⟨j,e,q1,q2,q⟩:=q1
 subst e
 cases r1 with
 | cons r rr =>
  cases rr
  obtain ⟨t,rfl⟩:=r
  exact call_range_1 (Rb I1 (by omega) (by omega) q1 q2 (by simpa using q))
noncomputable def tFor (wi:TI) (g:TG) (tb:TS):TS:=fun D σ H=>wi σ H fun J H1=>∃ W:Nat->Nat->St->Hp->Prop,(∃ m,W 0 m σ H1) /\ ∀ i m σ H,W i m σ H ->
 (J.stop i H /\ D.nx σ H) \/ (J.go i H /\ ∃ N:St->Hp->Prop,(∀ σ' H',N σ' H'->∃ m',m' < m /\ W (i + 1) m' σ' H') /\ ∀ x H',J.yld i H x H'->g x σ H' fun σ2 H2=>tb { D with nx:=N,ct:=N,bk:=D.nx } σ2 H2)
noncomputable def b4 (fp:List Addr) (h:Heap):List (Addr × Obj):=fp.filterMap fun b=>(h.get? b).map fun o=>(b,o)
theorem u6 {fp:List Addr} {h:Heap} {b:Addr} {o:Obj} (hb:b ∈ fp) (e:h.get? b=some o):(b,o) ∈ b4 fp h:=List.mem_filterMap.mpr ⟨b,hb,by rw [e]; rfl⟩
theorem U2 {fp:List Addr} {h:Heap} {p:Addr × Obj} (hp:p ∈ b4 fp h):p.1 ∈ fp /\ h.get? p.1=some p.2:=by
 obtain ⟨b,hb,e⟩:=List.mem_filterMap.mp hp
 cases q:h.get? b with
 | none=>rw [q] at e; cases e
 | some o =>
  rw [q] at e
  have e':(b,o)=p:=Option.some.inj e
  subst e'
  exact ⟨hb,q⟩
theorem Inv.pinned {pn:List (Addr × Obj)} {σ:St} {H:Hp} {s:Shared} {fp:List Addr} (I:Inv X pn σ H s) (hf:∀ b ∈ fp,FpOk X pn H b) (ho:∀ b ∈ fp,∃ o,s.heap.get? b=some o /\ ∀ v,o.data ≠ .cell v):Inv X (pn ++ b4 fp s.heap) σ H s :=
 I.pins_of fun p hp=>(List.mem_append.mp hp).elim (fun z=>I.pin p (List.mem_append_right _ z)) fun z=>by
  obtain ⟨hb,e⟩:=U2 z
  obtain ⟨f0,f1,f2,_⟩:=hf p.1 hb
  obtain ⟨o,e',d⟩:=ho p.1 hb
  rw [e] at e'; cases e'
  exact ⟨e,f0,f1,f2,d⟩
theorem Inv.unpinned {pn pl:List (Addr × Obj)} {σ:St} {H:Hp} {s:Shared} (I:Inv X (pn ++ pl) σ H s):Inv X pn σ H s:=I.pins_of fun p hp=>I.pin p (List.mem_append_right _ (List.mem_append_left _ hp))
theorem K6 {iter:Expr} {body:List Stmt} {wi:TI} {g:TG} {tb:TS} {pos:Pos} (hp:PassesOwn (model X.prog X.w) X.A X.env X.xe) (hc:X.calm=true) (hi:PI X tg iter wi) (hg:PG X tg g) (hb:PSs X body tb)
  (hs:∀ x,foldedSetIterable iter X.env x=pure x:=by intro _; rfl):PS X (.For tg iter body [] pos) (tFor wi g tb):=by
 intro pn s σ H D I h
 refine wpAny_For (thn (hi pn s σ H _ I h) fun v s1 h1=>thn h1 fun itv s2 h2=>?_) hs
 obtain ⟨it,fp,tn,J,H2,e,I2,T,st2,f2,W,⟨m0,w0⟩,turn⟩:=h2
 subst e
 have stat:∀ {H':Hp},(∀ b ∈ fp,H' b=none)->∀ b ∈ fp,FpOk X pn H' b:=fun hn b hb=>⟨hn b hb,(f2 b hb).2⟩
 refine codeAny_forLoop_any (fun n s'=>∃ i σ' H',Inv X pn σ' H' s' /\ tn i s'.heap /\ (∀ b ∈ fp,H' b=none) /\ W i n σ' H') ?_ m0 ⟨0,σ,H2,I2,st2,fun b hb=>(f2 b hb).1,w0⟩
 rintro n s3 ⟨i,σ3,H3,I3,st3,fr3,w3⟩
 rcases turn i n σ3 H3 w3 with ⟨stop,qn⟩ | ⟨go,N,hN,step⟩
 ·refine wpAny_passesOwn hp (thn (T.done X rfl rfl rfl hc i pn s3 σ3 H3 X.xe I3 (stat fr3) st3 stop) fun r s4 ⟨hr,I4⟩=>?_)
  subst hr
  exact wpAny_execs_nil ⟨σ3,H3,I4,qn⟩
 ·refine wpAny_passesOwn hp (thn (T.item X rfl rfl rfl hc i pn s3 σ3 H3 X.xe I3 (stat fr3) st3 go) fun r s4 ⟨u,hr,h4⟩=>?_)
  subst hr
  refine wpAny_passesOwn hp (thn h4 fun _ s5 ⟨x,H5,I5,r5,y5,st5,fr5⟩=>?_)
  have I5':=I5.pinned (stat fr5) (T.obj _ _ st5)
  refine wpAny_passesOwn hp (thn (hg _ s5 σ3 H5 x u _ I5' r5 (step x H5 y5)) fun _ s6 ⟨σ6,H6,I6,q6⟩=>?_)
  refine wpAny_passesOwn hp (thn (hb _ s6 σ6 H6 _ I6 q6) fun f s7 q7=>?_)
  have again:∀ {σ7:St} {H7:Hp},Inv X (pn ++ b4 fp s5.heap) σ7 H7 s7->N σ7 H7->∃ m,m < n /\ ∃ i σ' H',Inv X pn σ' H' s7 /\ tn i s7.heap /\ (∀ b ∈ fp,H' b=none) /\ W i m σ' H':=fun {σ7 H7} I7 n7=>by
   obtain ⟨m',hm,w7⟩:=hN σ7 H7 n7
   refine ⟨m',hm,i + 1,σ7,H7,I7.unpinned,T.keep _ _ _ st5 fun b hb o e=>(I7.pin (b,o) (List.mem_append_right _ (List.mem_append_right _ (u6 hb e)))).1,fun b hb=>?_,w7⟩
   obtain ⟨o,e,d⟩:=T.obj _ _ st5 b hb
   exact (I7.pin (b,o) (List.mem_append_right _ (List.mem_append_right _ (u6 hb e)))).2.1
  cases f with
  | next=>obtain ⟨σ7,H7,I7,n7⟩:=q7; exact again I7 n7
  | cont=>obtain ⟨σ7,H7,I7,n7⟩:=q7; exact again I7 n7
  | brk=>obtain ⟨σ7,H7,I7,q7⟩:=q7; exact ⟨σ7,H7,I7.unpinned,q7⟩
  | ret v=>obtain ⟨x7,σ7,H7,I7,r7,q7⟩:=q7; exact ⟨x7,σ7,H7,I7.unpinned,r7,q7⟩
end
noncomputable abbrev R2:=V->V->Hp->VK->Prop
noncomputable def OpR (X:Cx) (f:Value->Value->Sem Value) (r:R2):Prop :=
 ∀ (pn:List (Addr × Obj)) (s:Shared) (σ:St) (H:Hp) (x y:V) (v u:Value) (Q:VK),Inv X pn σ H s->RelV x v->RelV y u->r x y H Q ->
  wpAny (model X.prog X.w) X.A (f v u) (EP X pn σ Q) X.xe s
noncomputable def UnR (X:Cx) (f:Value->Sem Value) (r:V->Hp->VK->Prop):Prop :=
 ∀ (pn:List (Addr × Obj)) (s:Shared) (σ:St) (H:Hp) (x:V) (v:Value) (Q:VK),Inv X pn σ H s->RelV x v->r x H Q ->
  wpAny (model X.prog X.w) X.A (f v) (EP X pn σ Q) X.xe s
noncomputable def u1 (X:Cx) (f:Value) (r:List V->Hp->VK->Prop):Prop :=
 ∀ (pn:List (Addr × Obj)) (s:Shared) (σ:St) (H:Hp) (xs:List V) (us:List Value) (Q:VK),Inv X pn σ H s->Vals xs us->r xs H Q ->
  wpAny (model X.prog X.w) X.A (call f us) (EP X pn σ Q) X.xe s
noncomputable def TruR (X:Cx) (r:V->Hp->(Bool->Hp->Prop)->Prop):Prop :=
 ∀ (pn:List (Addr × Obj)) (s:Shared) (σ:St) (H:Hp) (x:V) (v:Value) (Q:Bool->Hp->Prop),Inv X pn σ H s->RelV x v->r x H Q ->
  wpAny (model X.prog X.w) X.A (truthy v) (TP X pn σ Q) X.xe s
noncomputable def tOp (r:R2) (ta tb:TE):TE:=fun σ H Q=>ta σ H fun x H1=>tb σ H1 fun y H2=>r x y H2 Q
noncomputable def tUn (r:V->Hp->VK->Prop) (ta:TE):TE:=fun σ H Q=>ta σ H fun x H1=>r x H1 Q
noncomputable def rI (C:Int->Int->Prop) (g:Int->Int->V):R2:=fun x y H Q=>∃ i j,x=.int i /\ y=.int j /\ C i j /\ Q (g i j) H
noncomputable def rI0 (g:Int->Int->V):R2:=fun x y H Q=>∃ i j,x=.int i /\ y=.int j /\ Q (g i j) H
noncomputable def rU (g:Int->V):V->Hp->VK->Prop:=fun x H Q=>∃ i,x=.int i /\ Q (g i) H
section
variable {X:Cx} {a b c:Expr} {ta tb tc:TE} {pos:Pos}
theorem binT (ha:PE X a ta) (hb:PE X b tb) {pn:List (Addr × Obj)} {s:Shared} {σ:St} {H:Hp} {R:V->V->Hp->Prop} (I:Inv X pn σ H s)
  (h:ta σ H fun x H1=>tb σ H1 fun y H2=>R x y H2) {Q:Value->Shared->Prop} {f:Value->Value->Sem Value}
  (hf:∀ v u s2 x y H2,Inv X pn σ H2 s2->RelV x v->RelV y u->R x y H2->wpAny (model X.prog X.w) X.A (f v u) Q X.xe s2) :
  wpAny (model X.prog X.w) X.A (eval a X.env) (fun v s₁=>wpAny (model X.prog X.w) X.A (eval b X.env) (fun u s₂=>wpAny (model X.prog X.w) X.A (f v u) Q X.xe s₂) X.xe s₁) X.xe s:=by
 refine thn (ha pn s σ H _ I h) fun v s1 ⟨x,H1,I1,r1,q1⟩=>?_
 refine thn (hb pn s1 σ H1 _ I1 q1) fun u s2 ⟨y,H2,I2,r2,q2⟩=>?_
 exact hf v u s2 x y H2 I2 r1 r2 q2
theorem Kc {op:Operator} {r:R2} (ho:OpR X (binaryOp op) r) (ha:PE X a ta) (hb:PE X b tb):PE X (.BinOp a op b pos) (tOp r ta tb):=by
 intro pn s σ H Q I h
 exact wpAny_BinOp (binT ha hb I h fun v u s2 x y H2 I2 rx ry q=>ho pn s2 σ H2 x y v u Q I2 rx ry q)
theorem Gd {op:UnaryOp} {r:V->Hp->VK->Prop} (ho:UnR X (unaryOp op) r) (ha:PE X a ta):PE X (.UnaryOp op a pos) (tUn r ta):=by
 intro pn s σ H Q I h
 exact UnaryOp_ (thn (ha pn s σ H _ I h) fun v s1 ⟨x,H1,I1,r1,q1⟩=>ho pn s1 σ H1 x v Q I1 r1 q1)
theorem opI {f:Value->Value->Sem Value} {C:Int->Int->Prop} {g:Int->Int->Int}
  (rule:∀ (i j:Int) (t u:Tok) (s:Shared) (Q:Value->Shared->Prop) (E:Value->Shared->Prop),C i j->Q (.int (g i j) s.toks) { s with toks:=s.toks + 1 }->wpAny (model X.prog X.w) X.A (f (.int i t) (.int j u)) Q E s) :
  OpR X f (rI C fun i j=>.int (g i j)):=by
 intro pn s σ H x y v u Q I rx ry h
 obtain ⟨i,j,rfl,rfl,hc,q⟩:=h
 obtain ⟨t,rfl⟩:=rx
 obtain ⟨t',rfl⟩:=ry
 exact rule i j t t' s _ _ hc ⟨.int (g i j),H,I.tok _,⟨_,rfl⟩,q⟩
theorem opI0 {f:Value->Value->Sem Value} {g:Int->Int->Int}
  (rule:∀ (i j:Int) (t u:Tok) (s:Shared) (Q:Value->Shared->Prop) (E:Value->Shared->Prop),Q (.int (g i j) s.toks) { s with toks:=s.toks + 1 }->wpAny (model X.prog X.w) X.A (f (.int i t) (.int j u)) Q E s) :
  OpR X f (rI0 fun i j=>.int (g i j)):=by
 intro pn s σ H x y v u Q I rx ry h
 obtain ⟨i,j,rfl,rfl,q⟩:=h
 obtain ⟨t,rfl⟩:=rx
 obtain ⟨t',rfl⟩:=ry
 exact rule i j t t' s _ _ ⟨.int (g i j),H,I.tok _,⟨_,rfl⟩,q⟩
theorem opB0 {f:Value->Value->Sem Value} {g:Int->Int->Bool}
  (rule:∀ (i j:Int) (t u:Tok) (s:Shared) (Q:Value->Shared->Prop) (E:Value->Shared->Prop),Q (.bool (g i j)) s->wpAny (model X.prog X.w) X.A (f (.int i t) (.int j u)) Q E s) :
  OpR X f (rI0 fun i j=>.bl (g i j)):=by
 intro pn s σ H x y v u Q I rx ry h
 obtain ⟨i,j,rfl,rfl,q⟩:=h
 obtain ⟨t,rfl⟩:=rx
 obtain ⟨t',rfl⟩:=ry
 exact rule i j t t' s _ _ ⟨.bl (g i j),H,I,rfl,q⟩
noncomputable def CPow (i j:Int):Prop:=0 <= j /\ j <= 1000000 /\ i.natAbs < 2 ^ 64
theorem Ku:OpR X (binaryOp .Add) (rI0 fun i j=>.int (i + j)):=opI0 fun _ _ _ _ _ _ _ q=>add_int q
theorem Kl:OpR X (binaryOp .Sub) (rI0 fun i j=>.int (i - j)):=opI0 fun _ _ _ _ _ _ _ q=>sub_int q
theorem N4:OpR X (binaryOp .Mod) (rI (fun _ j=>j ≠ 0) fun i j=>.int (i.fmod j)):=opI fun _ _ _ _ _ _ _ hc q=>mod_int' hc q
theorem Kn:OpR X (binaryOp .Pow) (rI CPow fun i j=>.int (i ^ j.toNat)):=opI fun _ _ _ _ _ _ _ hc q=>pow_int_small hc.1 hc.2.1 hc.2.2 q
theorem unI {f:Value->Sem Value} {g:Int->Int}
  (rule:∀ (i:Int) (t:Tok) (s:Shared) (Q:Value->Shared->Prop) (E:Value->Shared->Prop),Q (.int (g i) s.toks) { s with toks:=s.toks + 1 }->wpAny (model X.prog X.w) X.A (f (.int i t)) Q E s) :
  UnR X f (rU fun i=>.int (g i)):=by
 intro pn s σ H x v Q I rx h
 obtain ⟨i,rfl,q⟩:=h
 obtain ⟨t,rfl⟩:=rx
 exact rule i t s _ _ ⟨.int (g i),H,I.tok _,⟨_,rfl⟩,q⟩
theorem Mr:UnR X (unaryOp .USub) (rU fun i=>.int (-i)):=unI fun _ _ _ _ _ q=>neg_int q
theorem Pl {pn:List (Addr × Obj)} {σ:St} {H:Hp} {s:Shared} {Q:VK} {k k':Bool} (I:Inv X pn σ H s) (q:Q (.bl k) H) (e:k=k'):EP X pn σ Q (.bool k') s:=by
 subst e
 exact ⟨.bl k,H,I,rfl,q⟩
theorem Gg:OpR X (compareOp .Lt) (rI0 fun i j=>.bl (decide (i < j))):=opB0 fun _ _ _ _ _ _ _ q=>lt_int q
theorem Gh:OpR X (compareOp .Gt) (rI0 fun i j=>.bl (decide (j < i))):=opB0 fun _ _ _ _ _ _ _ q=>gt_int q
theorem Gi:OpR X (compareOp .GtE) (rI0 fun i j=>.bl (decide (j <= i))):=opB0 fun _ _ _ _ _ _ _ q=>ge_int q
theorem Kq:OpR X (compareOp .Is) (fun x y H Q=>y=.non /\ Q (.bl (decide (x=.non))) H):=by
 intro pn s σ H x y v u Q I rx ry h
 obtain ⟨rfl,q⟩:=h
 cases ry
 refine is_none_gen (Pl I q ?_)
 cases x <;> first
  | (cases rx; rfl)
  | (obtain ⟨t,rfl⟩:=rx; rfl)
theorem OpR.or {f:Value->Value->Sem Value} {r r':R2} (h:OpR X f r) (h':OpR X f r'):OpR X f (fun x y H Q=>r x y H Q \/ r' x y H Q):=by
 intro pn s σ H x y v u Q I rx ry q
 rcases q with q | q
 ·exact h pn s σ H x y v u Q I rx ry q
 ·exact h' pn s σ H x y v u Q I rx ry q
theorem uh (b:Expr) {op:CmpOp} (h:op ≠ .In:=by decide) (h2:op ≠ .NotIn:=by decide):behindInMarks op b=false:=by
 have e1:(op == CmpOp.In)=false:=by cases op <;> first | rfl | exact absurd rfl h
 have e2:(op == CmpOp.NotIn)=false:=by cases op <;> first | rfl | exact absurd rfl h2
 cases b <;> simp [behindInMarks,e1,e2]
theorem Oy {op:CmpOp} {r:R2} (ho:OpR X (compareOp op) r) (ha:PE X a ta) (hb:PE X b tb) (hm:behindInMarks op b=false):PE X (.Compare a [op] [b] pos) (tOp r ta tb):=by
 intro pn s σ H Q I h
 exact wpAny_Compare1 (binT ha hb I h fun v u s2 x y H2 I2 rx ry q=>ho pn s2 σ H2 x y v u Q I2 rx ry q) hm
noncomputable def Hv (t:TE):TT:=fun σ H Q=>t σ H fun x H'=>∃ k,x=.bl k /\ Q k H'
theorem Ol {op:CmpOp} {r:R2} (ho:OpR X (compareOp op) r) (ha:PE X a ta) (hb:PE X b tb) (hm:behindInMarks op b=false):PT X (.Compare a [op] [b] pos) (Hv (tOp r ta tb)):=by
 intro pn s σ H Q I h
 refine wpAny_isTrue_Compare1 (thn (ha pn s σ H _ I h) fun v s1 ⟨x,H1,I1,r1,q1⟩=>thn (hb pn s1 σ H1 _ I1 q1) fun u s2 ⟨y,H2,I2,r2,q2⟩ =>
  thn (ho pn s2 σ H2 x y v u _ I2 r1 r2 q2) fun c s3 ⟨z,H3,I3,r3,k,e,q3⟩=>?_) hm
 subst e
 cases r3
 exact wpAny_truthy_bool ⟨H3,I3,q3⟩
noncomputable def TruV (K:W.Frag) (x:V) (H:Hp) (k:Bool):Prop :=
 match x with
 | .non=>k=false
 | .bl b=>k=b
 | .int i=>k=(i != 0)
 | .str y=>y.length <= sizeLine /\ k=((y.length:Int) != 0)
 | .byt y=>y.size <= sizeLine /\ k=((y.size:Int) != 0)
 | .ref p=>(∃ xs,SqL K H p xs /\ k=!xs.isEmpty) \/ (∃ xs,SqT K H p xs /\ k=!xs.isEmpty) \/ ∃ kvs,H p=some (.dK kvs) /\ k=!kvs.isEmpty
 | _=>False
theorem Ws {κ:Type} {kvs:List (κ × V)} {vs:List (κ × Value)} (r:KV kvs vs):(!vs.isEmpty)=!kvs.isEmpty:=by
 cases r <;> rfl
theorem jg {xs:List V} {its:List Value} (r:Vals xs its):(!its.toArray.isEmpty)=!xs.isEmpty:=by
 cases r <;> simp
theorem qm:(sizeLine:Nat) < 2 ^ 63:=by rw [sizeLine_eq]; decide
theorem Ms:TruR X (fun x H Q=>∃ k,TruV X.K x H k /\ Q k H):=by
 intro pn s σ H x v Q I rx h
 obtain ⟨k,e,q⟩:=h
 have hl:=qm
 have hs:sizeLine=16777216:=sizeLine_eq
 cases x with
 | non =>
  cases rx
  have e':k=false:=e
  subst e'
  exact truthy_none ⟨H,I,q⟩
 | bl b =>
  cases rx
  have e':k=b:=e
  subst e'
  exact wpAny_truthy_bool ⟨H,I,q⟩
 | int i =>
  obtain ⟨t,rfl⟩:=rx
  have e':k=(i != 0):=e
  subst e'
  exact PySem.P.truthy_int ⟨H,I,q⟩
 | str y =>
  obtain ⟨t,rfl⟩:=rx
  obtain ⟨hy,e'⟩:y.length <= sizeLine /\ k=((y.length:Int) != 0):=e
  subst e'
  exact PySem.P.truthy_str (by omega) ⟨H,I.tok _,q⟩
 | byt y =>
  obtain ⟨t,rfl⟩:=rx
  obtain ⟨hy,e'⟩:y.size <= sizeLine /\ k=((y.size:Int) != 0):=e
  subst e'
  exact W.truthy_bytes (by omega) ⟨H,I.tok _,q⟩
 | ref p =>
  cases rx
  have e':(∃ xs,SqL X.K H p xs /\ k=!xs.isEmpty) \/ (∃ xs,SqT X.K H p xs /\ k=!xs.isEmpty) \/ ∃ kvs,H p=some (.dK kvs) /\ k=!kvs.isEmpty:=e
  rcases e' with ⟨xs,hx,e'⟩ | ⟨xs,hx,e'⟩ | ⟨kvs,hx,e'⟩
  ·subst e'
   obtain ⟨its,r,pl,hz⟩:=I.list hx
   have hlen:=r.length
   exact wpAny_truthy_list pl.isList (by simp only [List.size_toArray]; omega) ⟨H,I.tok _,by rw [jg r]; exact q⟩
  ·subst e'
   obtain ⟨its,r,pl,hz⟩:=I.tuple hx
   have hlen:=r.length
   exact truthy_tuple pl (by simp only [List.size_toArray]; omega) ⟨H,I.tok _,by rw [jg r]; exact q⟩
  ·subst e'
   obtain ⟨hz,hS,vs,r,m⟩:kvs.length <= sizeLine /\ (p == sysModules)=false /\ ∃ vs,KV kvs vs /\ s.heap.DictOf (yd X.prog X.w) p vs:=I.hok p _ hx
   have hlen:kvs.length=vs.length:=Paired.length r
   exact wpAny_truthy_dict hS m (by omega) ⟨H,I.tok _,by rw [Ws r]; exact q⟩
 | _=>exact (show False from e).elim
theorem Rf (ha:PE X a ta) (he:∀ whole,isTrue a X.env whole=(do let v <- whole; standAt a.pos; holding [v] (truthy v))) :
  PT X a (fun σ H Q=>ta σ H fun x H'=>∃ k,TruV X.K x H' k /\ Q k H'):=by
 intro pn s σ H Q I h
 exact isTrue_plain (thn (ha pn s σ H _ I h) fun v s1 ⟨x,H1,I1,r1,q1⟩=>Ms pn s1 σ H1 x v Q I1 r1 q1) (he _)
theorem Wg:OpR X (binaryOp .Add) (fun x y H Q=>∃ i j,x=.str i /\ y=.str j /\ i.length + j.length <= sizeLine /\ Q (.str (i ++ j)) H):=by
 intro pn s σ H x y v u Q I rx ry h
 obtain ⟨i,j,rfl,rfl,hz,q⟩:=h
 obtain ⟨t,rfl⟩:=rx
 obtain ⟨t',rfl⟩:=ry
 exact add_str (fun t' tk=>⟨.str (i ++ j),H,I.tok _,⟨_,rfl⟩,q⟩) hz
theorem ci {x:V} {us:List Value} (r:Vals [x] us):∃ u,us=[u] /\ RelV x u:=by
 cases r with
 | cons r1 r2=>cases r2; exact ⟨_,rfl,r1⟩
theorem Sd {x y:V} {us:List Value} (r:Vals [x,y] us):∃ u w',us=[u,w'] /\ RelV x u /\ RelV y w':=by
 cases r with
 | cons r1 r2 =>
  cases r2 with
  | cons r3 r4=>cases r4; exact ⟨_,_,rfl,r1,r3⟩
end
structure ObjM (h:Heap) (x dx C:Addr) (mA:Str->Option Value):Prop where
 obj:h.get? x=some (W.instObj C dx)
 ns:h.Ns1 dx mA
 ne:dx ≠ x
theorem Ua {h:Heap} {dx:Addr} {mA:Str->Option Value} (n:h.Ns1 dx mA):∃ od,h.get? dx=some od /\ ∀ name,W.lookIn name od=some (mA name):=by
 obtain ⟨o,es,ep,ho,hd,hk,_,hm⟩:=n
 refine ⟨o,ho,fun name=>?_⟩
 have e:=hm name
 unfold nsFind findBy at e
 rw [<- Array.find?_toList] at e
 unfold W.lookIn
 rw [hd]
 dsimp only
 split
 ·rename_i y q
  rw [q] at e
  exact congrArg some e
 ·rename_i q
  rw [q] at e
  have a:es.toList.any (·.refKey)=false:=by
   rw [List.any_eq_false]
   intro y hy
   obtain ⟨z,t,hkey⟩:=hk y (Array.mem_toList_iff.mp hy)
   simp [DictEntry.refKey,hkey]
  have a':¬ es.toList.any (·.refKey)=true:=by rw [a]; exact Bool.false_ne_true
  rw [if_neg a']
  exact congrArg some e
theorem ObjM.look {h:Heap} {x dx C:Addr} {mA:Str->Option Value} (I:ObjM h x dx C mA):∃ od,W.InstAt h x (W.instObj C dx) C (some od) /\ ∀ name,W.lookIn name od=some (mA name) :=
 let ⟨od,ho,hl⟩:=Ua I.ns
 ⟨od,⟨I.obj,rfl,rfl,ho⟩,hl⟩
section
variable {prog:Program} {w:World} {A:Around} {E:Value->Shared->Prop} {s:Shared} {K:W.Frag} {x dx C f:Addr} {mA:Str->Option Value} {name:Str} {v:Value}
theorem Nt {expr:Bool} {Q:Value->Shared->Prop} (X:K.In s.heap) (I:ObjM s.heap x dx C mA) (hg:W.plainGet K C name=true) (hh:W.hasDictIn K C=true)
  (ha:W.findIn K (.ref C) name=some none) (hv:mA name=some v) (hv':W.handedIn v=true) (h:Q v { s with toks:=s.toks + 1 }) :
  wpAny (model prog w) A (getAttr (.ref x) name expr) Q E s:=by
 obtain ⟨od,J,hl⟩:=I.look
 exact W.get_value X J (W.plainGet_of hg).1 (W.findObj_own hh ha rfl (by rw [hl,hv])) hv' h
theorem Q8 {pl:Sem Bool} {Q:Value × List Value->Shared->Prop} (X:K.In s.heap) (I:ObjM s.heap x dx C mA) (hg:W.plainGet K C name=true)
  (hf:W.findIn K (.ref C) name=some (some (.ref f))) (ht:W.isFn K (.ref f)=true) (hv:mA name=none) (h:Q (.ref f,[.ref x]) s) :
  wpAny (model prog w) A (getMethod (.ref x) name pl) Q E s:=by
 obtain ⟨od,J,hl⟩:=I.look
 exact W.method_fn X J (W.plainGet_of hg).1 (W.plainGet_of hg).2 hf (beq_iff_eq.mp ht) (by show (W.lookIn name od).map (·.isSome)=some false; rw [hl,hv]; rfl) h
theorem O8 {ns:List Str} {Q:Unit->Shared->Prop} (X:K.In s.heap) (I:ObjM s.heap x dx C mA)
  (hs:W.findIn K (.ref C) "__setattr__" = some (some (.builtin "object.__setattr__"))) (hp:W.plainOver K C=true) (ht:W.takerIn K C name=some none) (hh:W.hasDictIn K C=true)
  (hw:PySem.Within mA ns) (hsz:ns.length <= sizeLine)
  (h:∀ h',ObjM h' x dx C (fun y=>if y=name then some v else mA y)->Heap.SameBut dx s.heap h'->Q () { s with heap:=h',toks:=s.toks + 2 }) :
  wpAny (model prog w) A (setAttr (.ref x) name v) Q E s:=by
 obtain ⟨od,J,hl⟩:=I.look
 refine W.set_plain X J hs (W.osa_open (s:={ s with toks:=s.toks + 1 }) (r:=none) X J hp ht fun b=>?_)
 obtain ⟨cd,hc,hd'⟩:=W.any_some hh
 have hx:s.heap.get? x=some ⟨.ref C,some dx,.plain,#[]⟩:=I.obj
 refine wpAny_bind (wpAny_pure (wpAny_bind (wpAny_bind (wpAny_loadPart hx (wpAny_bind (W.Looks.here (s:={ s with toks:=s.toks + 1 }) (W.looks_clsIn X hc) ?_))))))
 rw [hd']
 refine wpAny_pure (a:=some dx) (wpAny_bind (wpAny_pure (wpAny_bind ?_)))
 refine wpAny_nsSet1 (s:={ s with toks:=s.toks + 1 }) I.ns fun h' hn2 hs2=>?_
 obtain ⟨oD,esD,epD,hoD,hdD,hcD⟩:=hn2.count (PySem.Within.cons name v hw)
 refine wpAny_bind (wpAny_lookBehind hoD (by rw [hdD]; exact pastItsLine_dict (Nat.le_trans hcD (by rw [zLc]; omega))) ?_)
 exact wpAny_pure (h _ ⟨(hs2.2 _ (Ne.symm I.ne)).trans I.obj,hn2,I.ne⟩ hs2)
theorem Rq {R:Result->Shared->Prop} {vs:List Value} {kw:List (Str × Value)} (X:K.In s.heap) (hm:W.makesIn K C=true)
  (hi:W.findIn K (.ref C) "__init__" = some (some (.ref f))) (hf:W.typeIn K (.ref f)=some (.type "function"))
  (h:codeAny (model prog w) (A.under (.builtin "type.__call__" ⟨.ref C :: vs,kw⟩)) (.call (.ref f) ⟨.ref (s.heap.objs.size + 1) :: vs,kw⟩) (W.InitBack (s.heap.objs.size + 1) R)
   { s with heap:=(s.heap.push W.emptyDict).push (W.instObj C s.heap.objs.size) }) :
  codeAny (model prog w) A (.call (.ref C) ⟨vs,kw⟩) R s:=by
 obtain ⟨hh,g,d,t,os⟩:=s
 exact W.make_core (W.makes_of X hm) (W.looks_findIn X hi) (fun self=>W.bind_fn X self hf) (.inl rfl) h
end
noncomputable def putF (f:Str) (v:V):List (Str × V)->List (Str × V)
 | []=>[(f,v)]
 | (g,x) :: r=>if g=f then (g,v) :: r else (g,x) :: putF f v r
theorem qk (f g:Str) (v:V):∀ fs:List (Str × V),(putF f v fs).lookup g=if g=f then some v else fs.lookup g
 | []=>by
  show List.lookup g [(f,v)]=_
  by_cases h:g=f
  ·have hb:(g == f)=true:=beq_iff_eq.mpr h
   simp only [List.lookup,hb,if_pos h]
  ·have hb:(g == f)=false:=beq_eq_false_iff_ne.mpr h
   simp only [List.lookup,hb,if_neg h]
 | (k,x) :: r=>by
  have ih:=qk f g v r
  rw [show putF f v ((k,x) :: r)=(if k=f then (k,v) :: r else (k,x) :: putF f v r) from rfl]
  by_cases hk:k=f
  ·rw [if_pos hk]
   by_cases h:g=k
   ·have hb:(g == k)=true:=beq_iff_eq.mpr h
    simp only [List.lookup,hb,if_pos (h.trans hk)]
   ·have hb:(g == k)=false:=beq_eq_false_iff_ne.mpr h
    simp only [List.lookup,hb,if_neg (fun e:g=f=>h (e.trans hk.symm))]
  ·rw [if_neg hk]
   by_cases h:g=k
   ·have hb:(g == k)=true:=beq_iff_eq.mpr h
    simp only [List.lookup,hb,if_neg (fun e:g=f=>hk (h.symm.trans e))]
   ·have hb:(g == k)=false:=beq_eq_false_iff_ne.mpr h
    simp only [List.lookup,hb]
    exact ih
theorem qr (f:Str) (v:V):∀ fs:List (Str × V),f ∈ (putF f v fs).map (·.1) /\ ∀ g,g ∈ fs.map (·.1)->g ∈ (putF f v fs).map (·.1)
 | []=>⟨by simp [putF],fun g h=>by simp at h⟩
 | (k,x) :: r=>by
  obtain ⟨i1,i2⟩:=qr f v r
  rw [show putF f v ((k,x) :: r)=(if k=f then (k,v) :: r else (k,x) :: putF f v r) from rfl]
  by_cases hk:k=f
  ·rw [if_pos hk]
   subst hk
   exact ⟨by simp,fun g h=>by simpa using h⟩
  ·rw [if_neg hk]
   refine ⟨?_,fun g h=>?_⟩
   ·rw [List.map_cons]
    exact List.mem_cons_of_mem _ i1
   ·rw [List.map_cons] at h ⊢
    rcases List.mem_cons.mp h with e | e
    ·exact List.mem_cons.mpr (.inl e)
    ·exact List.mem_cons_of_mem _ (i2 g e)
theorem qo (f:Str) (v:V):∀ fs:List (Str × V),(putF f v fs).length <= fs.length + 1
 | []=>by simp [putF]
 | (k,x) :: r=>by
  have ih:=qo f v r
  rw [show putF f v ((k,x) :: r)=(if k=f then (k,v) :: r else (k,x) :: putF f v r) from rfl]
  by_cases hk:k=f
  ·rw [if_pos hk,zLc,zLc]; omega
  ·rw [if_neg hk,zLc,zLc]; omega
theorem RelO.some_of {v:V} {o:Option Value} (r:RelO (some v) o):∃ u,o=some u /\ RelV v u:=by
 cases o with
 | none=>exact (show False from r).elim
 | some u=>exact ⟨u,rfl,r⟩
theorem RelO.none_of {o:Option Value} (r:RelO none o):o=none:=by
 cases o with
 | none=>rfl
 | some u=>exact (show False from r).elim
theorem Uw {v:V} {u:Value} (r:RelV v u):W.handedIn u=true:=by
 cases v with
 | non=>cases (show u=Value.none from r); rfl
 | bl b=>cases (show u=Value.bool b from r); rfl
 | int i=>obtain ⟨t,e⟩:=(show ∃ t,u=Value.int i t from r); cases e; rfl
 | str x=>obtain ⟨t,e⟩:=(show ∃ t,u=Value.str x t from r); cases e; rfl
 | byt b=>obtain ⟨t,e⟩:=(show ∃ t,u=Value.bytes b t from r); cases e; rfl
 | flt b=>obtain ⟨t,e⟩:=(show ∃ t,u=Value.float b t from r); cases e; rfl
 | ref a=>cases (show u=Value.ref a from r); rfl
 | ty n=>cases (show u=Value.type n from r); rfl
section
variable {P:Program} {w:World} {H H':Hp} {h h':Heap} {a C dx:Addr} {fs fs':List (Str × V)}
theorem fo (hok:HOk P w H h) (e:H a=some (.ins C dx fs)):∃ mA,ObjM h a dx C mA /\ (∀ f,RelO (fs.lookup f) (mA f)) /\ PySem.Within mA (fs.map (·.1)) /\ fs.length <= 1000 /\ H dx=some (.own a):=by
 obtain ⟨d,z,ne,ob,mA,n,r,q⟩:=(show xv P w H h a (.ins C dx fs) from hok a _ e)
 exact ⟨mA,⟨ob,n,ne⟩,r,q,z,d⟩
end
structure Cls (K:W.Frag) (C:Addr):Prop where
 pg:W.plainGet K C Str.empty=true
 hd:W.hasDictIn K C=true
 po:W.plainOver K C=true
 sa:W.findIn K (.ref C) "__setattr__" = some (some (.builtin "object.__setattr__"))
theorem Cls.get {K:W.Frag} {C:Addr} (c:Cls K C) (f:Str):W.plainGet K C f=true:=c.pg
noncomputable def si (K:W.Frag) (C:Addr) (f:Str):Prop:=W.findIn K (.ref C) f=some none
theorem si.taker {K:W.Frag} {C:Addr} {f:Str} (n:si K C f):W.takerIn K C f=some none:=by
 unfold W.takerIn
 rw [show W.findIn K (.ref C) f=some none from n]
 rfl
structure Con (K:W.Frag) (C:Addr) (f:Str) (v:V) (u:Value):Prop where
 at_:W.findIn K (.ref C) f=some (some u)
 rel:RelV v u
 get:W.specialIn K u "__get__" = some none
 cp:W.copiedNames.contains f=false
structure Meth (K:W.Frag) (C:Addr) (m:Str) (f:Addr):Prop where
 at_:W.findIn K (.ref C) m=some (some (.ref f))
 fn:W.isFn K (.ref f)=true
 kp:W.keepIn K (.ref f)=true
section
variable {X:Cx} {pn:List (Addr × Obj)} {σ:St} {H:Hp} {s:Shared} {a C dx:Addr} {fs:List (Str × V)} {f:Str} {v:V} {A:Around} {E:Value->Shared->Prop}
theorem Wt {b:Bool} {Q:Value->Shared->Prop} (I:Inv X pn σ H s) (e:H a=some (.ins C dx fs)) (c:Cls X.K C) (n:si X.K C f) (l:fs.lookup f=some v)
  (h:∀ u s',Inv X pn σ H s'->RelV v u->Q u s'):wpAny (model X.prog X.w) A (getAttr (.ref a) f b) Q E s:=by
 obtain ⟨mA,O,r,_,_,_⟩:=fo I.hok e
 obtain ⟨u,hu,ru⟩:=RelO.some_of (v:=v) (o:=mA f) (by rw [<- l]; exact r f)
 exact Nt I.kIn O (c.get f) c.hd n hu (Uw ru) (h u _ (I.tok _) ru)
theorem ji {m:Str} {g:Addr} {pl:Sem Bool} {Q:Value × List Value->Shared->Prop} (I:Inv X pn σ H s) (e:H a=some (.ins C dx fs)) (c:Cls X.K C) (k:Meth X.K C m g) (l:fs.lookup m=none)
  (h:Q (.ref g,[.ref a]) s):wpAny (model X.prog X.w) A (getMethod (.ref a) m pl) Q E s:=by
 obtain ⟨mA,O,r,_,_,_⟩:=fo I.hok e
 have hn:mA m=none:=RelO.none_of (by rw [<- l]; exact r m)
 exact Q8 I.kIn O (c.get m) k.at_ k.fn hn h
theorem Wc {y:V} {u:Value} {Q:Unit->Shared->Prop} (I:Inv X pn σ H s) (e:H a=some (.ins C dx fs)) (c:Cls X.K C) (n:si X.K C f) (hl:fs.length < 1000) (ry:RelV y u)
  (h:∀ s',Inv X pn σ (upd H a (.ins C dx (putF f y fs))) s'->Q () s'):wpAny (model X.prog X.w) A (setAttr (.ref a) f u) Q E s:=by
 obtain ⟨mA,O,r,wi,_,ho⟩:=fo I.hok e
 have hz:(fs.map (·.1)).length <= sizeLine:=by rw [zLm,sizeLine_eq]; omega
 refine O8 I.kIn O c.sa c.po n.taker c.hd wi hz fun h' O' sb=>h _ ?_
 have hd:∃ o,h'.get? dx=some o:=let ⟨o,_,_,e',_⟩:=O'.ns; ⟨o,e'⟩
 refine I.write (x:=a) (e:=dx) (by rw [e]; exact True.intro) (.inr ho) (fun b q hb z=>(sb.2 b hb).trans z) hd ?_
 refine ⟨by rw [zj O.ne]; exact ho,?_,O.ne,O'.obj,_,O'.ns,fun g=>?_,fun g hg=>?_⟩
 ·have:=qo f y fs; omega
 ·show RelO ((putF f y fs).lookup g) (if g=f then some u else mA g)
  rw [qk]
  by_cases q:g=f
  ·rw [if_pos q,if_pos q]; exact ry
  ·rw [if_neg q,if_neg q]; exact r g
 ·by_cases q:g=f
  ·rw [q]; exact (qr f y fs).1
  ·refine (qr f y fs).2 g (wi g fun z=>hg ?_)
   show (if g=f then some u else mA g)=none
   rw [if_neg q]; exact z
theorem Inv.made (I:Inv X pn σ H s):Inv X pn σ (upd (upd H s.heap.objs.size (.own (s.heap.objs.size + 1))) (s.heap.objs.size + 1) (.ins C s.heap.objs.size []))
  { s with heap:=(s.heap.push W.emptyDict).push (W.instObj C s.heap.objs.size) }:=by
 have e1:(s.heap.push W.emptyDict).get? s.heap.objs.size=some W.emptyDict:=Heap.get?_push_size s.heap rfl
 have e2:((s.heap.push W.emptyDict).push (W.instObj C s.heap.objs.size)).get? (s.heap.objs.size + 1)=some (W.instObj C s.heap.objs.size):=by
  have:=Heap.get?_push_size (s.heap.push W.emptyDict) (o:=W.instObj C s.heap.objs.size) rfl
  rwa [Heap.size_push] at this
 have e3:(s.heap.push W.emptyDict).Ns s.heap.objs.size (fun _=>none):=⟨W.emptyDict,#[],_,e1,rfl,(fun e he=>absurd he (by simp)),fun _=>rfl⟩
 have I1:=I.laid (a:=s.heap.objs.size) (o:=.own (s.heap.objs.size + 1)) (h':=s.heap.push W.emptyDict) (t':=s.toks) (fun b u q=>Heap.get?_push_of_some _ q) (Nat.le_refl _) ⟨_,e1⟩
 refine I1.laid (a:=s.heap.objs.size + 1) (o:=.ins C s.heap.objs.size []) (t':=s.toks) (fun b u q=>Heap.get?_push_of_some _ q) (Nat.le_of_eq (Heap.size_push _ _)) ?_
 have ne:s.heap.objs.size ≠ s.heap.objs.size + 1:=Nat.ne_of_lt (Nat.lt_succ_self _)
 refine ⟨by rw [zj ne,zi],Nat.zero_le _,ne,e2,fun _=>none,(Heap.Ns1.of_empty e3).at fun o q=>Heap.get?_push_of_some _ q,fun _=>True.intro,fun y hy=>absurd rfl hy⟩
theorem Mj {prog:Program} {w:World} {env:Env} {e:Expr} {f:Str} {pos:Pos} {s:Shared} {Q:Value->Shared->Prop} (hb:attributeBase e f env (eval e env)=eval e env)
  (h:wpAny (model prog w) A (eval e env) (fun o s₁=>wpAny (model prog w) A (getAttr o f true) Q E s₁) E s):wpAny (model prog w) A (eval (.Attribute e f pos) env) Q E s :=
 Attribute_any_ h (by rw [arm_eval_Attribute,hb])
end
noncomputable def tFld (K:W.Frag) (ta:TE) (f:Str):TE:=fun σ H Q=>ta σ H fun x H1=>∃ a C dx fs v,x=.ref a /\ H1 a=some (.ins C dx fs) /\ Cls K C /\ si K C f /\ fs.lookup f=some v /\ Q v H1
noncomputable def sFld (K:W.Frag) (ta tv:TE) (f:Str):TS:=fun D σ H=>tv σ H fun y H1=>ta σ H1 fun x H2=>∃ a C dx fs,x=.ref a /\ H2 a=some (.ins C dx fs) /\ Cls K C /\ si K C f /\ fs.length < 1000 /\
 D.nx σ (upd H2 a (.ins C dx (putF f y fs)))
section
variable {X:Cx} {o e value:Expr} {f:Str} {pos pos' tpos:Pos} {ta tv:TE}
theorem Pg (he:PE X e ta) (hb:attributeBase e f X.env (eval e X.env)=eval e X.env):PE X (.Attribute e f pos) (tFld X.K ta f):=by
 intro pn s σ H Q I h
 refine Mj hb (thn (he pn s σ H _ I h) fun u s1 ⟨x,H1,I1,rx,a,C,dx,fs,v,ex,ea,c,n,l,q⟩=>?_)
 subst ex
 obtain rfl:u=Value.ref a:=rx
 exact Wt I1 ea c n l fun u' s2 I2 ru=>⟨v,H1,I2,ru,q⟩
theorem Pe (ha:PE X o ta) (hv:PE X value tv) (hs:swapsWith value (some (.Attribute o f pos')) pos.line X.env=pure false):PS X (.Assign [.Attribute o f pos'] value pos) (sFld X.K ta tv f):=by
 intro pn s σ H D I h
 refine plainObj_wpAny_Assign_Attribute (thn (hv pn s σ H _ I h) fun u s1 ⟨y,H1,I1,ry,q⟩=>thn (ha pn s1 σ H1 _ I1 q) fun ov s2 ⟨x,H2,I2,rx,a,C,dx,fs,ex,ea,c,n,l,q2⟩=>?_) hs
 subst ex
 obtain rfl:ov=Value.ref a:=rx
 exact Wc I2 ea c n l ry fun s3 I3=>⟨σ,_,I3,q2⟩
end
section
variable {X:Cx} {pn:List (Addr × Obj)} {σ:St} {H:Hp} {s:Shared} {A:Around} {E:Value->Shared->Prop} {Q:Value->Shared->Prop} {c:Value} {b:Bool}
inductive TyOf (K:W.Frag) (H:Hp):V->Value->Prop where
 | non:TyOf K H .non (.type "NoneType")
 | bl (x:Bool):TyOf K H (.bl x) (.type "bool")
 | int (i:Int):TyOf K H (.int i) (.type "int")
 | str (x:Str):TyOf K H (.str x) (.type "str")
 | flt (x:UInt64):TyOf K H (.flt x) (.type "float")
 | lst {a:Addr} {xs:List V} (e:H a=some (.lst xs)):TyOf K H (.ref a) (.type "list")
 | frz {a:Addr} {o:Obj} {xs:List V} (e:H a=some (.frz o (.lst xs))):TyOf K H (.ref a) (.type "list")
 | tup {a:Addr} {xs:List V} (e:H a=some (.tup xs)):TyOf K H (.ref a) (.type "tuple")
 | dK {a:Addr} {kvs:List (Key × V)} (e:H a=some (.dK kvs)):TyOf K H (.ref a) (.type "dict")
 | dT {a:Addr} {kvs:List (List Key × V)} (e:H a=some (.dT kvs)):TyOf K H (.ref a) (.type "dict")
 | ins {a C dx:Addr} {fs:List (Str × V)} (e:H a=some (.ins C dx fs)) (cl:Cls K C) (ha:W.findIn K (.ref C) "__class__" = some (some (.builtin "object.__class__")))
   (hn:W.specialIn K (.builtin "object.__class__") "__get__" = some (some (.builtin "getset_descriptor.__get__"))) (htk:W.takesIn K (.builtin "object.__class__")=some true)
   (hm:W.mroIn K C (.type "object")=some true):TyOf K H (.ref a) (.ref C)
theorem wn {x:V} {u t:Value} (I:Inv X pn σ H s) (rx:RelV x u) (ty:TyOf X.K H x t) (e:W.kitOne X.K t c=some b) (h:∀ tk,Q (.bool b) { s with toks:=tk }) :
  wpAny (model X.prog X.w) A (call (.builtin "isinstance") [u,c]) Q E s:=by
 cases ty with
 | non=>cases (show u=Value.none from rx); exact W.kia_one W.kitx_none I.kIn True.intro e (fun z=>nomatch z) h
 | bl y=>cases (show u=Value.bool y from rx); exact W.kia_one W.kitx_bool I.kIn True.intro e (fun z=>nomatch z) h
 | int i=>obtain ⟨t,q⟩:=(show ∃ t,u=Value.int i t from rx); cases q; exact W.kia_one W.kitx_int I.kIn True.intro e (fun z=>nomatch z) h
 | str y=>obtain ⟨t,q⟩:=(show ∃ t,u=Value.str y t from rx); cases q; exact W.kia_one W.kitx_str I.kIn True.intro e (fun z=>nomatch z) h
 | flt y=>obtain ⟨t,q⟩:=(show ∃ t,u=Value.float y t from rx); cases q; exact W.kia_one W.kitx_float I.kIn True.intro e (fun z=>nomatch z) h
 | @lst a xs ea =>
  cases (show u=Value.ref a from rx)
  obtain ⟨_,_,n,_,h1⟩:=(show xv X.prog X.w H s.heap a (.lst xs) from I.hok a _ ea)
  exact W.kia_one W.kitx_list I.kIn ⟨_,h1,rfl⟩ e (fun z=>nomatch z) h
 | @frz a ob xs ea =>
  cases (show u=Value.ref a from rx)
  obtain ⟨_,_,_,n,_,h1⟩:=(show xv X.prog X.w H s.heap a (.frz ob (.lst xs)) from I.hok a _ ea)
  exact W.kia_one W.kitx_list I.kIn ⟨_,h1,rfl⟩ e (fun z=>nomatch z) h
 | @tup a xs ea =>
  cases (show u=Value.ref a from rx)
  obtain ⟨_,_,_,p⟩:=(show xv X.prog X.w H s.heap a (.tup xs) from I.hok a _ ea)
  obtain ⟨o,h1,h2,_⟩:=p.1
  exact W.kia_one W.kitx_tuple I.kIn ⟨o,h1,h2⟩ e (fun z=>nomatch z) h
 | @dK a kvs ea =>
  cases (show u=Value.ref a from rx)
  obtain ⟨_,_,vs,_,p⟩:=(show xv X.prog X.w H s.heap a (.dK kvs) from I.hok a _ ea)
  obtain ⟨o,es,ep,h1,h2,_⟩:=p
  exact W.kia_one W.kitx_dict I.kIn ⟨o,h1,h2.1⟩ e (fun z=>nomatch z) h
 | @dT a kvs ea =>
  cases (show u=Value.ref a from rx)
  obtain ⟨_,_,xs,_,o,es,ep,h1,h2,_⟩:=(show xv X.prog X.w H s.heap a (.dT kvs) from I.hok a _ ea)
  exact W.kia_one W.kitx_dict I.kIn ⟨o,h1,h2.1⟩ e (fun z=>nomatch z) h
 | @ins a C dx fs ea cl ha hn htk hm =>
  cases (show u=Value.ref a from rx)
  obtain ⟨mA,O,_⟩:=fo I.hok ea
  obtain ⟨od,J,_⟩:=O.look
  exact W.kia_one (W.kitx_own (cl.get _) cl.hd ha hn htk hm) I.kIn J e (fun z=>nomatch z) h
end
structure Room (k:Nat) (A:Around):Prop where
 hd:A.handled=none
 dp:A.depth + 3 * k + 5 < recursionLimit
 un:A.units + 16 * k + 200 < cLine
theorem Room.mono {j k:Nat} {A:Around} (r:Room k A) (h:j <= k):Room j A:=⟨r.hd,by have:=r.dp; omega,by have:=r.un; omega⟩
theorem Room.deeper {k:Nat} {A:Around} (r:Room (k + 1) A) (env:Env):Room k (A.deeper env) :=
 ⟨r.hd,by have:=r.dp; show A.depth + 1 + 3 * k + 5 < _; omega,by have:=r.un; show A.units + 3 + 16 * k + 200 < _; omega⟩
theorem Wl {A:Around} {C:Addr} {us:List Value} {kw:List (Str × Value)}:(A.under (.builtin "type.__call__" ⟨.ref C :: us,kw⟩)).depth=A.depth + 1:=by
 first | rfl | simp [Around.under,Code.weight,Code.isCreation,Code.isGuard,Code.isCaller,Code.frames,Code.isFrame,guardIds]
theorem Wk {A:Around} {C:Addr} {us:List Value} {kw:List (Str × Value)}:(A.under (.builtin "type.__call__" ⟨.ref C :: us,kw⟩)).units=A.units + 1:=by
 first | rfl | simp [Around.under,Code.cUnits,Code.frames,Code.isFrame]
theorem Room.make {k:Nat} {A:Around} (r:Room (k + 1) A) (C:Addr) (us:List Value) (kw:List (Str × Value)):Room k (A.under (.builtin "type.__call__" ⟨.ref C :: us,kw⟩)) :=
 ⟨r.hd,by have:=r.dp; rw [Wl]; omega,by have:=r.un; rw [Wk]; omega⟩
theorem Room.depth {k:Nat} {A:Around} (r:Room k A):A.depth < recursionLimit:=by have:=r.dp; omega
theorem Room.units {k:Nat} {A:Around} (r:Room k A):A.units + 64 < cLine:=by have:=r.un; omega
noncomputable def tNil:TA:=fun _ H Q=>Q [] H
noncomputable def So (ta:TE) (tr:TA):TA:=fun σ H Q=>ta σ H fun x H1=>tr σ H1 fun xs H2=>Q (x :: xs) H2
section
variable {X:Cx} {e:Expr} {es:List Expr} {te:TE} {t:TA} {pos:Pos}
theorem u9:PA X [] tNil:=fun _ _ _ _ H Q I h=>Calls.spliced_nil ⟨[],H,I,.nil,h⟩
theorem w8 (ha:PE X e te) (hr:PA X es t) (hs:starEach (e :: es) X.env=(false,eval e X.env) :: starEach es X.env:=by rfl):PA X (e :: es) (So te t):=by
 intro pos pn s σ H Q I h
 rw [hs]
 show wpAny _ _ (spliced ((false,eval e X.env) :: backTo pos (starEach es X.env))) _ _ s
 refine Calls.spliced_cons (thn (ha pn s σ H _ I h) fun u s1 ⟨x,H1,I1,r1,q1⟩=>?_)
 exact thn (hr pos pn s1 σ H1 _ I1 q1) fun us s2 ⟨xs,H2,I2,r2,q2⟩=>⟨x :: xs,H2,I2,.cons r1 r2,q2⟩
noncomputable def tTup (t:TA):TE:=fun σ H Q=>t σ H fun xs H1=>xs.length <= sizeLine /\ ∀ p,H1 p=none->Q (.ref p) (upd H1 p (.tup xs))
noncomputable def tLst (t:TA):TE:=fun σ H Q=>t σ H fun xs H1=>xs.length <= sizeLine /\ ∀ p,H1 p=none->Q (.ref p) (upd H1 p (.lst xs))
theorem Xg {x1} (h:PA X es t):PE X (.Tuple es x1 pos) (tTup t):=by
 intro pn s σ H Q I hq
 refine wpAny_Tuple_spliced (thn (h pos pn s σ H _ I hq) fun us s1 ⟨xs,H1,I1,r,z,q⟩=>⟨by rw [<- r.length]; exact z,?_⟩)
 have hf:H1 s1.heap.objs.size=none:=I1.hok.fresh (Nat.le_refl _)
 refine ⟨.ref s1.heap.objs.size,upd H1 s1.heap.objs.size (.tup xs),I1.laid (t':=s1.toks) (fun b u e=>Heap.get?_push_of_some _ e) (Nat.le_refl _) ?_,rfl,q _ hf⟩
 exact ⟨z,us,r,⟨_,Heap.get?_push_size _ rfl,rfl,_,rfl⟩,_,Heap.get?_push_size _ rfl,rfl⟩
theorem Xi (h:PA X es t):PE X (.List es pos) (tLst t):=by
 intro pn s σ H Q I hq
 refine wpAny_List_spliced (thn (h pos pn s σ H _ I hq) fun us s1 ⟨xs,H1,I1,r,z,q⟩=>⟨by rw [<- r.length]; exact z,?_⟩)
 have hf:H1 s1.heap.objs.size=none:=I1.hok.fresh (Nat.le_refl _)
 refine ⟨.ref s1.heap.objs.size,upd H1 s1.heap.objs.size (.lst xs),I1.laid (t':=s1.toks) (fun b u e=>Heap.get?_push_of_some _ e) (Nat.le_refl _) ?_,rfl,q _ hf⟩
 exact ⟨z,us,0,r,Heap.get?_push_size _ rfl⟩
end
noncomputable abbrev Sp:=List V->Hp->VK->XK->Prop
noncomputable abbrev CXT:=List Env->Hp->Shared->XK->Value->Shared->Prop
structure Env0 (P:Program) (w:World) (K:W.Frag) (mg:Str->Option Value) (base:Heap) (A:Around) (outer:List Env) (s:Shared) (H:Hp):Prop where
 frames:A.frames=some outer
 mod:Mod K mg base
 bs:∀ b o,base.get? b=some o->s.heap.get? b=some o /\ H b=none
 bsz:base.objs.size <= s.heap.objs.size
 funs:s.heap.FunFrames base outer
 frf:∀ b ∈ frs outer,H b=none
 hok:HOk P w H s.heap
 bare:AllBare s.gens
noncomputable def CE (outer:List Env) (P:Program) (w:World) (H:Hp) (s:Shared) (Q:VK) (u:Value) (s':Shared):Prop :=
 ∃ v H',s'.os=s.os /\ AllBare s'.gens /\ Un (frs outer) [] H H' s.heap s'.heap /\ HOk P w H' s'.heap /\ RelV v u /\ Q v H'
noncomputable def CR (CX:CXT) (outer:List Env) (P:Program) (w:World) (H:Hp) (s:Shared) (Q:VK) (E:XK) (r:Result) (s':Shared):Prop :=
 match r with
 | .ok (.ret u)=>CE outer P w H s Q u s'
 | .ok _=>False
 | .error e=>CX outer H s E e s'
structure FnOk (P:Program) (w:World) (K:W.Frag) (mg:Str->Option Value) (base:Heap) (CX:CXT) (k:Nat) (f:Addr) (fd:FuncData) (ps:List Str) (sp:Sp):Prop where
 len:∀ vs H Q E,sp vs H Q E->vs.length=ps.length
 run:∀ (A:Around) (outer:List Env) (s:Shared) (H:Hp) (args:Args) (us:List Value) (vs:List V) (Q:VK) (E:XK),Room k A->Env0 P w K mg base A outer s H->BindsTo s fd args (ps.zip us)->Vals vs us->sp vs H Q E ->
  codeAny (model P w) A (.call (.ref f) args) (CR CX outer P w H s Q E) s
theorem Env0.make {P:Program} {w:World} {K:W.Frag} {mg:Str->Option Value} {base:Heap} {A:Around} {outer:List Env} {s:Shared} {H:Hp} (e:Env0 P w K mg base A outer s H) (C:Addr) (us:List Value) (kw:List (Str × Value)) :
  Env0 P w K mg base (A.under (.builtin "type.__call__" ⟨.ref C :: us,kw⟩)) outer s H:=⟨by first | exact e.frames | (simpa [Around.under,Code.envs,Code.isFrame,pushEnvs] using e.frames),e.mod,e.bs,e.bsz,e.funs,e.frf,e.hok,e.bare⟩
section
variable {X:Cx} {pn:List (Addr × Obj)} {σ:St} {H:Hp} {s s':Shared}
theorem Inv.env0 (I:Inv X pn σ H s):Env0 X.prog X.w X.K X.mg X.base X.A X.stack s H :=
 ⟨I.ok.frames,I.ok.mod,I.bs,Nat.le_trans I.ok.bsz I.sz,I.stack,I.stkFree,I.hok,I.bare⟩
theorem Inv.after {Q:VK} {u:Value} (I:Inv X pn σ H s) (h:CE X.stack X.prog X.w H s Q u s'):EP X pn σ Q u s':=by
 obtain ⟨v,H',os,bare,un,hok,r,q⟩:=h
 obtain ⟨hh,g,d,t,os'⟩:=s'
 obtain rfl:os'=s.os:=os
 exact ⟨v,H',I.call (h':=hh) (g':=g) (d':=d) (t':=t) (ch:=[]) un hok bare (fun b z=>absurd z (by simp)),r,q⟩
end
noncomputable def Lb (sp:Sp) (dvs:List V) (E:XK) (t:TA):TE:=fun σ H Q=>t σ H fun vs H1=>sp (vs ++ dvs) H1 Q E
noncomputable def Sl (C:Addr) (m:Str) (sp:Sp) (dvs:List V) (E:XK) (ta:TE) (t:TA):TE:=fun σ H Q=>ta σ H fun x H1=>∃ a dx fs,x=.ref a /\ H1 a=some (.ins C dx fs) /\ fs.lookup m=none /\
 t σ H1 fun vs H2=>sp (x :: (vs ++ dvs)) H2 Q E
noncomputable def L7 (C:Addr) (sp:Sp) (dvs:List V) (E:XK) (t:TA):TE:=fun σ H Q=>t σ H fun vs H1=>∀ x dx,H1 x=none->H1 dx=none->dx ≠ x ->
 sp (.ref x :: (vs ++ dvs)) (upd (upd H1 dx (.own x)) x (.ins C dx [])) (fun v H2=>v=.non /\ Q (.ref x) H2) E
noncomputable def xw (K:W.Frag) (fd:FuncData) (ps:List Str) (ds:List Value):Prop :=
 ∀ (s:Shared) (us:List Value),K.In s.heap->(us ++ ds).length=ps.length->BindsTo s fd ⟨us,[]⟩ (ps.zip (us ++ ds))
theorem xw.all {K:W.Frag} {fd:FuncData} {ps:List Str} (h:∀ us:List Value,us.length=ps.length->bindArgs fd ⟨us,[]⟩=pure (ps.zip us)):xw K fd ps []:=fun s us _ hl=>by
 rw [List.append_nil] at hl ⊢
 exact .of_eq (h us hl)
noncomputable def ki (CX:CXT) (X:Cx) (E:XK):Prop:=∀ (pn:List (Addr × Obj)) (σ:St) (H:Hp) (s:Shared) (e:Value) (s':Shared),Inv X pn σ H s->CX X.stack H s E e s'->X.xe e s'
section
variable {X:Cx} {CX:CXT} {k:Nat} {f C:Addr} {fd:FuncData} {ps:List Str} {sp:Sp} {dvs:List V} {ds:List Value} {E:XK} {x m:Str} {p pos apos:Pos} {e o:Expr} {es:List Expr} {ta:TE} {t:TA}
theorem Vj {pn:List (Addr × Obj)} {σ:St} {H:Hp} {s:Shared} {Q:VK} {us:List Value} {vs:List V} (F:FnOk X.prog X.w X.K X.mg X.base CX k f fd ps sp) (hr:Room k X.A) (hb:xw X.K fd ps ds) (hd:Vals dvs ds) (hx:ki CX X E)
  (I:Inv X pn σ H s) (r:Vals vs us) (h:sp (vs ++ dvs) H Q E):wpAny (model X.prog X.w) X.A (call (.ref f) us) (EP X pn σ Q) X.xe s:=by
 have r2:Vals (vs ++ dvs) (us ++ ds):=r.append hd
 have hl:(us ++ ds).length=ps.length:=by rw [<- r2.length]; exact F.len _ _ _ _ h
 refine wpAny_call (codeAny_mono (F.run X.A X.stack s H ⟨us,[]⟩ (us ++ ds) (vs ++ dvs) Q E hr I.env0 (hb s us I.kIn hl) r2 h) fun r s' hq=>?_)
 cases r with
 | error e=>exact hx pn σ H s e s' I hq
 | ok fl =>
  cases fl with
  | ret u=>exact I.after hq
  | next=>exact False.elim hq
  | brk=>exact False.elim hq
  | cont=>exact False.elim hq
theorem gi (F:FnOk X.prog X.w X.K X.mg X.base CX k f fd ps sp) (hr:Room k X.A) (hg:Gl X x) (hm:X.mg x=some (.ref f)) (hk:W.keepIn X.K (.ref f)=true) (hb:xw X.K fd ps ds) (hd:Vals dvs ds) (hx:ki CX X E)
  (ha:PA X (e :: es) t) (hdb:(x == ("__debug__" : Str))=false:=by decide) (he:starEach (e :: es) X.env=(false,eval e X.env) :: starEach es X.env:=by rfl) (hpl:(backTo pos (starEach es X.env)).any (·.1)=false:=by rfl) :
  PE X (.Call (.Name x p) (e :: es) [] pos) (Lb sp dvs E t):=by
 intro pn s σ H Q I h
 refine wpAny_Call_Name_kw (wm I hg hm ?_ hdb)
 refine W.callWith_K (h₀:=X.base) I.ok.mod.kin hk (thn (ha pos pn s σ H _ I h) fun us s1 ⟨vs,H1,I1,r,q⟩=>⟨I1.kIn,?_⟩) he hpl
 exact Vj F hr hb hd hx I1 r q
theorem Vt {pl:Sem Bool} (he:PE X o ta) (c:Cls X.K C) (hm:Meth X.K C m f) (F:FnOk X.prog X.w X.K X.mg X.base CX k f fd ps sp) (hr:Room k X.A) (hb:xw X.K fd ps ds) (hd:Vals dvs ds) (hx:ki CX X E) (ha:PA X (e :: es) t)
  (hst:starEach (e :: es) X.env=(false,eval e X.env) :: starEach es X.env:=by rfl) (hpl:(backTo pos (starEach es X.env)).any (·.1)=false:=by rfl)
  (ht:eval (.Call (.Attribute o m apos) (e :: es) [] pos) X.env=(do
   let ov <- eval o X.env
   standAt apos.atName
   let (f,first) <- holding [ov] (getMethod ov m pl)
   callWith pos f first (backTo pos (starEach (e :: es) X.env)) (backToKw pos (keywordEach [] X.env))):=by rfl) :
  PE X (.Call (.Attribute o m apos) (e :: es) [] pos) (Sl C m sp dvs E ta t):=by
 intro pn s σ H Q I h
 refine W.methodCall_KW (pl:=pl) (thn (he pn s σ H _ I h) fun u s1 ⟨x,H1,I1,rx,a,dx,fs,ex,ea,l,q⟩=>?_) ht
 subst ex
 obtain rfl:u=Value.ref a:=rx
 refine ji I1 ea c hm l ?_
 refine W.callWith_K (first:=[.ref a]) (h₀:=X.base) I.ok.mod.kin hm.kp (thn (ha pos pn s1 σ H1 _ I1 q) fun us s2 ⟨vs,H2,I2,r,q2⟩=>⟨I2.kIn,?_⟩) hst hpl
 exact Vj (us:=.ref a :: us) (vs:=.ref a :: vs) F hr hb hd hx I2 (.cons rfl r) q2
theorem Xh {pl:Sem Bool} (he:PE X o ta) (c:Cls X.K C) (hm:Meth X.K C m f) (F:FnOk X.prog X.w X.K X.mg X.base CX k f fd ps sp) (hr:Room k X.A) (hb:xw X.K fd ps ds) (hd:Vals dvs ds) (hx:ki CX X E)
  (ht:eval (.Call (.Attribute o m apos) [] [] pos) X.env=(do
   let ov <- eval o X.env
   standAt apos.atName
   let (f,first) <- holding [ov] (getMethod ov m pl)
   callWith pos f first (backTo pos (starEach [] X.env)) (backToKw pos (keywordEach [] X.env))):=by rfl) :
  PE X (.Call (.Attribute o m apos) [] [] pos) (Sl C m sp dvs E ta tNil):=by
 intro pn s σ H Q I h
 refine W.methodCall_KW (pl:=pl) (thn (he pn s σ H _ I h) fun u s1 ⟨x,H1,I1,rx,a,dx,fs,ex,ea,l,q⟩=>?_) ht
 subst ex
 obtain rfl:u=Value.ref a:=rx
 refine ji I1 ea c hm l ?_
 exact W.callWith_K0 (first:=[.ref a]) I1.kIn hm.kp (Vj (us:=[.ref a]) (vs:=[.ref a]) F hr hb hd hx I1 (.cons rfl .nil) q)
structure Mk (K:W.Frag) (C f:Addr):Prop where
 makes:W.makesIn K C=true
 init:W.findIn K (.ref C) "__init__" = some (some (.ref f))
 fn:W.isFn K (.ref f)=true
 kp:W.keepIn K (.ref C)=true
theorem R9 {pn:List (Addr × Obj)} {σ:St} {H:Hp} {s:Shared} {Q:VK} {us:List Value} {vs:List V} (M:Mk X.K C f) (F:FnOk X.prog X.w X.K X.mg X.base CX k f fd ps sp) (hr:Room (k + 1) X.A) (hb:xw X.K fd ps ds) (hd:Vals dvs ds)
  (hx:ki CX X E) (I:Inv X pn σ H s) (r:Vals vs us)
  (h:∀ x dx,H x=none->H dx=none->dx ≠ x->sp (.ref x :: (vs ++ dvs)) (upd (upd H dx (.own x)) x (.ins C dx [])) (fun v H2=>v=.non /\ Q (.ref x) H2) E) :
  wpAny (model X.prog X.w) X.A (call (.ref C) us) (EP X pn σ Q) X.xe s:=by
 have hq:=h (s.heap.objs.size + 1) s.heap.objs.size (I.hok.fresh (Nat.le_succ _)) (I.hok.fresh (Nat.le_refl _)) (Nat.ne_of_lt (Nat.lt_succ_self _))
 have I2:=Inv.made (C:=C) I
 have r2:Vals (V.ref (s.heap.objs.size + 1) :: (vs ++ dvs)) (Value.ref (s.heap.objs.size + 1) :: (us ++ ds)):=.cons rfl (r.append hd)
 have hl:(Value.ref (s.heap.objs.size + 1) :: us ++ ds).length=ps.length:=by
  have e:=r2.length
  rw [F.len _ _ _ _ hq] at e
  exact e.symm
 refine wpAny_call (Rq (f:=f) I.kIn M.makes M.init (beq_iff_eq.mp M.fn) (codeAny_mono (F.run _ X.stack _ _ ⟨Value.ref (s.heap.objs.size + 1) :: us,[]⟩ (Value.ref (s.heap.objs.size + 1) :: (us ++ ds)) _ _ E (hr.make C us [])
  (I2.env0.make C us []) (hb _ (Value.ref (s.heap.objs.size + 1) :: us) I2.kIn hl) r2 hq) fun r s' hq'=>?_))
 cases r with
 | error e=>exact hx pn σ _ _ e s' I2 hq'
 | ok fl =>
  cases fl with
  | ret u =>
   obtain ⟨v,H',I3,rv,ev,q3⟩:=I2.after hq'
   subst ev
   exact ⟨rv,⟨V.ref (s.heap.objs.size + 1),H',I3,rfl,q3⟩⟩
  | next=>exact False.elim hq'
  | brk=>exact False.elim hq'
  | cont=>exact False.elim hq'
theorem Ou (M:Mk X.K C f) (F:FnOk X.prog X.w X.K X.mg X.base CX k f fd ps sp) (hr:Room (k + 1) X.A) (hg:Gl X x) (hm:X.mg x=some (.ref C)) (hb:xw X.K fd ps ds) (hd:Vals dvs ds) (hx:ki CX X E)
  (ha:PA X (e :: es) t) (hdb:(x == ("__debug__" : Str))=false:=by decide) (he:starEach (e :: es) X.env=(false,eval e X.env) :: starEach es X.env:=by rfl) (hpl:(backTo pos (starEach es X.env)).any (·.1)=false:=by rfl) :
  PE X (.Call (.Name x p) (e :: es) [] pos) (L7 C sp dvs E t):=by
 intro pn s σ H Q I h
 refine wpAny_Call_Name_kw (wm I hg hm ?_ hdb)
 refine W.callWith_K (h₀:=X.base) I.ok.mod.kin M.kp (thn (ha pos pn s σ H _ I h) fun us s1 ⟨vs,H1,I1,r,q⟩=>⟨I1.kIn,?_⟩) he hpl
 exact R9 M F hr hb hd hx I1 r q
end
structure zn (N P:List Str) (sc:Scope):Prop where
 kind:sc.kind=.function
 co:sc.isCoroutine=false
 gen:sc.isGenerator=false
 nd:N.Nodup
 pre:N.take P.length=P
 par:∀ x ∈ P,sc.names.lookup x=some .local \/ sc.names.lookup x=some .cell
 nofree:∀ y ∈ sc.names,y.2 ≠ .free
theorem Zl {kindOf:Str->Option NameKind} {x:Str}:∀ {binds:List (Str × Value)} {m:Str->Option Value},(∀ v,(x,v) ∉ binds)->bindL kindOf binds m x=m x
 | [],_,_=>rfl
 | (n,v) :: r,m,h=>by
  unfold bindL
  rw [Zl fun w hw=>h w (List.mem_cons_of_mem _ hw)]
  split
  ·have:x ≠ n:=by rintro rfl; exact h v List.mem_cons_self
   simp [this]
  ·rfl
theorem Zn {kindOf:Str->Option NameKind} {x:Str}:∀ {binds:List (Str × Value)} {m:Str->Option Value},(∀ v,(x,v) ∉ binds)->bindC kindOf binds m x=m x
 | [],_,_=>rfl
 | (n,v) :: r,m,h=>by
  unfold bindC
  rw [Zn fun w hw=>h w (List.mem_cons_of_mem _ hw)]
  split
  ·rfl
  ·have:x ≠ n:=by rintro rfl; exact h v List.mem_cons_self
   simp [this]
theorem Zm {kindOf:Str->Option NameKind} {x:Str} {v:Value}:∀ {P:List Str} {vs:List Value} {i:Nat} {m:Str->Option Value},P.Nodup->P[i]?=some x->vs[i]?=some v->kindOf x=some .local ->
  bindL kindOf (P.zip vs) m x=some v
 | [],_,_,_,_,h,_,_=>by simp at h
 | _ :: _,[],_,_,_,_,h,_=>by simp at h
 | p :: P,w :: vs,0,m,nd,h1,h2,hk=>by
  simp at h1 h2; subst h1; subst h2
  show bindL kindOf ((p,w) :: P.zip vs) m p=_
  unfold bindL
  rw [Zl fun v hv=>(List.nodup_cons.mp nd).1 (List.of_mem_zip hv).1,if_pos hk]
  simp
 | p :: P,w :: vs,i + 1,m,nd,h1,h2,hk=>by
  show bindL kindOf ((p,w) :: P.zip vs) m x=_
  unfold bindL
  exact Zm (i:=i) (List.nodup_cons.mp nd).2 (by simpa using h1) (by simpa using h2) hk
theorem Zo {kindOf:Str->Option NameKind} {x:Str} {v:Value}:∀ {P:List Str} {vs:List Value} {i:Nat} {m:Str->Option Value},P.Nodup->P[i]?=some x->vs[i]?=some v->kindOf x ≠ some .local ->
  bindC kindOf (P.zip vs) m x=some v
 | [],_,_,_,_,h,_,_=>by simp at h
 | _ :: _,[],_,_,_,_,h,_=>by simp at h
 | p :: P,w :: vs,0,m,nd,h1,h2,hk=>by
  simp at h1 h2; subst h1; subst h2
  show bindC kindOf ((p,w) :: P.zip vs) m p=_
  unfold bindC
  rw [Zn fun v hv=>(List.nodup_cons.mp nd).1 (List.of_mem_zip hv).1,if_neg hk]
  simp
 | p :: P,w :: vs,i + 1,m,nd,h1,h2,hk=>by
  show bindC kindOf ((p,w) :: P.zip vs) m x=_
  unfold bindC
  exact Zo (i:=i) (List.nodup_cons.mp nd).2 (by simpa using h1) (by simpa using h2) hk
noncomputable def start (N:List Str) (vs:List V):St:=vs.map some ++ List.replicate (N.length - vs.length) none
noncomputable def cxOf (CX:CXT) (P:Program) (w:World) (K:W.Frag) (mg:Str->Option Value) (base:Heap) (N:List Str) (qual:Str) (scope:Scope) (f:Addr) (cd:Value) (A:Around) (outer:List Env) (s:Shared) (H:Hp) (E:XK):Cx where
 prog:=P
 w:=w
 K:=K
 mg:=mg
 base:=base
 A:=A.deeper (envOfC qual scope s.heap.objs.size f cd)
 N:=N
 s₀:=s
 H₀:=H
 env:=envOfC qual scope s.heap.objs.size f cd
 outer:=outer
 stack:=envOfC qual scope s.heap.objs.size f cd :: outer
 ex:=[]
 calm:=true
 fn:=fun _=>true
 pn:=[]
 xe:=fun e s'=>wpAny (model P w) (A.deeper (envOfC qual scope s.heap.objs.size f cd)) (leaving (envOfC qual scope s.heap.objs.size f cd) e) (fun _ s''=>CX outer H s E e s'') (fun e' s''=>CX outer H s E e' s'') s'
theorem W1 {sc:Scope} {n:Nat} {x:Str} (h:sc.names.lookup x=some .cell):∃ c,(cellsFrom n sc.names []).lookup x=some c:=by
 have q:=W.cellsFrom_some sc.names n [] (.inl h)
 exact Option.isSome_iff_exists.mp q
theorem Ut {CX:CXT} {P:Program} {w:World} {K:W.Frag} {mg:Str->Option Value} {base:Heap} {N ps:List Str} {qual:Str} {scope:Scope} {f:Addr} {cd:Value} {A:Around} {outer:List Env} {s s1:Shared} {H:Hp} {E:XK} {us:List Value} {vs:List V}
  (S:zn N ps scope) (hd:A.handled=none) (e0:Env0 P w K mg base A outer s H) (hl:vs.length=ps.length) (r:Vals vs us)
  (x:InCallC s s.heap.objs.size (bindL (envOfC qual scope s.heap.objs.size f cd).kindOf (ps.zip us) fun _=>none) (cellsFrom (s.heap.objs.size + 1) scope.names []) (bindC (envOfC qual scope s.heap.objs.size f cd).kindOf (ps.zip us) fun _=>none) s1) :
  Inv (cxOf CX P w K mg base N qual scope f cd A outer s H E) [] (start N vs) H s1:=by
 have hpl:ps.length <= N.length:=by have:=congrArg List.length S.pre; rw [List.length_take] at this; omega
 obtain ⟨h1,tk,rfl,hk⟩:=x.done
 have noA:∀ b:Addr,b ∉ (cxOf CX P w K mg base N qual scope f cd A outer s H E).ex:=fun b z=>absurd (show b ∈ ([]:List Addr) from z) (by simp)
 refine ⟨⟨e0.mod,S.kind,rfl,rfl,Nat.le_refl _,fun y z c h1 h2=>?_,fun y hy=>?_,fun y c _ h=>?_,fun _=>hd,Around.frames_deeper e0.frames,.inr ⟨rfl,rfl⟩,fun b z=>absurd z (noA b),e0.bs,e0.bsz,fun b _ _=>noA b,fun b z=>absurd z (noA b),e0.funs,e0.frf⟩,
  rfl,e0.bare,Un.kept hk,⟨_,x.toInCall.ns,fun i y v h1 h2 h3=>?_⟩,fun y c h=>⟨_,x.cell y c h⟩,e0.hok.fresh (Nat.le_refl _),fun y c h=>?_,fun p hp=>absurd (show p ∈ ([]:List (Addr × Obj)) from hp) (by simp),e0.hok.kept hk,?_⟩
 ·exact name_of_addr x.apart (PySem.mem_of_lookup h1) (PySem.mem_of_lookup h2)
 ·have hy:scope.names.lookup y=some .cell \/ scope.names.lookup y=some .free:=hy
  rcases hy with hy | hy
  ·exact W1 hy
  ·exact absurd rfl (S.nofree _ (PySem.mem_of_lookup hy))
 ·exact Nat.le_of_lt (x.above y c (PySem.mem_of_lookup h))
 ·have hi:i < vs.length:=by
   unfold start at h2
   by_cases hi:i < vs.length
   ·exact hi
   ·rw [List.getElem?_append_right (by simpa using hi)] at h2
    rw [List.getElem?_replicate] at h2
    split at h2 <;> cases h2
  have ha:vs[i]?=some v:=by
   unfold start at h2
   rw [List.getElem?_append_left (by simpa using hi),List.getElem?_map] at h2
   cases e:vs[i]? with
   | none=>rw [e] at h2; cases h2
   | some a=>rw [e] at h2; cases h2; rfl
  obtain ⟨u,hu,rv⟩:=r.get ha
  have hp:ps[i]?=some y:=by
   rw [<- S.pre,List.getElem?_take_of_lt (by omega)]; exact h1
  have ndP:ps.Nodup:=by rw [<- S.pre]; exact S.nd.sublist (List.take_sublist _ _)
  refine ⟨u,rv,?_⟩
  rcases S.par y (List.mem_of_getElem? hp) with k | k
  ·exact .inl ⟨k,Zm ndP hp hu k⟩
  ·obtain ⟨c,e⟩:=W1 (n:=s.heap.objs.size + 1) k
   refine .inr ⟨.inl k,c,e,?_⟩
   have q:=x.cell y c e
   rw [Zo ndP hp hu (by show scope.names.lookup y ≠ _; rw [k]; decide)] at q
   exact q
 ·exact e0.hok.fresh (Nat.le_of_lt (x.above y c (PySem.mem_of_lookup h)))
 ·unfold start
  show _=N.length
  rw [zLa,zLm,List.length_replicate]
  omega
theorem Qa {CX:CXT} {P:Program} {w:World} {K:W.Frag} {mg:Str->Option Value} {base:Heap} {k:Nat} {f:Addr} {name qual:Str} {params:Arguments} {body:List Stmt} {scope:Scope} {dV kV doc pm qZ ct oc:Value} {an od:Option Addr}
  {osl:Array (Option Value)} {N ps:List Str} {sp:Sp} (lk:K.lookup f=some ⟨oc,od,.func (W.fnOf name qual params body scope dV kV doc pm an qZ ct),osl⟩) (hcd:W.codeIn K qZ qual=true) (S:zn N ps scope)
  (len:∀ vs H Q E,sp vs H Q E->vs.length=ps.length)
  (qY:∀ (A:Around) (outer:List Env) (s:Shared) (H:Hp) (vs:List V) (Q:VK) (E:XK),Room k (A.deeper (envOfC qual scope s.heap.objs.size f qZ))->sp vs H Q E ->
   ∃ t,PSs (cxOf CX P w K mg base N qual scope f qZ A outer s H E) body t /\ t { nx:=fun _ H'=>Q .non H',rt:=Q } (start N vs) H) :
  FnOk P w K mg base CX (k + 1) f (W.fnOf name qual params body scope dV kV doc pm an qZ ct) ps sp:=by
 refine ⟨len,fun A outer s H args us vs Q E hr e0 hb r hsp=>?_⟩
 have hl:=len _ _ _ _ hsp
 have KX:K.In s.heap:=e0.mod.kin.keeps fun b o e=>(e0.bs b o e).1
 have lim:s.heap.NoLimit:=e0.mod.nolimit.keeps fun b o e=>(e0.bs b o e).1
 have hkind:∀ y ∈ ps.zip us,scope.names.lookup y.1=some .local \/ (scope.names.lookup y.1=some .cell /\ ((cellsFrom (s.heap.objs.size + 1) scope.names []).lookup y.1).isSome=true):=fun ⟨n,v⟩ hy=>by
  rcases S.par n (List.of_mem_zip hy).1 with q | q
  ·exact .inl q
  ·exact .inr ⟨q,W.cellsFrom_some _ _ _ (.inl q)⟩
 refine codeAny_call_function hr.depth (KX _ _ lk) rfl S.co S.gen rfl (W.codeRec_of KX hcd) (hb _ _ _ _ ?_)
 refine wpAny_newFunctionEnv_cells S.kind hkind fun env he s1 x=>?_
 subst he
 refine ⟨lim.keeps x.toInCall.keep,codeAny_func ?_⟩
 obtain ⟨t,ht,hq⟩:=qY A outer s H vs Q E (hr.deeper _) hsp
 have I:Inv (cxOf CX P w K mg base N qual scope f qZ A outer s H E) [] (start N vs) H s1:=Ut S hr.hd e0 hl r x
 refine wpAny_mono (ht [] s1 (start N vs) H _ I hq) (fun fl s' hs=>?_) fun e s' hs=>hs
 have fin:∀ {σ':St} {H':Hp} {v:V} {u:Value},Inv (cxOf CX P w K mg base N qual scope f qZ A outer s H E) [] σ' H' s'->RelV v u->Q v H'->CE outer P w H s Q u s' :=
  fun {σ' H' v u} J rv q=>⟨v,H',J.os,J.bare,J.base,J.hok,rv,q⟩
 cases fl with
 | ret u =>
  obtain ⟨v,σ',H',J,rv,q⟩:=hs
  exact fin J rv q
 | next =>
  obtain ⟨σ',H',J,q⟩:=hs
  exact fin (v:=V.non) (u:=Value.none) J rfl q
 | brk =>
  obtain ⟨_,_,_,q⟩:=hs
  exact False.elim q
 | cont =>
  obtain ⟨_,_,_,q⟩:=hs
  exact False.elim q
section
variable {X:Cx} {x:Str} {p pos:Pos} {e:Expr} {es:List Expr} {t:TA} {id T:String} {r:List V->Hp->VK->Prop}
noncomputable def tCB (r:List V->Hp->VK->Prop) (t:TA):TE:=fun σ H Q=>t σ H fun vs H1=>r vs H1 Q
theorem gh (hc:u1 X (.builtin id) r) (hg:Gl X x) (hm:X.mg x=none) (hv:bootBuiltins x=some (.builtin id)) (ha:PA X (e :: es) t) (hn:x ≠ "__name__":=by decide) (hdb:(x == ("__debug__" : Str))=false:=by decide)
  (he:starEach (e :: es) X.env=(false,eval e X.env) :: starEach es X.env:=by rfl) (hpl:(backTo pos (starEach es X.env)).any (·.1)=false:=by rfl):PE X (.Call (.Name x p) (e :: es) [] pos) (tCB r t):=by
 intro pn s σ H Q I h
 refine wpAny_Call_Name_kw (tz I hg hm hv ?_ hn hdb)
 exact PyProof.Rows.callWith_builtin1 (thn (ha pos pn s σ H _ I h) fun us s1 ⟨vs,H1,I1,r1,q1⟩=>hc pn s1 σ H1 vs us Q I1 r1 q1) he hpl
theorem Vv (hc:u1 X (.type T) r) (hg:Gl X x) (hm:X.mg x=none) (hv:bootBuiltins x=some (.type T)) (ha:PA X (e :: es) t) (hn:x ≠ "__name__":=by decide) (hdb:(x == ("__debug__" : Str))=false:=by decide)
  (he:starEach (e :: es) X.env=(false,eval e X.env) :: starEach es X.env:=by rfl) (hpl:(backTo pos (starEach es X.env)).any (·.1)=false:=by rfl):PE X (.Call (.Name x p) (e :: es) [] pos) (tCB r t):=by
 intro pn s σ H Q I h
 refine wpAny_Call_Name_kw (tz I hg hm hv ?_ hn hdb)
 exact PyProof.Rows.callWith_type1 (thn (ha pos pn s σ H _ I h) fun us s1 ⟨vs,H1,I1,r1,q1⟩=>hc pn s1 σ H1 vs us Q I1 r1 q1) he hpl
end
end L2
namespace HT
open PySem PyProof.Rows
section
open PySem.SeqAt
open PySem.AutoSeq1 (wpAny_loadPart')
open PySem.MeetsSeq PySem.MeetsSeq2 PySem.MeetsSeq3
end
section
variable {prog:Program} {w:World} {A:Around} {E:Value->Shared->Prop} {s:Shared}
theorem cat_tup {t b:Addr} {vs ws:List Value} {Q:Value->Shared->Prop} (ht:IsTup s.heap t vs.toArray) (hb:IsTup s.heap b ws.toArray) (hv:vs ≠ [])
  (h1:ws=[]->Q (.ref t) s) (h2:ws ≠ []->Q (.ref s.heap.objs.size) { s with heap:=s.heap.push { cls:=.type "tuple", data:=.seq (vs ++ ws).toArray } })
  (hsz:vs.length + ws.length <= sizeLine):wpAny (model prog w) A (binaryOp .Add (.ref t) (.ref b)) Q E s:=by
 obtain ⟨⟨cls,dd,data,sl⟩,ho,hc,n,hd⟩:=id ht
 obtain ⟨⟨cls2,dd2,data2,sl2⟩,ho2,hc2,n2,hd2⟩:=id hb
 simp only at hc hd hc2 hd2
 subst hc hd hc2 hd2
 have e:vs.toArray ++ ws.toArray=(vs ++ ws).toArray:=by simp
 by_cases hw:ws=[]
 ·exact concat_meets ⟨_,ho,rfl⟩ ⟨_,ho2,rfl⟩ noFill_tuple_add seq_tuple_add PySem.F.slot_tuple_add PySem.F.entry_tuple_add (PySem.F.args_tuple_add_2 _ _)
   (tuple_addW1 t b vs.toArray ws.toArray n n2 dd dd2 sl sl2 (by simpa using hv) (by simp [hw])) ⟨ho,ho2,h1 hw⟩
 ·refine concat_meets ⟨_,ho,rfl⟩ ⟨_,ho2,rfl⟩ noFill_tuple_add seq_tuple_add PySem.F.slot_tuple_add PySem.F.entry_tuple_add (PySem.F.args_tuple_add_2 _ _)
   (tuple_addW2 t b vs.toArray ws.toArray n n2 dd dd2 sl sl2 (by simpa using hv) (by simpa using hw) (by rw [List.size_toArray,List.size_toArray]; exact hsz)) ⟨ho,ho2,?_⟩
  rw [e]
  exact h2 hw
noncomputable def sIx (n d:Nat):Option Int->Nat
 | none=>d
 | some v=>if v < 0 then (v + (n:Int)).toNat else min v.toNat n
theorem sIx_none (n d:Nat):sIx n d none=d:=rfl
theorem sIx_nat (n d k:Nat):sIx n d (some (k:Int))=min k n:=by
 show (if (k:Int) < 0 then ((k:Int) + (n:Int)).toNat else min (k:Int).toNat n)=min k n
 rw [if_neg (by omega),Int.toNat_natCast]
theorem jc (n d:Nat) (hd:d <= n) (o:Option Int):sIx n d o <= n:=by
 cases o with
 | none=>exact hd
 | some v =>
  show (if v < 0 then (v + (n:Int)).toNat else min v.toNat n) <= n
  by_cases hv:v < 0
  ·rw [if_pos hv]; omega
  ·rw [if_neg hv]; exact Nat.min_le_right _ _
theorem Ts (v:Int) (n d:Nat):(if v < 0 then max (v + (n:Int)) 0 else min v (n:Int))=((sIx n d (some v):Nat):Int):=by
 show (if v < 0 then max (v + (n:Int)) 0 else min v (n:Int))=(((if v < 0 then (v + (n:Int)).toNat else min v.toNat n):Nat):Int)
 by_cases hv:v < 0
 ·simp only [if_pos hv]; omega
 ·simp only [if_neg hv]; omega
theorem V5 (lo hi:Option Int) (n:Nat):Builtin.Slice.sliceAdjust lo hi 1 (n:Int)=(((sIx n 0 lo:Nat):Int),((sIx n n hi:Nat):Int)):=by
 have h1:¬ ((1:Int) < 0):=by omega
 unfold Builtin.Slice.sliceAdjust
 simp only [h1,if_false]
 refine Prod.ext ?_ ?_
 ·cases lo with
  | none=>rfl
  | some v=>exact Ts v n 0
 ·cases hi with
  | none=>rfl
  | some v=>exact Ts v n n
theorem We (i j:Nat):Builtin.Slice.slicePlaces (i:Int) (j:Int) 1=j - i:=by
 unfold Builtin.Slice.slicePlaces
 have h1:(1:Int) > 0:=by omega
 simp only [h1,if_true,Int.ediv_one]
 split <;> omega
theorem jb {v:Value} {o:Option Int} {Q:Option Int->Shared->Prop} (p:IsPart v o) (h:Q o s):wpAny (model prog w) A (Builtin.Slice.slicePartIndex v) Q E s:=by
 cases p with
 | none=>exact slicePart_none h
 | int i t=>exact slicePart_int h
theorem ve {sl:Addr} {vl vu:Value} {lo hi:Option Int} {n:Nat} {Q:Int × Int × Nat->Shared->Prop} (hs:s.heap.IsSliceOf sl vl vu .none) (pl:IsPart vl lo) (pu:IsPart vu hi)
  (h:Q (((sIx n 0 lo:Nat):Int),1,sIx n n hi - sIx n 0 lo) s):wpAny (model prog w) A (Builtin.Slice.sliceApplied (.ref sl) (pure (n:Int))) Q E s:=by
 obtain ⟨os,hos,hcs,hds⟩:=id hs
 unfold Builtin.Slice.sliceApplied Builtin.Slice.sliceFields
 refine wpAny_bind (wpAny_bind (wpAny_field hos hds (x:=vl) rfl (wpAny_bind (wpAny_field hos hds (x:=vu) rfl (wpAny_bind (wpAny_field hos hds (x:=.none) rfl (wpAny_pure ?_)))))))
 refine wpAny_bind (slicePart_none ?_)
 show wpAny _ _ (if ((1:Int) == 0)=true then _ else _) _ _ s
 rw [if_neg (by decide)]
 refine wpAny_bind (jb pl (wpAny_bind (jb pu (wpAny_bind (wpAny_pure ?_)))))
 show wpAny _ _ (match Builtin.Slice.sliceAdjust lo hi 1 (n:Int) with | (lo,hi)=>pure (lo,(1:Int),Builtin.Slice.slicePlaces lo hi 1)) _ _ s
 rw [V5 lo hi n]
 show wpAny _ _ (pure (((sIx n 0 lo:Nat):Int),(1:Int),Builtin.Slice.slicePlaces ((sIx n 0 lo:Nat):Int) ((sIx n n hi:Nat):Int) 1)) _ _ s
 rw [We]
 exact wpAny_pure h
theorem Rg (xs:Array Value) (i k:Nat):((List.range k).filterMap fun (m:Nat)=>xs[((i:Int) + (m:Int) * 1).toNat]?).toArray=((xs.toList.drop i).take k).toArray:=by
 have e:(fun (m:Nat)=>xs[((i:Int) + (m:Int) * 1).toNat]?)=fun m=>xs[i + m]?:=by
  funext m
  have:((i:Int) + (m:Int) * 1).toNat=i + m:=by omega
  rw [this]
 rw [e]
 have:=pick_run xs i k
 rw [List.filterMap_map] at this
 have e2:((fun x=>xs[x]?) ∘ fun x=>i + x)=fun m=>xs[i + m]?:=rfl
 rw [e2] at this
 rw [this]
theorem getItem_tuple_cut {t sl:Addr} {items:Array Value} {vl vu:Value} {lo hi:Option Int} {Q:Value->Shared->Prop} (ht:IsTup s.heap t items) (hs:s.heap.IsSliceOf sl vl vu .none) (pl:IsPart vl lo) (pu:IsPart vu hi)
  (hw:¬ (sIx items.size 0 lo=0 /\ sIx items.size items.size hi=items.size))
  (h:Q (.ref s.heap.objs.size) { s with heap:=s.heap.push { cls:=.type "tuple", data:=.seq ((items.toList.drop (sIx items.size 0 lo)).take (sIx items.size items.size hi - sIx items.size 0 lo)).toArray } })
  (hsz:items.size <= sizeLine):wpAny (model prog w) A (getItem (.ref t) (.ref sl)) Q E s:=by
 have htake:sizeOk (.seq ((items.toList.drop (sIx items.size 0 lo)).take (sIx items.size items.size hi - sIx items.size 0 lo)).toArray):=by
  show ((items.toList.drop (sIx items.size 0 lo)).take (sIx items.size items.size hi - sIx items.size 0 lo)).toArray.size <= sizeLine
  rw [List.size_toArray,List.length_take,List.length_drop,Array.length_toList]
  omega
 have hj:sIx items.size items.size hi <= items.size:=jc _ _ (Nat.le_refl _) hi
 obtain ⟨os,hos,hcs,hds⟩:=id hs
 have hTs:s.TypeIs (.ref sl) "slice":=⟨os,hos,hcs⟩
 unfold getItem
 try with_reducible refine wpAny_holding ?_
 first | refine wpAny_bind (wpAny_pure ?_) | skip
 refine wpAny_bind (wpAny_sequenceKey ht.typeIs (by decide) ?_)
 refine wpAny_bind (wpAny_callSpecial?_slot (name:=Str.ofString "__getitem__") ht.typeIs PyProof.Rows.slot_tuple_getitem
  (wpAny_call_entry PyProof.Rows.slot_tuple_getitem ht.typeIs entry_tuple_getitem ?_ (args_tuple_getitem _ _)))
 show wpAny _ _ (Builtin.Tuple.tupleItemsOf (.ref t) >>= _) _ _ s
 refine wpAny_bind (tupleItemsOf_ ht ?_)
 refine wpAny_bind (wpAny_typeOf hTs ?_)
 rw [if_pos (by decide)]
 refine wpAny_bind (ve hs pl pu ?_)
 have hno:¬ ((((sIx items.size 0 lo:Nat):Int) == 0 && (1:Int) == 1 && (sIx items.size items.size hi - sIx items.size 0 lo) == items.size)=true):=by
  intro q
  rw [Bool.and_eq_true,Bool.and_eq_true] at q
  have q1:((sIx items.size 0 lo:Nat):Int)=0:=eq_of_beq q.1.1
  have q2:sIx items.size items.size hi - sIx items.size 0 lo=items.size:=eq_of_beq q.2
  exact hw ⟨by omega,by omega⟩
 show wpAny _ _ (if (((sIx items.size 0 lo:Nat):Int) == 0 && (1:Int) == 1 && (sIx items.size items.size hi - sIx items.size 0 lo) == items.size)=true then _ else _) _ _ s
 rw [if_neg hno,Rg]
 first
  | exact wpAny_bind (m:=Builtin.Tuple.tupleExact _) (wpAny_newObj_type (wpAny_pure ⟨_,rfl,wpAny_pure h⟩) htake)
  | exact wpAny_bind (m:=Builtin.Tuple.tupleExact _) (wpAny_newObj_type (wpAny_bind (wpAny_pure (wpAny_pure ⟨_,rfl,wpAny_pure h⟩))) htake)
  | exact wpAny_bind (wpAny_bind (m:=Builtin.Tuple.tupleExact _) (wpAny_newObj_type (wpAny_pure (wpAny_pure ⟨_,rfl,wpAny_pure h⟩)) htake))
  | exact wpAny_bind (wpAny_bind (m:=Builtin.Tuple.tupleExact _) (wpAny_newObj_type (wpAny_pure ⟨_,rfl,wpAny_pure h⟩) htake))
end
end HT
namespace L2
open PySem PySem.Spec PyProof.Rows
noncomputable abbrev TO:=St->Hp->(Option Int->Hp->Prop)->Prop
noncomputable def PO (X:Cx) (e:Option Expr) (t:TO):Prop :=
 ∀ (pn:List (Addr × Obj)) (s:Shared) (σ:St) (H:Hp) (Q:Option Int->Hp->Prop),Inv X pn σ H s->t σ H Q ->
  wpAny (model X.prog X.w) X.A (evalPart e X.env) (fun u s'=>∃ o H',Inv X pn σ H' s' /\ IsPart u o /\ Q o H') X.xe s
noncomputable def O4:TO:=fun _ H Q=>Q none H
noncomputable def Hw (t:TE):TO:=fun σ H Q=>t σ H fun x H1=>∃ i,x=.int i /\ Q (some i) H1
section
variable {X:Cx} {e:Expr} {te:TE} {lo hi:Option Expr} {tl th:TO} {pos p2:Pos}
theorem Oq:PO X none O4:=by
 intro pn s σ H Q I h
 rw [evalPart_none]
 exact wpAny_pure ⟨none,H,I,.none,h⟩
theorem Oo (h:PE X e te):PO X (some e) (Hw te):=by
 intro pn s σ H Q I hw
 rw [evalPart_some]
 refine thn (h pn s σ H _ I hw) fun u s1 ⟨x,H1,I1,r1,q1⟩=>?_
 obtain ⟨i,rfl,q⟩:=q1
 obtain ⟨t,rfl⟩:=r1
 exact ⟨some i,H1,I1,.int i t,q⟩
noncomputable def SlR (X:Cx) (r:V->Option Int->Option Int->Hp->VK->Prop):Prop :=
 ∀ (pn:List (Addr × Obj)) (s:Shared) (σ:St) (H:Hp) (x:V) (v vl vu:Value) (lo hi:Option Int) (sl:Addr) (Q:VK),Inv X pn σ H s->RelV x v->s.heap.IsSliceOf sl vl vu .none->IsPart vl lo->IsPart vu hi->r x lo hi H Q ->
  ∃ T id,typeLookup (.type T) "__getitem__" = pure (some (.builtin id)) /\ s.TypeIs v T /\ wpAny (model X.prog X.w) X.A (getItem v (.ref sl)) (EP X pn σ Q) X.xe s
theorem SlR.or {r r':V->Option Int->Option Int->Hp->VK->Prop} (h:SlR X r) (h':SlR X r'):SlR X (fun x lo hi H Q=>r x lo hi H Q \/ r' x lo hi H Q):=by
 intro pn s σ H x v vl vu lo hi sl Q I rx hs pl pu q
 rcases q with q | q
 ·exact h pn s σ H x v vl vu lo hi sl Q I rx hs pl pu q
 ·exact h' pn s σ H x v vl vu lo hi sl Q I rx hs pl pu q
noncomputable def tSl (r:V->Option Int->Option Int->Hp->VK->Prop) (te:TE) (tl th:TO):TE:=fun σ H Q=>te σ H fun x H1=>tl σ H1 fun l H2=>th σ H2 fun u H3=>r x l u H3 Q
theorem gf {r:V->Option Int->Option Int->Hp->VK->Prop} (hr:SlR X r) (he:PE X e te) (hl:PO X lo tl) (hu:PO X hi th):PE X (.Subscript e (.Slice lo hi none p2) pos) (tSl r te tl th):=by
 intro pn s σ H Q I h
 refine Subscript_ (thn (he pn s σ H _ I h) fun v s1 ⟨x,H1,I1,r1,q1⟩=>?_)
 refine wpAny_Slice (thn (hl pn s1 σ H1 _ I1 q1) fun vl s2 ⟨l,H2,I2,pl,q2⟩=>thn (hu pn s2 σ H2 _ I2 q2) fun vu s3 ⟨u,H3,I3,pu,q3⟩=>?_)
 rw [evalPart_none]
 refine wpAny_pure ?_
 have I4:Inv X pn σ H3 { s3 with heap:=s3.heap.push { cls:=.type "slice", data:=.fields #[vl,vu,.none] } }:=I3.kept (t':=s3.toks) fun b ob q=>Heap.get?_push_of_some _ q
 obtain ⟨T,id,hT,ht,hg⟩:=hr pn { s3 with heap:=s3.heap.push { cls:=.type "slice", data:=.fields #[vl,vu,.none] } } σ H3 x v vl vu l u s3.heap.objs.size Q I4 r1 (Heap.IsSliceOf.new ..) pl pu q3
 show wpAny (model X.prog X.w) X.A (subscriptTail e (.Slice lo hi none p2) v (.ref s3.heap.objs.size)) (EP X pn σ Q) X.xe { s3 with heap:=s3.heap.push { cls:=.type "slice", data:=.fields #[vl,vu,.none] } }
 exact tail_any (ops:=[.ref s3.heap.objs.size,v]) ht hT hg (by with_unfolding_all rfl)
noncomputable def cutV (xs:List V) (lo hi:Option Int):List V:=(xs.drop (HT.sIx xs.length 0 lo)).take (HT.sIx xs.length xs.length hi - HT.sIx xs.length 0 lo)
theorem k8 (xs:List V) (lo hi:Option Int):(cutV xs lo hi).length <= xs.length:=by
 unfold cutV
 rw [List.length_take,List.length_drop]
 omega
noncomputable def rSlT (K:W.Frag):V->Option Int->Option Int->Hp->VK->Prop:=fun x lo hi H Q=>∃ a xs,x=.ref a /\ SqT K H a xs /\
 ¬ (HT.sIx xs.length 0 lo=0 /\ HT.sIx xs.length xs.length hi=xs.length) /\ ∀ p,H p=none->Q (.ref p) (upd H p (.tup (cutV xs lo hi)))
theorem P5:SlR X (rSlT X.K):=by
 intro pn s σ H x v vl vu lo hi sl Q I rx hs pl pu h
 obtain ⟨a,xs,rfl,hx,hw,q⟩:=h
 cases rx
 obtain ⟨its,r,ht,hz⟩:=I.tuple hx
 have hlen:its.toArray.size=xs.length:=by rw [List.size_toArray]; exact r.length.symm
 refine ⟨"tuple", _,PyProof.Rows.slot_tuple_getitem.lookup,ht.typeIs,?_⟩
 refine HT.getItem_tuple_cut ht hs pl pu (by rw [hlen]; exact hw) ?_ (by rw [hlen]; exact hz)
 rw [hlen]
 refine ⟨.ref s.heap.objs.size,_,I.laid (t':=s.toks) (o:=.tup (cutV xs lo hi)) (fun b ob q=>Heap.get?_push_of_some _ q) (Nat.le_refl _) ?_,rfl,q _ (I.hok.fresh (Nat.le_refl _))⟩
 exact ⟨Nat.le_trans (k8 xs lo hi) hz,_,(r.drop (HT.sIx xs.length 0 lo)).take (HT.sIx xs.length xs.length hi - HT.sIx xs.length 0 lo),IsTup.new _ _,_,Heap.get?_push_size _ rfl,rfl⟩
noncomputable def Lr (K:W.Frag):R2:=fun x y H Q=>∃ a b xs ys,x=.ref a /\ y=.ref b /\ SqT K H a xs /\ SqT K H b ys /\ xs ≠ [] /\ xs.length + ys.length <= sizeLine /\
 (ys=[]->Q (.ref a) H) /\ (ys ≠ []->∀ p,H p=none->Q (.ref p) (upd H p (.tup (xs ++ ys))))
theorem Vals.nil_iff {xs:List V} {us:List Value} (r:Vals xs us):us=[] ↔ xs=[]:=by
 cases r with
 | nil=>simp
 | cons _ _=>simp
theorem U0:OpR X (binaryOp .Add) (Lr X.K):=by
 intro pn s σ H x y v u Q I rx ry h
 obtain ⟨a,b,xs,ys,rfl,rfl,ha,hb,hx,hz,q1,q2⟩:=h
 cases rx
 cases ry
 obtain ⟨its,r1,p1,_⟩:=I.tuple ha
 obtain ⟨its2,r2,p2,_⟩:=I.tuple hb
 refine HT.cat_tup p1 p2 (fun z=>hx (r1.nil_iff.mp z)) (fun z=>⟨.ref a,H,I,rfl,q1 (r2.nil_iff.mp z)⟩) (fun z=>?_) (by rw [<- r1.length,<- r2.length]; exact hz)
 refine ⟨.ref s.heap.objs.size,_,I.laid (t':=s.toks) (o:=.tup (xs ++ ys)) (fun b ob q=>Heap.get?_push_of_some _ q) (Nat.le_refl _) ?_,rfl,q2 (fun w=>z (r2.nil_iff.mpr w)) _ (I.hok.fresh (Nat.le_refl _))⟩
 exact ⟨by rw [zLa]; exact hz,_,r1.append r2,IsTup.new _ _,_,Heap.get?_push_size _ rfl,rfl⟩
end
noncomputable def ixN (n:Nat) (i:Int):Option Nat:=if 0 <= i then (if i < n then some i.toNat else none) else if -(n:Int) <= i then some (i + n).toNat else none
noncomputable def atI {α:Type} (xs:List α) (i:Int):Option α:=(ixN xs.length i).bind fun j=>xs[j]?
theorem Us {n:Nat} {i:Int} {j:Nat} (h:ixN n i=some j):seqIndex? i n=some j /\ j < n /\ -(n:Int) <= i /\ i < n:=by
 unfold ixN at h
 by_cases h0:0 <= i
 ·rw [if_pos h0] at h
  by_cases h1:i < n
  ·rw [if_pos h1] at h
   have e:i.toNat=j:=Option.some.inj h
   exact ⟨by rw [seqIndex_of h0 h1,e],by omega,by omega,h1⟩
  ·rw [if_neg h1] at h; cases h
 ·rw [if_neg h0] at h
  by_cases h1:-(n:Int) <= i
  ·rw [if_pos h1] at h
   have e:(i + n).toNat=j:=Option.some.inj h
   exact ⟨by rw [seqIndex_neg (by omega) h1,e],by omega,h1,by omega⟩
  ·rw [if_neg h1] at h; cases h
theorem Yx {α:Type} {xs:List α} {i:Int} {v:α} (h:atI xs i=some v):∃ j,seqIndex? i xs.length=some j /\ xs[j]?=some v /\ j < xs.length /\ -(xs.length:Int) <= i /\ i < xs.length:=by
 unfold atI at h
 cases e:ixN xs.length i with
 | none=>rw [e] at h; cases h
 | some j =>
  rw [e] at h
  obtain ⟨h1,h2,h3,h4⟩:=Us e
  exact ⟨j,h1,h,h2,h3,h4⟩
theorem c6 {α:Type} {xs:List α} {j:Nat} {v:α} (h:xs[j]?=some v):atI xs (j:Int)=some v:=by
 have hj:j < xs.length:=(List.getElem?_eq_some_iff.mp h).1
 have e:ixN xs.length (j:Int)=some j:=by
  unfold ixN
  rw [if_pos (by omega),if_pos (by omega)]; simp
 unfold atI; rw [e]; exact h
theorem Qu {α:Type} (xs:List α) (v:α):atI (xs ++ [v]) (-1)=some v:=by
 have hl:(xs ++ [v]).length=xs.length + 1:=by simp
 have e:ixN (xs ++ [v]).length (-1)=some xs.length:=by
  unfold ixN
  rw [hl,if_neg (by decide),if_pos (by omega)]
  congr 1
  omega
 unfold atI
 rw [e]
 show (xs ++ [v])[xs.length]?=some v
 simp
noncomputable def c7 (b:Expr):Prop:=∀ o i,subscripted b false o i=operate [o,i] (getItem o i)
noncomputable def IxR (X:Cx) (r:R2):Prop :=
 ∀ (value slice:Expr) (pn:List (Addr × Obj)) (s:Shared) (σ:St) (H:Hp) (x y:V) (v u:Value) (Q:VK),Inv X pn σ H s->RelV x v->RelV y u->r x y H Q ->
  subscripted slice false v u=operate [v,u] (getItem v u)->wpAny (model X.prog X.w) X.A (subscriptTail value slice v u) (EP X pn σ Q) X.xe s
noncomputable def MtR (X:Cx) (id:String) (r:V->List V->Hp->VK->Prop):Prop :=
 ∀ (pn:List (Addr × Obj)) (s:Shared) (σ:St) (H:Hp) (x:V) (xs:List V) (v:Value) (us:List Value) (Q:VK),Inv X pn σ H s->RelV x v->Vals xs us->r x xs H Q ->
  wpAny (model X.prog X.w) X.A (call (.builtin id) (v :: us)) (EP X pn σ Q) X.xe s
section
variable {X:Cx} {a b:Expr} {ta tb:TE} {pos:Pos}
theorem IxR.or {r r':R2} (h:IxR X r) (h':IxR X r'):IxR X (fun x y H Q=>r x y H Q \/ r' x y H Q):=by
 intro value slice pn s σ H x y v u Q I rx ry q hs
 rcases q with q | q
 ·exact h value slice pn s σ H x y v u Q I rx ry q hs
 ·exact h' value slice pn s σ H x y v u Q I rx ry q hs
theorem Ov {r:R2} (hr:IxR X r) (ha:PE X a ta) (hb:PE X b tb) (hs:c7 b):PE X (.Subscript a b pos) (tOp r ta tb):=by
 intro pn s σ H Q I h
 exact Subscript_ (binT ha hb I h fun v u s2 x y H2 I2 rx ry q=>hr a b pn s2 σ H2 x y v u Q I2 rx ry q (hs _ _))
noncomputable def rIxL (K:W.Frag):R2:=fun x y H Q=>∃ p xs i v,x=.ref p /\ y=.int i /\ SqL K H p xs /\ atI xs i=some v /\ Q v H
noncomputable def rIxT (K:W.Frag):R2:=fun x y H Q=>∃ p xs i v,x=.ref p /\ y=.int i /\ SqT K H p xs /\ atI xs i=some v /\ Q v H
noncomputable def rIxS:R2:=fun x y H Q=>∃ z i c,x=.str z /\ y=.int i /\ z.length <= sizeLine /\ atI z.cps.toList i=some c /\ Q (.str ⟨#[c]⟩) H
theorem Nj:IxR X (rIxL X.K):=by
 intro value slice pn s σ H x y v u Q I rx ry h hs
 obtain ⟨p,xs,i,z,rfl,rfl,hq,he,q⟩:=h
 cases rx
 obtain ⟨t,rfl⟩:=ry
 obtain ⟨its,r,pl,hz⟩:=I.list hq
 obtain ⟨j,h1,h2,h3,h4,h5⟩:=Yx he
 obtain ⟨w,ew,rw'⟩:=r.get h2
 have hl:=r.length
 have hn:=qm
 have fin:EP X pn σ Q w s:=⟨z,H,I,rw',q⟩
 by_cases h0:0 <= i
 ·have hj:i.toNat=j:=by
   rw [seqIndex_of h0 h5] at h1
   exact Option.some.inj h1
  exact item_listR pl.isList h0 (by omega) (by rw [hj]; simpa using ew) fin hs
 ·have hj:(i + (its.toArray.size:Int)).toNat=j:=by
   rw [seqIndex_neg (by omega) h4] at h1
   rw [List.size_toArray,<- hl]
   exact Option.some.inj h1
  exact subscriptTail_builtinR (x:=w) pl.isList.typeIs slot_list_getitem.lookup
   (wpAny_getItem_list_neg (Q:=fun r s'=>r=w /\ EP X pn σ Q r s') pl.isList (by omega) (by rw [List.size_toArray] <;> omega) (by omega) (by rw [hj]; simpa using ew) ⟨rfl,fin⟩) hs
theorem Jf:IxR X (rIxT X.K):=by
 intro value slice pn s σ H x y v u Q I rx ry h hs
 obtain ⟨p,xs,i,z,rfl,rfl,hq,he,q⟩:=h
 cases rx
 obtain ⟨t,rfl⟩:=ry
 obtain ⟨its,r,pl,hz⟩:=I.tuple hq
 obtain ⟨j,h1,h2,h3,h4,h5⟩:=Yx he
 obtain ⟨w,ew,rw'⟩:=r.get h2
 have hl:=r.length
 have hn:=qm
 have fin:EP X pn σ Q w s:=⟨z,H,I,rw',q⟩
 exact subscriptTail_builtinR (x:=w) pl.typeIs slot_tuple_getitem.lookup
  (getItem_tuple (j:=j) (Q:=fun r s'=>r=w /\ EP X pn σ Q r s') pl (by omega) (by omega) (by rw [List.size_toArray,<- hl]; exact h1) (by simpa using ew) ⟨rfl,fin⟩) hs
theorem Jg:IxR X rIxS:=by
 intro value slice pn s σ H x y v u Q I rx ry h hs
 obtain ⟨z,i,c,rfl,rfl,hz,he,q⟩:=h
 obtain ⟨t,rfl⟩:=rx
 obtain ⟨t',rfl⟩:=ry
 obtain ⟨j,h1,h2,h3,h4,h5⟩:=Yx he
 have hl:z.cps.toList.length=z.length:=by simp [Str.length]
 rw [hl] at h1 h4 h5
 have hn:=qm
 exact tail_any (typeIs_str s z t) slot_str_getitem.lookup (getItem_str (c:=c) (by
  have e1:decide (i < -(2 ^ 63:Int))=false:=decide_eq_false (by omega)
  have e2:decide (i ≥ 2 ^ 63)=false:=decide_eq_false (by omega)
  rw [e1,e2,Bool.or_false]) (by rw [h1]; simpa using h2) ⟨.str ⟨#[c]⟩,H,I.tok _,⟨_,rfl⟩,q⟩) hs
noncomputable def rIx (K:W.Frag):R2:=fun x y H Q=>rIxL K x y H Q \/ rIxT K x y H Q \/ rIxS x y H Q
theorem Uq:IxR X (rIx X.K):=Nj.or (Jf.or Jg)
theorem Wj (its:List Value) (n j:Nat) (u:Value):Obj.mapSeq (·.setIfInBounds j u) { cls:=.type "list", data:=.seq its.toArray n }={ cls:=.type "list", data:=.seq (its.set j u).toArray n }:=by
 simp [Obj.mapSeq]
theorem Inv.lst {pn:List (Addr × Obj)} {σ:St} {H:Hp} {s:Shared} {p:Addr} {xs:List V} (I:Inv X pn σ H s) (h:H p=some (.lst xs)) :
  ∃ (its:List Value) (n:Nat),Vals xs its /\ s.heap.get? p=some { cls:=.type "list", data:=.seq its.toArray n } /\ xs.length <= sizeLine:=by
 obtain ⟨z,its,n,r,e⟩:=I.hok p _ h
 exact ⟨its,n,r,e,z⟩
theorem Inv.lstUpd {pn:List (Addr × Obj)} {σ:St} {H:Hp} {s:Shared} {p:Addr} {xs ys:List V} {its its':List Value} {n n':Nat} {f:Obj->Obj} (I:Inv X pn σ H s) (h:H p=some (.lst xs))
  (ho:s.heap.get? p=some { cls:=.type "list", data:=.seq its.toArray n }) (hf:f { cls:=.type "list", data:=.seq its.toArray n }={ cls:=.type "list", data:=.seq its'.toArray n' }) (r:Vals ys its') (hz:ys.length <= sizeLine) (t:Nat) :
  Inv X pn σ (upd H p (.lst ys)) { s with heap:=s.heap.update p f,toks:=t }:=by
 have e:(s.heap.update p f).get? p=some { cls:=.type "list", data:=.seq its'.toArray n' }:=by
  rw [Heap.get?_update_self f ho (by rw [hf] <;> rfl),hf]
 refine I.write (x:=p) (e:=p) (by rw [h]; trivial) (.inl rfl) (fun b u hb q=>(Heap.get?_update_other _ _ (Ne.symm hb)).trans q) ⟨_,e⟩ ?_
 exact ⟨hz,its',n',r,e⟩
noncomputable def Ga:V->V->V->Hp->(Hp->Prop)->Prop:=fun o i v H Q=>∃ p xs k j,o=.ref p /\ i=.int k /\ H p=some (.lst xs) /\ ixN xs.length k=some j /\ Q (upd H p (.lst (xs.set j v)))
theorem X5:PSet X Ga:=by
 intro pn s σ H o i v ov iv u Q I ro ri rv h
 obtain ⟨p,xs,k,j,rfl,rfl,hp,hj,q⟩:=h
 cases ro
 obtain ⟨t,rfl⟩:=ri
 obtain ⟨its,n,r,ho,hz⟩:=I.lst hp
 obtain ⟨h1,h2,h3,h4⟩:=Us hj
 have hl:=r.length
 have hn:=qm
 have I':Inv X pn σ (upd H p (.lst (xs.set j v))) { s with heap:=s.heap.update p (Obj.mapSeq (·.setIfInBounds j u)) } :=
  I.lstUpd hp ho (Wj its n j u) (r.set rv j) (by rw [List.length_set]; exact hz) s.toks
 by_cases h0:0 <= k
 ·have hk:k.toNat=j:=by
   rw [seqIndex_of h0 h4] at h1
   exact Option.some.inj h1
  exact W.ki_setAt ho h0 (by omega) (by rw [List.size_toArray,<- hl]; exact h4) (by rw [hk]; exact ⟨_,I',q⟩)
 ·have hk:(k + (its.toArray.size:Int)).toNat=j:=by
   rw [seqIndex_neg (by omega) h3] at h1
   rw [List.size_toArray,<- hl]
   exact Option.some.inj h1
  exact W.ki_setBack ho (by omega) (by rw [List.size_toArray,<- hl]; exact h3) (by omega) (by rw [hk]; exact ⟨_,I',q⟩)
theorem cm (lo hi:Option Int) (n:Nat):(sliceBounds lo hi none n).1=((HT.sIx n 0 lo:Nat):Int) /\ (sliceBounds lo hi none n).2.1=((HT.sIx n n hi:Nat):Int) /\ (sliceBounds lo hi none n).2.2=1:=by
 refine ⟨?_,?_,rfl⟩
 ·cases lo with
  | none=>simp [sliceBounds,HT.sIx]
  | some i =>
   simp only [sliceBounds,HT.sIx,Option.getD_none,show (1:Int) > 0 by decide,if_true]
   by_cases h:i < 0
   ·simp only [h,if_true] <;> omega
   ·simp only [h,if_false] <;> omega
 ·cases hi with
  | none=>simp [sliceBounds,HT.sIx]
  | some i =>
   simp only [sliceBounds,HT.sIx,Option.getD_none,show (1:Int) > 0 by decide,if_true]
   by_cases h:i < 0
   ·simp only [h,if_true] <;> omega
   ·simp only [h,if_false] <;> omega
theorem jy (its:List Value) (lo hi:Option Int):slicePick its.toArray lo hi none=((its.drop (HT.sIx its.length 0 lo)).take (HT.sIx its.length its.length hi - HT.sIx its.length 0 lo)).toArray:=by
 obtain ⟨h1,h2,h3⟩:=cm lo hi its.toArray.size
 unfold slicePick
 rw [h1,h2,h3]
 simp only [sliceRange_one,pick_run,List.size_toArray] <;> rfl
noncomputable def rSlL (K:W.Frag):V->Option Int->Option Int->Hp->VK->Prop:=fun x lo hi H Q=>∃ a xs,x=.ref a /\ SqL K H a xs /\ ∀ p,H p=none->Q (.ref p) (upd H p (.lst (cutV xs lo hi)))
theorem O7:SlR X (rSlL X.K):=by
 intro pn s σ H x v vl vu lo hi sl Q I rx hs pl pu h
 obtain ⟨a,xs,rfl,hx,q⟩:=h
 cases rx
 obtain ⟨its,r,ht,hz⟩:=I.list hx
 have hlen:=r.length
 refine ⟨"list", _,slot_list_getitem.lookup,ht.isList.typeIs,?_⟩
 refine wpAny_getItem_list_slice ht.isList hs pl pu .none (by simp) ?_ (by rw [List.size_toArray] <;> omega)
 rw [jy,<- hlen]
 refine ⟨.ref s.heap.objs.size,_,I.laid (t':=s.toks) (o:=.lst (cutV xs lo hi)) (fun b ob q=>Heap.get?_push_of_some _ q) (Nat.le_refl _) ?_,rfl,q _ (I.hok.fresh (Nat.le_refl _))⟩
 exact ⟨Nat.le_trans (k8 xs lo hi) hz,_,0,(r.drop (HT.sIx xs.length 0 lo)).take (HT.sIx xs.length xs.length hi - HT.sIx xs.length 0 lo),Heap.get?_push_size _ rfl⟩
noncomputable def j5:V->Bool
 | .non=>true
 | .bl _=>true
 | .int _=>true
 | .str _=>true
 | _=>false
noncomputable def eqV:V->V->Bool
 | .non,.non=>true
 | .bl a,.bl b=>a == b
 | .bl a,.int b=>(if a then 1 else 0) == b
 | .int a,.bl b=>a == (if b then 1 else 0)
 | .int a,.int b=>a == b
 | .str a,.str b=>a == b
 | _,_=>false
theorem Hf {A:Around} {s:Shared} {y x:V} {u v:Value} (ry:RelV y u) (rx:RelV x v) (fy:j5 y=true) (fx:j5 x=true):SeqAt.EqAt A s u v (eqV y x):=by
 cases y with
 | non =>
  cases ry
  cases x with
  | non=>cases rx; exact SeqAt.EqAt.same _
  | bl b=>cases rx; exact SeqAt.EqAt.none_bool b
  | int b=>obtain ⟨t,rfl⟩:=rx; exact SeqAt.EqAt.none_int b t
  | str b=>obtain ⟨t,rfl⟩:=rx; exact SeqAt.EqAt.none_str b t
  | _=>exact absurd (show false=true from fx) Bool.false_ne_true
 | bl a =>
  cases ry
  cases x with
  | non=>cases rx; exact SeqAt.EqAt.bool_none a
  | bl b=>cases rx; exact SeqAt.EqAt.bool_bool a b
  | int b=>obtain ⟨t,rfl⟩:=rx; exact SeqAt.EqAt.bool_int a b t
  | str b=>obtain ⟨t,rfl⟩:=rx; exact SeqAt.EqAt.bool_str a b t
  | _=>exact absurd (show false=true from fx) Bool.false_ne_true
 | int a =>
  obtain ⟨t',rfl⟩:=ry
  cases x with
  | non=>cases rx; exact SeqAt.EqAt.int_none a t'
  | bl b=>cases rx; exact SeqAt.EqAt.int_bool a t' b
  | int b=>obtain ⟨t,rfl⟩:=rx; exact SeqAt.EqAt.int_int a t' b t
  | str b=>obtain ⟨t,rfl⟩:=rx; exact SeqAt.EqAt.int_str a t' b t
  | _=>exact absurd (show false=true from fx) Bool.false_ne_true
 | str a =>
  obtain ⟨t',rfl⟩:=ry
  cases x with
  | non=>cases rx; exact SeqAt.EqAt.str_none a t'
  | bl b=>cases rx; exact SeqAt.EqAt.str_bool a t' b
  | int b=>obtain ⟨t,rfl⟩:=rx; exact SeqAt.EqAt.str_int a t' b t
  | str b=>obtain ⟨t,rfl⟩:=rx; exact SeqAt.EqAt.str_str a t' b t
  | _=>exact absurd (show false=true from fx) Bool.false_ne_true
 | _=>exact absurd (show false=true from fy) Bool.false_ne_true
noncomputable def eqU (x:V) (u:Value):Bool:=match u with
 | .none=>eqV .non x
 | .bool b=>eqV (.bl b) x
 | .int i _=>eqV (.int i) x
 | .str z _=>eqV (.str z) x
 | _=>false
theorem Pn {x y:V} {u:Value} (r:RelV y u) (f:j5 y=true):eqU x u=eqV y x:=by
 cases y with
 | non=>cases r; rfl
 | bl b=>cases r; rfl
 | int i=>obtain ⟨t,rfl⟩:=r; rfl
 | str z=>obtain ⟨t,rfl⟩:=r; rfl
 | _=>exact absurd (show false=true from f) Bool.false_ne_true
theorem Yy {x:V}:∀ {xs:List V} {us:List Value},Vals xs us->xs.all j5=true->us.any (eqU x)=xs.any fun y=>eqV y x
 | _,_,.nil,_=>rfl
 | y :: xs,u :: us,.cons r t,f=>by
  rw [List.all_cons,Bool.and_eq_true] at f
  rw [List.any_cons,List.any_cons,Pn r f.1,Yy t f.2]
theorem gn {A:Around} {s:Shared} {x:V} {v:Value} (rx:RelV x v) (fx:j5 x=true):∀ {xs:List V} {us:List Value},Vals xs us->xs.all j5=true->∀ u ∈ us,SeqAt.EqAt A s u v (eqU x u)
 | _,_,.nil,_=>fun u hu=>by cases hu
 | y :: xs,u :: us,.cons r t,f=>fun u' hu=>by
  rw [List.all_cons,Bool.and_eq_true] at f
  rcases List.mem_cons.mp hu with rfl | hu
  ·rw [Pn r f.1]; exact Hf r rx f.1 fx
  ·exact gn rx fx t f.2 u' hu
noncomputable def inV (x:V) (xs:List V):Bool:=xs.any fun y=>eqV y x
noncomputable def rIn (K:W.Frag) (neg:Bool):R2:=fun x y H Q=>∃ p xs,y=.ref p /\ (SqL K H p xs \/ SqT K H p xs) /\ j5 x=true /\ xs.all j5=true /\ Q (.bl (if neg then !inV x xs else inV x xs)) H
theorem b8:OpR X (compareOp .NotIn) (rIn X.K true):=by
 intro pn s σ H x y v u Q I rx ry h
 obtain ⟨p,xs,rfl,hq,fx,fs,q⟩:=h
 cases ry
 rcases hq with hq | hq
 ·obtain ⟨its,r,pl,hz⟩:=I.list hq
  refine SeqAt.notIn_listAt (eqU x) pl.isList (fun w hw=>gn rx fx r fs w (by simpa using hw)) ⟨.bl _,H,I,rfl,?_⟩
  rw [show its.toArray.any (eqU x)=its.any (eqU x) by simp,Yy r fs]
  exact q
 ·obtain ⟨its,r,pl,hz⟩:=I.tuple hq
  refine SeqAt.notIn_tupleAt (eqU x) pl (fun w hw=>gn rx fx r fs w (by simpa using hw)) ⟨.bl _,H,I,rfl,?_⟩
  rw [show its.toArray.any (eqU x)=its.any (eqU x) by simp,Yy r fs]
  exact q
theorem b7:OpR X (compareOp .NotIn) (fun x y H Q=>∃ i j,x=.str i /\ y=.str j /\ Q (.bl (!(!(Builtin.Str.occurrences j i 0 j.length 1).isEmpty))) H):=by
 intro pn s σ H x y v u Q I rx ry h
 obtain ⟨i,j,rfl,rfl,q⟩:=h
 obtain ⟨t,rfl⟩:=rx
 obtain ⟨t',rfl⟩:=ry
 exact notIn_str ⟨.bl _,H,I,rfl,q⟩
theorem Zh:u1 X (.builtin "len") (fun xs H Q=>∃ p ys,xs=[.ref p] /\ (SqL X.K H p ys \/ SqT X.K H p ys) /\ Q (.int ys.length) H):=by
 intro pn s σ H xs us Q I r h
 obtain ⟨p,ys,rfl,hq,q⟩:=h
 obtain ⟨u,rfl,rx⟩:=ci r
 cases rx
 have hn:=qm
 rcases hq with hq | hq
 ·obtain ⟨its,r',pl,hz⟩:=I.list hq
  have hlen:=r'.length
  exact Calls.call_len_list pl.isList (by simp only [List.size_toArray] <;> omega) ⟨.int ys.length,H,I.tok _,⟨s.toks + 1,by rw [List.size_toArray,hlen]⟩,q⟩
 ·obtain ⟨its,r',pl,hz⟩:=I.tuple hq
  have hlen:=r'.length
  exact len_tuple pl (by simp only [List.size_toArray] <;> omega) ⟨.int ys.length,H,I.tok _,⟨s.toks + 1,by rw [List.size_toArray,hlen]⟩,q⟩
theorem Zg:u1 X (.builtin "len") (fun xs H Q=>∃ z,xs=[.str z] /\ z.length <= sizeLine /\ Q (.int z.length) H):=by
 intro pn s σ H xs us Q I r h
 obtain ⟨z,rfl,hz,q⟩:=h
 obtain ⟨u,rfl,t,rfl⟩:=ci r
 have hn:=qm
 exact len_str (by omega) ⟨.int z.length,H,I.tok _,⟨_,rfl⟩,q⟩
theorem u1.or {f:Value} {r r':List V->Hp->VK->Prop} (h:u1 X f r) (h':u1 X f r'):u1 X f (fun xs H Q=>r xs H Q \/ r' xs H Q):=by
 intro pn s σ H xs us Q I rs q
 rcases q with q | q
 ·exact h pn s σ H xs us Q I rs q
 ·exact h' pn s σ H xs us Q I rs q
theorem Zf:u1 X (.type "list") (fun xs H Q=>∃ p ys,xs=[.ref p] /\ (SqL X.K H p ys \/ SqT X.K H p ys) /\ ∀ l,H l=none->Q (.ref l) (upd H l (.lst ys))):=by
 intro pn s σ H xs us Q I r h
 obtain ⟨p,ys,rfl,hq,q⟩:=h
 obtain ⟨u,rfl,rx⟩:=ci r
 cases rx
 have fin:∀ (its:List Value),Vals ys its->ys.length <= sizeLine->∀ (h':Heap) (c':Nat),(∀ b o',s.heap.get? b=some o'->h'.get? b=some o') ->
   h'.get? s.heap.objs.size=some { cls:=.type "list", dict:=none,data:=.seq its.toArray c',slots:=#[] }->EP X pn σ Q (.ref s.heap.objs.size) { s with heap:=h' }:=fun its r' hz h' c' kp e =>
  ⟨.ref s.heap.objs.size,_,I.laid (t':=s.toks) kp (Nat.le_refl _) (show xv X.prog X.w _ h' _ (.lst ys) from ⟨hz,its,c',r',e⟩),rfl,q _ (I.hok.fresh (Nat.le_refl _))⟩
 rcases hq with hq | hq
 ·obtain ⟨its,r',pl,hz⟩:=I.list hq
  have hlen:=r'.length
  obtain ⟨o,ho,hc,n,hd⟩:=pl.isList
  exact call_list_seq p (.inl rfl) ho hc hd (fun h' c' kp e=>fin its r' hz h' c' kp e) (by simp only [List.size_toArray] <;> omega)
 ·obtain ⟨its,r',pl,hz⟩:=I.tuple hq
  have hlen:=r'.length
  obtain ⟨o,ho,hc,n,hd⟩:=pl
  exact call_list_seq p (.inr rfl) ho hc hd (fun h' c' kp e=>fin its r' hz h' c' kp e) (by simp only [List.size_toArray] <;> omega)
theorem dy:u1 X (.type "tuple") (fun xs H Q=>∃ p ys,xs=[.ref p] /\ ((SqL X.K H p ys /\ ∀ l,H l=none->Q (.ref l) (upd H l (.tup ys))) \/ (SqT X.K H p ys /\ Q (.ref p) H))):=by
 intro pn s σ H xs us Q I r h
 obtain ⟨p,ys,rfl,h⟩:=h
 obtain ⟨u,rfl,rx⟩:=ci r
 cases rx
 rcases h with ⟨hq,q⟩ | ⟨hq,q⟩
 ·obtain ⟨its,r',pl,hz⟩:=I.list hq
  have hlen:=r'.length
  refine call_tuple_list pl.isList (fun h' kp=>?_) (by simp only [List.size_toArray] <;> omega)
  have I1:Inv X pn σ H { s with heap:=h' }:=I.kept (t':=s.toks) kp
  have I2:Inv X pn σ (upd H h'.objs.size (.tup ys)) { s with heap:=h'.push { cls:=.type "tuple", data:=.seq its.toArray } } :=
   I1.laid (t':=s.toks) (fun b o e=>Heap.get?_push_of_some _ e) (Nat.le_refl _) (show xv X.prog X.w _ _ _ (.tup ys) from ⟨hz,its,r',IsTup.new _ _,_,Heap.get?_push_size _ rfl,rfl⟩)
  exact ⟨.ref h'.objs.size,_,I2,rfl,q _ (I1.hok.fresh (Nat.le_refl _))⟩
 ·obtain ⟨its,r',pl,hz⟩:=I.tuple hq
  exact call_tuple_same pl ⟨.ref p,H,I,rfl,q⟩
noncomputable def tyV (K:W.Frag) (T:String) (x:V) (H:Hp):Prop:=match x with
 | .str _=>T = "str"
 | .int _=>T = "int"
 | .ref p=>(T = "list" /\ ∃ xs,SqL K H p xs) \/ (T = "tuple" /\ ∃ o,K.lookup p=some o /\ o.cls=.type "tuple" /\ o.dict=none) \/
   (T = "dict" /\ ((∃ kvs,H p=some (.dK kvs)) \/ ∃ kvs,H p=some (.dT kvs))) \/ (T = "set" /\ ∃ S n,H p=some (.set S n))
 | _=>False
theorem Qw {pn:List (Addr × Obj)} {σ:St} {H:Hp} {s:Shared} {T:String} {x:V} {v:Value} (I:Inv X pn σ H s) (r:RelV x v) (ty:tyV X.K T x H) :
  s.TypeIs v T /\ ∀ a,v=.ref a->∃ ob,s.heap.get? a=some ob /\ ob.dict=none:=by
 cases x with
 | str z =>
  obtain ⟨t,rfl⟩:=r
  cases (show T = "str" from ty)
  exact ⟨typeIs_str s z t,fun _ e=>nomatch e⟩
 | int i =>
  obtain ⟨t,rfl⟩:=r
  cases (show T = "int" from ty)
  exact ⟨typeIs_int s i t,fun _ e=>nomatch e⟩
 | ref p =>
  cases r
  rcases ty with ⟨rfl,xs,hq⟩ | ⟨rfl,o,hk,hc,hd⟩ | ⟨rfl,hk⟩ | ⟨rfl,S,n,hk⟩
  ·obtain ⟨its,_,pl,_⟩:=I.list hq
   refine ⟨pl.isList.typeIs,fun a e=>?_⟩
   cases e
   obtain ⟨o,n,e,c,hd,_⟩:=pl
   exact ⟨o,e,hd⟩
  ·refine ⟨⟨o,I.kIn p o hk,hc⟩,fun a e=>?_⟩
   cases e
   exact ⟨o,I.kIn _ o hk,hd⟩
  ·have z:∃ o,s.heap.get? p=some o /\ o.ExactDict:=by
    rcases hk with ⟨kvs,hk⟩ | ⟨kvs,hk⟩
    ·obtain ⟨_,_,_,_,o,_,_,e,ex,_⟩:=I.hok p _ hk
     exact ⟨o,e,ex⟩
    ·obtain ⟨_,_,_,_,o,_,_,e,ex,_⟩:=I.hok p _ hk
     exact ⟨o,e,ex⟩
   obtain ⟨o,e,ex⟩:=z
   refine ⟨⟨o,e,ex.1⟩,fun a e2=>?_⟩
   cases e2
   exact ⟨o,e,ex.2.1⟩
  ·obtain ⟨o,_,_,_,e,ex,_⟩:=I.hok p _ hk
   refine ⟨⟨o,e,ex.1⟩,fun a e2=>?_⟩
   cases e2
   exact ⟨o,e,ex.2.1⟩
 | _=>exact False.elim ty
noncomputable def tBM0 (K:W.Frag) (T:String) (r:V->List V->Hp->VK->Prop) (to:TE):TE:=fun σ H Q=>to σ H fun x H1=>tyV K T x H1 /\ r x [] H1 Q
noncomputable def tBM (K:W.Frag) (T:String) (r:V->List V->Hp->VK->Prop) (to:TE) (t:TA):TE:=fun σ H Q=>to σ H fun x H1=>tyV K T x H1 /\ t σ H1 fun xs H2=>r x xs H2 Q
variable {o e:Expr} {es:List Expr} {to:TE} {t:TA} {name:Str} {apos cpos:Pos} {T id:String} {r:V->List V->Hp->VK->Prop}
theorem b6 (pa:PlainAttrs T) (slot:Slot T name id) (hty:typeOf (.builtin id)=pure (.type "method_descriptor")) (hm:MtR X id r) (ho:PE X o to)
  (hbase:attributeBase o name X.env (eval o X.env)=eval o X.env:=by rfl) (hline:(apos.endLine == cpos.line)=true:=by rfl):PE X (.Call (.Attribute o name apos) [] [] cpos) (tBM0 X.K T r to):=by
 intro pn s σ H Q I h
 refine wpAny_Call_method0_late hbase hline (thn (ho pn s σ H _ I h) fun v s1 ⟨x,H1,I1,r1,ty,q1⟩=>?_)
 obtain ⟨h1,h2⟩:=Qw I1 r1 ty
 exact ⟨T,id,pa,slot,hty,h1,h2,Calls.callWith_builtin rfl (PySem.evalArgs_none (hm pn s1 σ H1 x [] v [] Q I1 r1 .nil q1))⟩
theorem Ri (pa:PlainAttrs T) (slot:Slot T name id) (hty:typeOf (.builtin id)=pure (.type "method_descriptor")) (hm:MtR X id r) (ho:PE X o to) (ha:PA X (e :: es) t)
  (hbase:attributeBase o name X.env (eval o X.env)=eval o X.env:=by rfl)
  (hfew:((backTo cpos (starEach (e :: es) X.env)).all (fun x=>!x.1) && (backToKw cpos (keywordEach [] X.env)).all (fun x=>x.1.isSome)
   && decide ((e :: es).length + ([]:List Keyword).length + (if ([]:List Keyword).isEmpty then 0 else 1) < 30))=true:=by rfl)
  (hline:(apos.endLine == cpos.line)=true:=by rfl) (hs:starEach (e :: es) X.env=(false,eval e X.env) :: starEach es X.env:=by rfl) (hplain:(backTo cpos (starEach es X.env)).any (·.1)=false:=by rfl) :
  PE X (.Call (.Attribute o name apos) (e :: es) [] cpos) (tBM X.K T r to t):=by
 intro pn s σ H Q I h
 refine wpAny_Call_method_late hbase hfew hline rfl (thn (ho pn s σ H _ I h) fun v s1 ⟨x,H1,I1,r1,ty,q1⟩=>?_)
 obtain ⟨h1,h2⟩:=Qw I1 r1 ty
 refine ⟨T,id,pa,slot,hty,h1,h2,?_⟩
 have hA:=ha cpos pn s1 σ H1 _ I1 q1
 rw [hs] at hA ⊢
 refine Calls.callWith_builtin (by show (false || (backTo cpos (starEach es X.env)).any (·.1))=false; rw [hplain] <;> rfl) (Calls.evalArgs_plain ?_)
 exact thn hA fun us s2 ⟨vs,H2,I2,r2,q2⟩=>hm pn s2 σ H2 x vs v us Q I2 r1 r2 q2
end
noncomputable def MtM (X:Cx) (id:String) (r:V->List V->Hp->VK->Prop):Prop :=
 ∀ (pn:List (Addr × Obj)) (s:Shared) (σ:St) (H:Hp) (x:V) (xs:List V) (v:Value) (us:List Value) (Q:VK),Inv X pn σ H s->RelV x v->Vals xs us->r x xs H Q ->
  wpAny (model X.prog X.w) X.A (call (.builtin id) (v :: us)) (EP X pn σ Q) X.xe s
theorem Vals.one:∀ {x:V} {us:List Value},Vals [x] us->∃ u,us=[u] /\ RelV x u
 | _,_,.cons r .nil=>⟨_,rfl,r⟩
theorem Vals.zero:∀ {us:List Value},Vals [] us->us=[]
 | _,.nil=>rfl
theorem Vals.dropLast {xs:List V} {us:List Value} (h:Vals xs us):Vals xs.dropLast us.dropLast:=by
 induction h with
 | nil=>exact .nil
 | cons r t ih =>
  cases t with
  | nil=>exact .nil
  | cons q t'=>exact .cons r ih
theorem Vals.rep {xs:List V} {us:List Value} (h:Vals xs us):∀ k:Nat,Vals (List.replicate k xs).flatten (List.replicate k us).flatten
 | 0=>.nil
 | k + 1=>by
  rw [List.replicate_succ,List.replicate_succ,List.flatten_cons,List.flatten_cons]
  exact Vals.append h (Vals.rep h k)
theorem Wx {α:Type} (l:List α):l.eraseIdx (l.length - 1)=l.dropLast:=by
 induction l with
 | nil=>rfl
 | cons a r ih =>
  cases r with
  | nil=>rfl
  | cons b r =>
   have e:(a :: b :: r).length - 1=((b :: r).length - 1) + 1:=by
    have h1:(a :: b :: r).length=r.length + 2:=rfl
    have h2:(b :: r).length=r.length + 1:=rfl
    omega
   rw [e,List.eraseIdx_cons_succ,ih]
   all_goals rfl
theorem Z6 (its:List Value):∀ (k:Nat) (acc:List Value),
  List.foldl (fun x1 x2=>x1 ++ x2) acc.toArray (List.replicate k its.toArray)=(acc ++ (List.replicate k its).flatten).toArray
 | 0,acc=>by simp
 | k + 1,acc=>by
  have e:acc.toArray ++ its.toArray=(acc ++ its).toArray:=by simp
  have e2:(acc ++ its) ++ (List.replicate k its).flatten=acc ++ (List.replicate (k + 1) its).flatten:=by
   rw [List.replicate_succ,List.flatten_cons,List.append_assoc]
  rw [<- e2,<- Z6 its k (acc ++ its),<- e,List.replicate_succ,List.foldl_cons]
section
variable {X:Cx} {pn:List (Addr × Obj)} {σ:St} {H:Hp} {s:Shared} {l b:Addr} {xs ys zs:List V}
theorem Inv.lset {its its':List Value} {n:Nat} {f:Array Value->Array Value} {t':Nat} (I:Inv X pn σ H s) (hH:H l=some (.lst xs))
  (e:s.heap.get? l=some { cls:=.type "list", data:=.seq its.toArray n }) (hf:f its.toArray=its'.toArray) (hv:Vals ys its') (hz:ys.length <= sizeLine) :
  Inv X pn σ (upd H l (.lst ys)) { s with heap:=s.heap.update l (Obj.mapSeq f),toks:=t' }:=by
 have q:=PySem.IsL.update e f
 rw [hf] at q
 refine I.write (x:=l) (e:=l) (by rw [hH]; exact trivial) (.inl rfl) (fun b' u hb hu=>(Heap.get?_update_other s.heap (Obj.mapSeq f) (Ne.symm hb)).trans hu) ⟨_,q⟩ ?_
 exact ⟨hz,its',_,hv,q⟩
theorem Inv.lnew {its:List Value} {t':Nat} (I:Inv X pn σ H s) (hv:Vals ys its) (hz:ys.length <= sizeLine) :
  Inv X pn σ (upd H s.heap.objs.size (.lst ys)) { s with heap:=s.heap.push { cls:=.type "list", data:=.seq its.toArray },toks:=t' } :=
 I.laid (fun _ _ q=>Heap.get?_push_of_some _ q) (Nat.le_refl _) ⟨hz,its,0,hv,Heap.get?_push_size _ rfl⟩
theorem Inv.fresh (I:Inv X pn σ H s):H s.heap.objs.size=none:=I.hok.fresh (Nat.le_refl _)
theorem Inv.lstM (I:Inv X pn σ H s) (hH:H l=some (.lst xs)):xs.length <= sizeLine /\ ∃ (its:List Value) (n:Nat),Vals xs its /\ xs.length=its.length /\ s.heap.get? l=some { cls:=.type "list", data:=.seq its.toArray n }:=by
 obtain ⟨z,its,n,r,e⟩:=I.hok l _ hH
 exact ⟨z,its,n,r,r.length,e⟩
theorem Xk {n:Nat} (h:n <= sizeLine):Builtin.List.listTooLong n=false:=by
 unfold Builtin.List.listTooLong
 exact decide_eq_false (by omega)
end
section
variable {X:Cx}
noncomputable def Zy:V->List V->Hp->VK->Prop:=fun x vs H Q=>∃ l xs y,x=.ref l /\ vs=[y] /\ H l=some (.lst xs) /\ xs.length < sizeLine /\ Q .non (upd H l (.lst (xs ++ [y])))
theorem qi:MtM X "list.append" Zy:=by
 intro pn s σ H x vs v us Q I rx rv h
 obtain ⟨l,xs,y,rfl,rfl,hH,hz,q⟩:=h
 cases rx
 obtain ⟨u,rfl,ru⟩:=rv.one
 obtain ⟨z,its,n,r,hl,e⟩:=I.lstM hH
 refine call_meets F.slot_list_append ⟨_,e,rfl⟩ F.entry_list_append (F.args_list_append_2 _ _) (PySem.list_append l its.toArray n u (by rw [List.size_toArray]; omega)) ⟨e,?_⟩
 refine ⟨.non,_,I.lset (its':=its ++ [u]) hH e (by simp) (r.append (.cons ru .nil)) ?_,rfl,q⟩
 rw [zLa,List.length_singleton]
 omega
noncomputable def Vo:V->List V->Hp->VK->Prop:=fun x vs H Q=>∃ l b xs zs,x=.ref l /\ vs=[.ref b] /\ H l=some (.lst xs) /\ H b=some (.lst zs) /\ xs.length + zs.length <= sizeLine /\ Q .non (upd H l (.lst (xs ++ zs)))
theorem U7:MtM X "list.extend" Vo:=by
 intro pn s σ H x vs v us Q I rx rv h
 obtain ⟨l,b,xs,zs,rfl,rfl,hH,hB,hz,q⟩:=h
 cases rx
 obtain ⟨u,rfl,ru⟩:=rv.one
 cases ru
 obtain ⟨z,its,n,r,hl,e⟩:=I.lstM hH
 obtain ⟨z2,its2,n2,r2,hl2,e2⟩:=I.lstM hB
 have hsz:its.toArray.size + its2.toArray.size <= sizeLine:=by rw [List.size_toArray,List.size_toArray]; omega
 have hlong:¬ (!its.toArray.isEmpty && Builtin.List.listTooLong (its.toArray.size + its2.toArray.size))=true:=by
  rw [Xk hsz,Bool.and_false]
  exact Bool.false_ne_true
 refine call_meets F.slot_list_extend ⟨_,e,rfl⟩ F.entry_list_extend (F.args_list_extend_2 _ _)
  (AutoSeq1.list_extend_list_list_0 l its.toArray n b its2.toArray n2 hlong (by rw [List.size_toArray]; omega) (by omega)) ⟨e,e2,?_⟩
 refine ⟨.non,_,I.lset (its':=its ++ its2) hH e (by simp) (r.append r2) ?_,rfl,q⟩
 rw [zLa]
 omega
noncomputable def rPop:V->List V->Hp->VK->Prop:=fun x vs H Q=>∃ l xs y,x=.ref l /\ vs=[] /\ H l=some (.lst xs) /\ xs[xs.length - 1]?=some y /\ Q y (upd H l (.lst xs.dropLast))
theorem U6:MtM X "list.pop" rPop:=by
 intro pn s σ H x vs v us Q I rx rv h
 obtain ⟨l,xs,y,rfl,rfl,hH,hy,q⟩:=h
 cases rx
 have hus:=rv.zero
 subst hus
 obtain ⟨z,its,n,r,hl,e⟩:=I.lstM hH
 obtain ⟨u,hu,ru⟩:=r.get hy
 have hy':its.toArray[its.toArray.size - 1]?=some u:=by
  show its.toArray[its.length - 1]?=some u
  rw [<- Array.getElem?_toList,<- hl]
  exact hu
 refine call_meets F.slot_list_pop ⟨_,e,rfl⟩ F.entry_list_pop (F.args_list_pop_1 _) (MeetsSeq.list_pop_last l its.toArray n u hy' (by rw [List.size_toArray]; omega)) ⟨e,?_⟩
 refine ⟨y,_,I.lset (its':=its.dropLast) hH e ?_ r.dropLast ?_,ru,q⟩
 ·show its.toArray.eraseIdxIfInBounds (its.toArray.size - 1)=its.dropLast.toArray
  rw [List.size_toArray,List.eraseIdxIfInBounds_toArray,Wx]
 ·rw [List.length_dropLast]
  omega
noncomputable def Pa:V->List V->Hp->VK->Prop:=fun x vs H Q=>∃ l xs,x=.ref l /\ vs=[] /\ H l=some (.lst xs) /\ Q .non (upd H l (.lst []))
theorem Ro:MtM X "list.clear" Pa:=by
 intro pn s σ H x vs v us Q I rx rv h
 obtain ⟨l,xs,rfl,rfl,hH,q⟩:=h
 cases rx
 have hus:=rv.zero
 subst hus
 obtain ⟨z,its,n,r,hl,e⟩:=I.lstM hH
 refine call_meets F.slot_list_clear ⟨_,e,rfl⟩ F.entry_list_clear (F.args_list_clear_1 _) (AutoSeq1.list_clear_list_0 l its.toArray n (by rw [List.size_toArray]; omega)) ⟨e,?_⟩
 exact ⟨.non,_,I.lset (its':=[]) (ys:=[]) hH e rfl .nil (Nat.zero_le _),rfl,q⟩
noncomputable def rCat:R2:=fun x y H Q=>∃ l b xs zs,x=.ref l /\ y=.ref b /\ H l=some (.lst xs) /\ H b=some (.lst zs) /\ xs.length + zs.length <= sizeLine /\ ∀ p,H p=none->Q (.ref p) (upd H p (.lst (xs ++ zs)))
theorem Kt:OpR X (binaryOp .Add) rCat:=by
 intro pn s σ H x y v u Q I rx ry h
 obtain ⟨l,b,xs,zs,rfl,rfl,hH,hB,hz,q⟩:=h
 cases rx
 cases ry
 obtain ⟨z,its,n,r,hl,e⟩:=I.lstM hH
 obtain ⟨z2,its2,n2,r2,hl2,e2⟩:=I.lstM hB
 refine PySem.P.add_list e e2 ?_ (by rw [List.size_toArray,List.size_toArray]; omega)
 have ea:its.toArray ++ its2.toArray=(its ++ its2).toArray:=by simp
 rw [ea]
 exact ⟨.ref _,_,I.lnew (t':=s.toks) (r.append r2) (by rw [zLa]; omega),rfl,q _ I.fresh⟩
noncomputable def rRep:R2:=fun x y H Q=>∃ l k xs,x=.ref l /\ y=.int k /\ H l=some (.lst xs) /\ -(2 ^ 63) <= k /\ k < 2 ^ 63 /\ xs.length * k.toNat <= sizeLine /\
 ∀ p,H p=none->Q (.ref p) (upd H p (.lst (List.replicate k.toNat xs).flatten))
theorem Nh {α:Type} (xs:List α) (k:Nat):(List.replicate k xs).flatten.length=k * xs.length:=by
 induction k with
 | zero=>simp
 | succ k ih=>rw [List.replicate_succ,List.flatten_cons,zLa,ih,Nat.succ_mul,Nat.add_comm]
theorem Km:OpR X (binaryOp .Mult) rRep:=by
 intro pn s σ H x y v u Q I rx ry h
 obtain ⟨l,k,xs,rfl,rfl,hH,h1,h2,hz,q⟩:=h
 cases rx
 obtain ⟨t,rfl⟩:=ry
 obtain ⟨z,its,n,r,hl,e⟩:=I.lstM hH
 have hlen:its.toArray.size * k.toNat <= sizeLine:=by rw [List.size_toArray,<- hl]; exact hz
 have hcap:¬ its.toArray.size * k.toNat > (2 ^ 63 - 1) / 8:=by
  have:(sizeLine:Nat) <= (2 ^ 63 - 1) / 8:=by decide
  omega
 have hfit:¬ (!Builtin.List.listFitsIndex k)=true:=by
  rw [fitsIndex_both h1 h2]
  exact Bool.false_ne_true
 have hlong:¬ Builtin.List.listTooLong (its.toArray.size * k.toNat)=true:=by
  rw [Xk hlen]
  exact Bool.false_ne_true
 have hnew:List.foldl (fun x1 x2=>x1 ++ x2) #[] (List.replicate (if its.toArray.isEmpty=true then 0 else k.toNat) its.toArray)=(List.replicate k.toNat its).flatten.toArray:=by
  have f0:∀ m:Nat,List.foldl (fun x1 x2=>x1 ++ x2) #[] (List.replicate m its.toArray)=(List.replicate m its).flatten.toArray:=fun m=>by
   have:=Z6 its m []
   rw [List.nil_append] at this
   exact this
  rw [f0]
  cases its with
  | nil=>simp
  | cons a r'=>rw [if_neg (by simp)]
 refine wpAny_binaryOp_repeat_ref (T:="list") (U:="int") (by decide) ⟨_,e,rfl⟩ (fun s'=>typeIs_int s' k t) noFill_list_mul F.fills_int_mul F.slot_int_rmul repeat_list F.slot_int_index.lookup
  (call_meets F.slot_int_rmul (typeIs_int s k t) F.entry_int_rmul (F.args_int_rmul_2 _ _) (int___rmul___int_list k t l its.toArray n)
   ⟨e,rfl,⟨_,e,rfl⟩,call_meets F.slot_list_mul ⟨_,e,rfl⟩ F.entry_list_mul (F.args_list_mul_2 _ _) (AutoListH.list___mul___list_int_3 l its.toArray n k t hfit hcap hlong) ⟨e,?_⟩⟩)
 rw [hnew]
 exact ⟨.ref _,_,I.lnew (t':=s.toks) (r.rep k.toNat) (by rw [Nh,Nat.mul_comm]; exact hz),rfl,q _ I.fresh⟩
end
end L2
namespace Att
open PySem PySem.W PySem.Calls PyProof.Rows
theorem qt {P:Params} {h:Heap}:∀ (ns:List Int) (vs:List Value),WellAll P h vs (ns.map WData.int)->IntsAre vs ns:=by
 intro ns
 induction ns with
 | nil =>
  intro vs w
  rw [List.map_nil] at w
  cases w
  exact .nil
 | cons n ns ih =>
  intro vs w
  rw [List.map_cons] at w
  cases w with
  | cons a b =>
   cases a
   exact .cons _ _ (ih _ b)
theorem Vi {l:OpenLaw} {n:Nat} (hn:l.most=some n) {P:Params} {h:Heap} {args:List WData} {vals:List Value}
  (hpre:l.row.toRowW.claim.pre args=true) (hwl:WellAll P h vals args) :
  ∃ a vs ns,vals=[Value.ref a] /\ args=[WData.list (ns.map WData.int)] /\ h.get? a=some { cls:=.type "list", data:=.seq vs.toArray } /\ IntsAre vs ns /\ ns.length <= n:=by
 have hsh:WShape.hasAll [] args [.list .int]=true:=(pre_splitW hpre).1
 have hc:l.pre.holds [] { args:=args }=true:=(pre_splitW hpre).2
 obtain ⟨d,r,rfl,h1,h2⟩:=hasAllW_cons hsh
 obtain rfl:=hasAllW_nil h2
 obtain ⟨xs,rfl,h3⟩:=hasW_list h1
 obtain ⟨ns,rfl⟩:=items_int h3
 have hlen:ns.length <= n:=by
  unfold OpenLaw.pre at hc
  have h4:(WTm.not (.lt (.lit (.int (n:Int))) (.len (.arg 0)))).holds [] { args:=[.list (ns.map .int)] }=true:=by
   have h4:=(holds_andW hc).1
   rw [hn] at h4
   exact h4
  have h5:=condW_of h4 (w_not (w_lt w_lit (w_len_list (w_arg rfl))))
  rw [zLm] at h5
  refine Nat.le_of_not_lt fun q=>?_
  have q':(n:Int) < ((ns.length:Nat):Int):=by omega
  first
   | (rw [decide_eq_true q'] at h5; exact absurd h5 (by decide))
   | (simp at h5; omega)
 cases hwl with
 | cons w1 w2 =>
  cases w2
  cases w1 with
  | list ho hall=>exact ⟨_,_,ns,rfl,rfl,ho,qt ns _ hall,hlen⟩
theorem Vr (l:OpenLaw) (args:List WData):l.row.toRowW.claim.post args (.bool true) args=true :=
 postW_of (r:=l.row.toRowW) (X:=(true == true))
  (show WShape.has [] (.bool true) .bool=true by first | rfl | decide | simp [WShape.has,WShape.arms,WShape.armsAll])
  (show (WTm.eq .res (.lit (.bool true))).value [] { args:=args,res:=some (.bool true),after:=args }=some (.bool (true == true)) from w_eq_bool (w_res rfl) w_lit) rfl
theorem attach_call {l:OpenLaw} {n:Nat} {q:Program} {loose:List Str} {XP:(Str->Option Value)->Heap->Prop} {YP:World->Heap->Prop} {d:DefRec}
  (hn:l.most=some n) (hdf:d.params.defaults=[])
  (call:∀ (w:World) (s₀ s₁:Shared) (mg mb:Str->Option Value) (fa:Addr) (o:Obj) (pm cd doc:Value) (a:Addr) (vs:List Value) (ns:List Int),
   Ground q loose [] XP w s₀ mg mb s₁.heap->YP w s₁.heap ->
   s₁.heap.get? fa=some o->o.data=.func (docDef d.name d.params d.body d.scope pm cd doc)->s₁.heap.CodeRec cd d.name->mg d.name=some (.ref fa) ->
   s₁.heap.get? a=some { cls:=.type "list", data:=.seq vs.toArray }->IntsAre vs ns->ns.length <= n->s₁.gens=#[] ->
   codeAny (model l.prog w) callerA (.call (.ref fa) ⟨[.ref a],[]⟩) (fun r s'=>r=.ok (.ret (.bool true)) /\ OldK s₁.heap s'.heap /\ s'.os=s₁.os /\ AllBare s'.gens) s₁) :
  WalkO q loose XP YP l.row.toRowW d [] (fun f vs=>PySem.call f vs):=by
 intro w s₀ s₁ mg mb G Y fa o pm cd doc dV kV ho hd hcd hD hmg hg args vals as hpre hlay hrd hwl hlo
 obtain rfl:dV=.none:=Dflts.none hD hdf
 obtain rfl:kV=.none:=Dflts.noKw hD
 obtain ⟨a,vs,ns,rfl,rfl,hobj,hints,hlen⟩:=Vi hn hpre hwl
 refine enter_call (codeAny_mono (call w s₀ s₁ mg mb fa o pm cd doc a vs ns G Y ho (fd_plain hd) hcd hmg hobj hints hlen hg) fun r s' hq=>?_)
 obtain ⟨rfl,h2,h3,h4⟩:=hq
 exact ⟨.inl ⟨.bool true,.bool true,[],rfl,fun _=>rfl,.bool true,Vr l _,fun _=>⟨List.Pairwise.nil,fun _ hm=>(nomatch hm)⟩⟩,h2,h3,h4⟩
end Att
namespace L2
open PySem PySem.Spec PyProof.Rows
theorem cg:∀ {vs:List Value} {ns:List Int},IntsAre vs ns->Vals (ns.map V.int) vs
 | _,_,.nil=>.nil
 | _,_,.cons n t h=>.cons ⟨t,rfl⟩ (cg h)
noncomputable def Only (H:Hp):Prop:=∀ b,H b=none \/ ∃ o xs,H b=some (.frz o (.lst xs))
theorem Rz {P:Program} {w:World} {K:W.Frag} {mg mb:Str->Option Value} {CX:CXT} {k:Nat} {fa a:Addr} {fd:FuncData} {x:Str} {sp:Sp} {s₁:Shared} {vs:List Value} {ns:List Int}
  (KX:K.In s₁.heap) (hns:s₁.heap.Ns mainGlobals mg) (hb:s₁.heap.Ns builtinsNs mb) (hbb:∀ x:Str,x ≠ "__name__"->mb x=bootBuiltins x) (hlim:s₁.heap.NoLimit) (hg:s₁.gens=#[])
  (ha:s₁.heap.get? a=some { cls:=.type "list", data:=.seq vs.toArray }) (hi:IntsAre vs ns) (hl:ns.length <= sizeLine) (hr:Room k callerA)
  (F:∀ base:Heap,K.In base->base.Ns mainGlobals mg->FnOk P w K mg base CX k fa fd [x] sp) (hbind:∀ (s:Shared) (u:Value),BindsTo s fd ⟨[u],[]⟩ [(x,u)])
  (hsp:∀ H:Hp,Only H->SqL K H a (ns.map V.int)->sp [.ref a] H (fun v _=>v=.bl true) fun _ _ _=>False)
  (hCX:∀ H e s',CX [] H s₁ (fun _ _ _=>False) e s'->False) :
  codeAny (model P w) callerA (.call (.ref fa) ⟨[.ref a],[]⟩) (fun r s'=>r=.ok (.ret (.bool true)) /\ OldK s₁.heap s'.heap /\ s'.os=s₁.os /\ AllBare s'.gens) s₁:=by
 have rv:=cg hi
 have lenV:=hi.length
 have core:∀ H:Hp,Only H->SqL K H a (ns.map V.int)->HOk P w H s₁.heap->(∀ b,H b ≠ none->b=a)->(H a ≠ none->K.lookup a=none) ->
   codeAny (model P w) callerA (.call (.ref fa) ⟨[.ref a],[]⟩) (fun r s'=>r=.ok (.ret (.bool true)) /\ OldK s₁.heap s'.heap /\ s'.os=s₁.os /\ AllBare s'.gens) s₁:=by
  intro H hO hS hok hA hK
  have base_of:∀ {b:Addr} {o:Obj},s₁.heap.get? b=some o->H b=none->(hidT s₁.heap H).get? b=some o:=fun e n=>Q6 e n
  have noA:∀ {b:Addr} {o:Obj} {es:Array DictEntry} {ep:Nat},s₁.heap.get? b=some o->o.data=.dict es ep->H b=none:=fun {b o es ep} e d=>by
   cases q:H b with
   | none=>rfl
   | some u =>
    have e':b=a:=hA b (by rw [q]; simp)
    subst e'
    rw [ha] at e; cases e
    have d':Data.seq vs.toArray _=Data.dict es ep:=d
    cases d'
  have nsK:∀ {b:Addr} {m:Str->Option Value},s₁.heap.Ns b m->(hidT s₁.heap H).Ns b m:=fun {b m} ⟨o,es,ep,e,d,r⟩=>⟨o,es,ep,base_of e (noA e d),d,r⟩
  have hKb:K.In (hidT s₁.heap H):=fun b o e=>base_of (KX b o e) (by
   cases q:H b with
   | none=>rfl
   | some u =>
    have e':b=a:=hA b (by rw [q]; simp)
    subst e'
    rw [hK (by rw [q]; simp)] at e; cases e)
  have hM:Mod K mg (hidT s₁.heap H):=⟨hKb,nsK hns,⟨mb,nsK hb,hbb⟩,let ⟨mc,h1,h2⟩:=hlim; ⟨mc,nsK h1,h2⟩⟩
  have e0:Env0 P w K mg (hidT s₁.heap H) callerA [] s₁ H:=⟨rfl,hM,fun b o e=>N6 e,Nat.le_of_eq (Uv _ _),trivial,fun b hb=>absurd (show b ∈ ([]:List Addr) from hb) (by simp),hok,.of_eq hg⟩
  refine codeAny_mono ((F _ hKb (nsK hns)).run callerA [] s₁ H ⟨[.ref a],[]⟩ [.ref a] [.ref a] _ _ hr e0 (hbind s₁ (.ref a)) (.cons rfl .nil) (hsp H hO hS)) fun r s' h=>?_
  cases r with
  | error e=>exact (hCX H e s' h).elim
  | ok fl =>
   cases fl with
   | next=>exact False.elim h
   | brk=>exact False.elim h
   | cont=>exact False.elim h
   | ret u =>
    obtain ⟨v,H',os,bare,un,hok',r',q⟩:=h
    have q':v=.bl true:=q
    subst q'
    obtain rfl:u=Value.bool true:=r'
    refine ⟨rfl,OldK.of_keep fun b o e=>?_,os,bare⟩
    cases q:H b with
    | none=>exact un.keep b o e q (by intro z; exact absurd (show b ∈ ([]:List Addr) from z) (by simp)) (by simp)
    | some u =>
     rcases hO b with z | ⟨ob,xs,z⟩
     ·rw [q] at z; cases z
     ·have z2:=un.frzs b ob _ z
      obtain ⟨e1,_⟩:=hok b _ z
      obtain ⟨e2,_⟩:=hok' b _ z2
      rw [e] at e1; cases e1
      exact e2
 cases hk:K.lookup a with
 | some o =>
  have e:=KX a o hk
  rw [ha] at e
  cases e
  refine core (fun _=>none) (fun _=>.inl rfl) (.inr ⟨_,vs.toArray,_,hk,rfl,rfl,rfl,by rw [List.size_toArray,lenV]; exact hl,by simpa using rv⟩) (fun b u z=>by have z':(none:Option HO)=some u:=z; cases z') (fun b z=>absurd rfl z) fun z=>absurd rfl z
 | none =>
  refine core (fun b=>if b=a then some (.frz { cls:=.type "list", data:=.seq vs.toArray } (.lst (ns.map V.int))) else none) (fun b=>?_) (.inl (.inr ⟨{ cls:=.type "list", data:=.seq vs.toArray },if_pos rfl⟩)) (fun b u z=>?_) (fun b z=>?_) fun _=>hk
  ·by_cases hb:b=a
   ·exact .inr ⟨_,_,if_pos hb⟩
   ·exact .inl (if_neg hb)
  ·by_cases hb:b=a
   ·have z':=(if_pos hb).symm.trans z
    cases z'
    subst hb
    exact ⟨ha,by rw [zLm]; exact hl,vs,_,rv,ha⟩
   ·have z':=(if_neg hb).symm.trans z
    cases z'
  ·by_cases hb:b=a
   ·exact hb
   ·exact absurd (if_neg hb) z
noncomputable abbrev KOf {K:W.Frag} {h:Heap} (_:K.In h):W.Frag:=K
theorem walk_of {l:W.OpenLaw} {n k:Nat} {q:Program} {loose:List Str} {XP:(Str->Option Value)->Heap->Prop} {YP:World->Heap->Prop} {d:DefRec} {K:Params->W.Frag} {CX:World->CXT} {sp:World->Sp} {x:Str}
  (hn:l.most=some n) (hn2:n <= sizeLine) (hdf:d.params.defaults=[]) (hr:Room k callerA)
  (hY:∀ (w:World) (h:Heap),YP w h->(K w.params).In h)
  (F:∀ (w:World) (mg:Str->Option Value) (fa:Addr) (h:Heap),(K w.params).In h->h.Ns mainGlobals mg->mg d.name=some (.ref fa) ->
   ∃ fd:FuncData,(∀ (s:Shared) (u:Value),BindsTo s fd ⟨[u],[]⟩ [(x,u)]) /\
    ∀ base:Heap,(K w.params).In base->base.Ns mainGlobals mg->FnOk l.prog w (K w.params) mg base (CX w) k fa fd [x] (sp w))
  (hsp:∀ (w:World) (H:Hp) (a:Addr) (ns:List Int),ns.length <= n->Only H->SqL (K w.params) H a (ns.map V.int)->sp w [.ref a] H (fun v _=>v=.bl true) fun _ _ _=>False)
  (hCX:∀ (w:World) (H:Hp) (s:Shared) (e:Value) (s':Shared),CX w [] H s (fun _ _ _=>False) e s'->False) :
  W.WalkO q loose XP YP l.row.toRowW d [] (fun f vs=>PySem.call f vs):=by
 refine Att.attach_call hn hdf fun w s₀ s₁ mg mb fa o pm cd doc a vs ns G Y ho hd hcd hmg hobj hints hlen hg=>?_
 have KX:=hY w _ Y
 obtain ⟨fd,hb,hF⟩:=F w mg fa _ KX G.T.g hmg
 exact Rz KX G.T.g G.T.b G.T.builtins G.T.nolimit hg hobj hints (Nat.le_trans hlen hn2) hr hF hb (fun H hO hS=>hsp w H a ns hlen hO hS) fun H e s'=>hCX w H s₁ e s'
end L2
namespace L2
open PySem PySem.Spec PyProof.Rows
noncomputable abbrev CX0:CXT:=fun _ _ _ _ _ _=>False
noncomputable abbrev E0:XK:=fun _ _ _=>False
theorem gj {X:Cx}:ki CX0 X E0:=fun _ _ _ _ _ _ _ h=>h.elim
structure Fun (K:W.Frag) (x qual:Str) (st:Stmt) (f:Addr) (fd:FuncData):Prop where
 ex:∃ (oc:Value) (od:Option Addr) (kV doc pm:Value) (an:Option Addr) (qZ ct:Value) (osl:Array (Option Value)),
  fd=W.fnOf x qual (wa st) (y0 st) (zb st) .none kV doc pm an qZ ct /\ K.lookup f=some ⟨oc,od,.func fd,osl⟩ /\ W.codeIn K qZ qual=true
 kp:W.keepIn K (.ref f)=true
section
variable {P:Program} {w:World} {K:W.Frag} {mg:Str->Option Value} {base:Heap}
theorem Fun.ok {x qual:Str} {st:Stmt} {f:Addr} {fd:FuncData} {N ps:List Str} {k:Nat} {sp:Sp} (F:Fun K x qual st f fd) (S:zn N ps (zb st)) (len:∀ vs H Q E,sp vs H Q E->vs.length=ps.length)
  (qY:∀ (qZ:Value) (A:Around) (outer:List Env) (s:Shared) (H:Hp) (vs:List V) (Q:VK) (E:XK),Room k (A.deeper (envOfC qual (zb st) s.heap.objs.size f qZ))->sp vs H Q E ->
   ∃ t,PSs (cxOf CX0 P w K mg base N qual (zb st) f qZ A outer s H E).nox (y0 st) t /\ t { nx:=fun _ H'=>Q .non H',rt:=Q } (start N vs) H):FnOk P w K mg base CX0 (k + 1) f fd ps sp:=by
 obtain ⟨oc,od,kV,doc,pm,an,qZ,ct,osl,rfl,lk,hcd⟩:=F.ex
 refine Qa lk hcd S len fun A outer s H vs Q E hr hsp=>?_
 obtain ⟨t,h,q⟩:=qY qZ A outer s H vs Q E hr hsp
 exact ⟨t,h.nox,q⟩
theorem Fun.binds {x qual:Str} {st:Stmt} {f:Addr} {fd:FuncData} {ps:List Str} (F:Fun K x qual st f fd)
  (h:∀ (kV doc pm:Value) (an:Option Addr) (qZ ct:Value) (us:List Value),us.length=ps.length->bindArgs (W.fnOf x qual (wa st) (y0 st) (zb st) .none kV doc pm an qZ ct) ⟨us,[]⟩=pure (ps.zip us)):xw K fd ps []:=by
 obtain ⟨oc,od,kV,doc,pm,an,qZ,ct,osl,rfl,lk,hcd⟩:=F.ex
 exact .all (h kV doc pm an qZ ct)
theorem Pk {x qual:Str} {st:Stmt} {f:Addr} {oc:Value} {od an:Option Addr} {osl:Array (Option Value)} {kV doc pm qZ ct:Value} (l:K.lookup f=some ⟨oc,od,.func (W.fnOf x qual (wa st) (y0 st) (zb st) .none kV doc pm an qZ ct),osl⟩)
  (c:W.codeIn K qZ qual=true) (k:W.keepIn K (.ref f)=true):Fun K x qual st f (W.fnOf x qual (wa st) (y0 st) (zb st) .none kV doc pm an qZ ct):=⟨⟨oc,od,kV,doc,pm,an,qZ,ct,osl,rfl,l,c⟩,k⟩
end
theorem iteF {A B:Prop} (h:B):if false=true then A else B:=by
 rw [if_neg Bool.false_ne_true]
 exact h
theorem iteT {A B:Prop} (h:A):if true=true then A else B:=by
 rw [if_pos rfl]
 exact h
noncomputable def Same (H H':Hp):Prop:=∀ b o,H b=some o->H' b=some o
theorem Same.refl (H:Hp):Same H H:=fun _ _ h=>h
theorem Same.trans {H H1 H2:Hp} (a:Same H H1) (b:Same H1 H2):Same H H2:=fun c o h=>b c o (a c o h)
theorem Same.free {H H':Hp} (e:Same H H') {l:Addr} (h:H' l=Option.none):H l=Option.none:=by
 cases q:H l with
 | none=>rfl
 | some o =>
  rw [e l o q] at h
  cases h
end L2
namespace L3
open PySem PySem.Spec L2
open PyProof.Rows hiding St
theorem T6 {α β:Type} {f:α->β->Sem (ForInStep β)} (R:List α->β->Prop) (h:∀ x l c,R (x :: l) c->∃ c',f x c=pure (.yield c') /\ R l c') :
  ∀ (l:List α) (c:β),R l c->∃ c',forIn l c f=pure c' /\ R [] c'
 | [],c,r=>⟨c,rfl,r⟩
 | x :: l,c,r=>by
  obtain ⟨c1,e,r1⟩:=h x l c r
  obtain ⟨c2,e2,r2⟩:=T6 R h l c1 r1
  exact ⟨c2,by rw [List.forIn_cons,e,pure_bind]; exact e2,r2⟩
theorem Yu {env:Env} {x:Str} {c:Addr} (h:env.cells.lookup x=some c):cellOf env x=pure c:=by
 unfold cellOf
 rw [h]
theorem jm {scope:Scope} {env:Env} (h:∀ y ∈ scope.names,y.2=.free->∃ c,env.cells.lookup y.1=some c) :
  ∃ cl,closureFor scope env=pure cl /\ (∀ x c,cl.lookup x=some c->env.cells.lookup x=some c) /\ ∀ y ∈ scope.names,y.2=.free->∃ c,cl.lookup y.1=some c:=by
 let f:Str × NameKind->List (Str × Addr)->Sem (ForInStep (List (Str × Addr))):=fun x r=>match x with
  | (name,kind)=>if (kind == .free)=true then (do let a <- cellOf env name; pure (.yield ((name,a) :: r))) else pure (.yield r)
 have q:=T6 (f:=f) (fun rem cs=>(∀ x c,cs.lookup x=some c->env.cells.lookup x=some c) /\ (∀ y ∈ scope.names,y.2=.free->(∃ c,cs.lookup y.1=some c) \/ y ∈ rem) /\ ∀ y ∈ rem,y ∈ scope.names) ?_ scope.names []
  ⟨fun x c e=>(by cases e),fun y hy _=>.inr hy,fun _ hy=>hy⟩
 ·obtain ⟨cl,e,p1,p2,_⟩:=q
  refine ⟨cl,?_,p1,fun y hy hf=>(p2 y hy hf).elim (fun z=>z) fun z=>(by cases z)⟩
  have e1:closureFor scope env=(forIn scope.names [] f >>= fun r=>pure r):=rfl
  rw [e1,e,pure_bind]
 ·rintro ⟨n,k⟩ l cs ⟨p1,p2,p3⟩
  have hm:=p3 _ (List.mem_cons_self ..)
  by_cases hk:k=.free
  ·subst hk
   obtain ⟨c,hc⟩:=h _ hm rfl
   refine ⟨(n,c) :: cs,?_,fun x c' e=>?_,fun y hy hf=>?_,fun y hy=>p3 y (List.mem_cons_of_mem _ hy)⟩
   ·show (if ((NameKind.free == NameKind.free)=true) then _ else _)=_
    rw [if_pos (by decide),Yu hc,pure_bind]
   ·rw [List.lookup_cons] at e
    cases hx:x == n with
    | true =>
     rw [hx] at e
     have ex:x=n:=eq_of_beq hx
     subst ex
     cases e
     exact hc
    | false =>
     rw [hx] at e
     exact p1 x c' e
   ·rcases p2 y hy hf with ⟨c',e⟩ | z
    ·refine .inl ?_
     rw [List.lookup_cons]
     cases hx:y.1 == n with
     | true=>exact ⟨c,rfl⟩
     | false=>exact ⟨c',e⟩
    ·rcases List.mem_cons.mp z with rfl | z
     ·exact .inl ⟨c,by rw [List.lookup_cons]; simp⟩
     ·exact .inr z
  ·refine ⟨cs,?_,p1,fun y hy hf=>?_,fun y hy=>p3 y (List.mem_cons_of_mem _ hy)⟩
   ·show (if ((k == NameKind.free)=true) then _ else _)=_
    rw [if_neg (by simpa using hk)]
   ·rcases p2 y hy hf with z | z
    ·exact .inl z
    ·rcases List.mem_cons.mp z with rfl | z
     ·exact absurd hf hk
     ·exact .inr z
theorem wl {env:Env}:∀ {names:List (Str × NameKind)} {x:Str},names.lookup x=some .free ->
  (names.map fun (n,k)=>if (k == NameKind.free && env.scope.kind == .function && env.kindOf n == some .cell) then (n,NameKind.cell) else (n,k)).lookup x=some .cell \/
  (names.map fun (n,k)=>if (k == NameKind.free && env.scope.kind == .function && env.kindOf n == some .cell) then (n,NameKind.cell) else (n,k)).lookup x=some .free
 | [],_,h=>by cases h
 | (n,k) :: r,x,h=>by
  have ih:=@wl env r x
  rw [List.map_cons]
  cases hx:x == n with
  | true =>
   rw [List.lookup_cons,hx] at h
   cases h
   by_cases hc:(NameKind.free == NameKind.free && env.scope.kind == .function && env.kindOf n == some .cell)=true
   ·refine .inl ?_
    show List.lookup x ((if (NameKind.free == NameKind.free && env.scope.kind == .function && env.kindOf n == some .cell)=true then (n,NameKind.cell) else (n,NameKind.free)) :: _)=_
    rw [if_pos hc,List.lookup_cons,hx]
   ·refine .inr ?_
    show List.lookup x ((if (NameKind.free == NameKind.free && env.scope.kind == .function && env.kindOf n == some .cell)=true then (n,NameKind.cell) else (n,NameKind.free)) :: _)=_
    rw [if_neg hc,List.lookup_cons,hx]
  | false =>
   rw [List.lookup_cons,hx] at h
   have e:∀ (b:Bool) (l:List (Str × NameKind)),List.lookup x ((if b=true then (n,NameKind.cell) else (n,k)) :: l)=l.lookup x:=fun b l=>by
    cases b with
    | true=>rw [if_pos rfl,List.lookup_cons,hx]
    | false=>rw [if_neg Bool.false_ne_true,List.lookup_cons,hx]
   rcases ih h with q | q
   ·exact .inl ((e _ _).trans q)
   ·exact .inr ((e _ _).trans q)
theorem tx {scope:Scope} {env:Env} (hnc:∀ y ∈ scope.names,y.2 ≠ .cell) {x:Str} {k:NameKind} (h:(relabel scope env).names.lookup x=some k) (hk:k=.cell \/ k=.free) :
  ∃ y ∈ scope.names,y.1=x /\ y.2=.free:=by
 have hm:=PySem.mem_of_lookup h
 obtain ⟨⟨n,k0⟩,hy,e⟩:=List.mem_map.mp hm
 refine ⟨(n,k0),hy,?_⟩
 have e':(if (k0 == NameKind.free && env.scope.kind == .function && env.kindOf n == some .cell)=true then (n,NameKind.cell) else (n,k0))=(x,k):=e
 by_cases hc:(k0 == NameKind.free && env.scope.kind == .function && env.kindOf n == some .cell)=true
 ·rw [if_pos hc] at e'
  cases e'
  refine ⟨rfl,?_⟩
  rw [Bool.and_eq_true,Bool.and_eq_true] at hc
  exact eq_of_beq hc.1.1
 ·rw [if_neg hc] at e'
  cases e'
  rcases hk with rfl | rfl
  ·exact absurd rfl (hnc _ hy)
  ·exact ⟨rfl,rfl⟩
noncomputable abbrev yf (X:Cx) (N':List Str) (scope:Scope) (cl:List (Str × Addr)) (C:Addr) (fp:List Addr) (s₀:Shared) (H₀:Hp):Cx :=
 { X with N:=N',s₀:=s₀,H₀:=H₀,env:=compEnvC scope cl C X.env,outer:=X.stack,ex:=fp,fn:=fun _=>false,pn:=[],xe:=fun _ _=>False }
structure zw (psc scope:Scope) (T F:List Str):Prop where
 kind:scope.kind=.function
 nocell:∀ y ∈ scope.names,y.2 ≠ .cell
 loc:∀ y ∈ scope.names,y.2=.local->scope.names.lookup y.1=some .local
 fr:∀ y ∈ scope.names,y.2=.free->psc.names.lookup y.1=some .cell \/ psc.names.lookup y.1=some .free
 nd:(T ++ F).Nodup
 ffree:∀ x ∈ F,scope.names.lookup x=some .free
section
variable {X:Cx} {pn:List (Addr × Obj)} {σ:St} {H H':Hp} {s s':Shared} {scope:Scope} {T F:List Str} {cl:List (Str × Addr)} {C:Addr} {fp:List Addr} {js:List Nat}
theorem kf (I:Inv X pn σ H s) (S:zw X.env.scope scope T F):∀ y ∈ scope.names,y.2=.free->∃ c,X.env.cells.lookup y.1=some c:=fun y hy hf=>I.ok.has y.1 (S.fr y hy hf)
theorem N5 (I:Inv X pn σ H s) (S:zw X.env.scope scope T F) (p1:∀ x c,cl.lookup x=some c->X.env.cells.lookup x=some c)
  (p2:∀ y ∈ scope.names,y.2=.free->∃ c,cl.lookup y.1=some c) (hC:s.heap.objs.size <= C) (hf:∀ b ∈ fp,FpOk X pn H b) (hfl:∀ b ∈ fp,b < s.heap.objs.size) :
  (yf X (T ++ F) scope cl C fp s H).Ok where
 mod:=I.ok.mod
 kind:=S.kind
 glob:=I.ok.glob
 blt:=I.ok.blt
 above:=hC
 inj:=fun x y c hx hy=>I.ok.inj x y c (p1 x c hx) (p1 y c hy)
 has:=fun x hx=>by
  have q:∃ y ∈ scope.names,y.1=x /\ y.2=.free:=by
   rcases hx with hx | hx
   ·exact tx (env:=X.env) S.nocell (show (relabel scope X.env).names.lookup x=some .cell from hx) (.inl rfl)
   ·exact tx (env:=X.env) S.nocell (show (relabel scope X.env).names.lookup x=some .free from hx) (.inr rfl)
  obtain ⟨y,hy,rfl,hf⟩:=q
  exact p2 y hy hf
 cab:=fun x c h=>by cases h
 hd:=I.ok.hd
 frames:=I.ok.frames
 stk:=.inl rfl
 exf:=fun b hb=>⟨Nat.ne_of_lt (Nat.lt_of_lt_of_le (hfl b hb) hC),fun x c e=>(hf b hb).2.2.2.2.1 x c (p1 x c e)⟩
 bs:=I.bs
 bsz:=Nat.le_trans I.ok.bsz I.sz
 noex:=fun b o e hb=>by
  rcases (hf b hb).2.2.2.1 with z | z
  ·exact I.ok.noex b o e z
  ·exact absurd (Nat.lt_of_lt_of_le (Heap.lt_size (I.ok.bs b o e).1) z) (Nat.lt_irrefl _)
 exfs:=fun b hb z=>by
  rcases List.mem_cons.mp (I.stkSub b z) with q | q
  ·exact (hf b hb).2.1 q
  ·exact (hf b hb).2.2.1 q
 funs:=I.stack
 frf:=I.stkFree
noncomputable def st0 (T:List Str) (js:List Nat) (σ:St):St:=List.replicate T.length none ++ js.map fun j=>(σ[j]?).join
theorem ux {α β:Type} {R:α->β->Prop}:∀ {l:List α} {r:List β} {i:Nat} {b:β},Paired R l r->r[i]?=some b->∃ a,l[i]?=some a /\ R a b
 | _,_,_,_,.nil,e=>by simp at e
 | _,_,0,_,.cons h _,e=>by simp at e; subst e; exact ⟨_,rfl,h⟩
 | _,_,i + 1,b,.cons _ t,e=>by
  obtain ⟨a,q1,q2⟩:=ux (i:=i) (b:=b) t (by simpa using e)
  exact ⟨a,by simpa using q1,q2⟩
theorem Q4 {h₁:Heap} {m:Str->Option Value} {t':Nat} (I:Inv X pn σ H s) (S:zw X.env.scope scope T F) (p1:∀ x c,cl.lookup x=some c->X.env.cells.lookup x=some c)
  (p2:∀ y ∈ scope.names,y.2=.free->∃ c,cl.lookup y.1=some c) (hjs:Paired (fun x j=>X.N[j]?=some x) F js) (hC:s.heap.objs.size <= C) (hf:∀ b ∈ fp,FpOk X pn H b) (hfl:∀ b ∈ fp,b < s.heap.objs.size)
  (hn:h₁.Ns C m) (hk:∀ b o,s.heap.get? b=some o->h₁.get? b=some o):Inv (yf X (T ++ F) scope cl C fp s H) [] (st0 T js σ) H { s with heap:=h₁,toks:=t' }:=by
 refine ⟨N5 I S p1 p2 hC hf hfl,rfl,I.bare,Un.kept hk,⟨m,hn,fun i x v h1 h2 h3=>?_⟩,fun x c e=>?_,I.hok.fresh hC,fun x c e=>I.freeC x c (p1 x c e),fun p hp=>(by cases hp),I.hok.kept hk,?_⟩
 ·have hi:T.length <= i:=by
   rcases Nat.lt_or_ge i T.length with z | z
   ·exfalso
    unfold st0 at h2
    rw [List.getElem?_append_left (by simpa using z),List.getElem?_replicate] at h2
    split at h2 <;> cases h2
   ·exact z
  unfold st0 at h2
  rw [List.getElem?_append_right (by simpa using hi),List.getElem?_map,List.length_replicate] at h2
  cases ej:js[i - T.length]? with
  | none=>rw [ej] at h2; cases h2
  | some j =>
   rw [ej] at h2
   have hσ:(σ[j]?).join=some v:=Option.some.inj h2
   obtain ⟨x',hx',hX⟩:=ux hjs ej
   have h1':(T ++ F)[i]?=some x:=h1
   rw [List.getElem?_append_right hi,hx'] at h1'
   cases h1'
   have hσ':σ[j]?=some (some v):=by
    cases e:σ[j]? with
    | none=>rw [e] at hσ; cases hσ
    | some o=>rw [e] at hσ; cases hσ; rfl
   have hxF:x ∈ F:=List.mem_of_getElem? hx'
   have hfree:=S.ffree x hxF
   have hpsc:=S.fr _ (PySem.mem_of_lookup hfree) rfl
   obtain ⟨m0,_,look⟩:=I.loc
   obtain ⟨u,ru,lk⟩:=look j x v hX hσ' (.inr hpsc)
   refine ⟨u,ru,?_⟩
   rcases lk with ⟨k,_⟩ | ⟨_,c,hc,hcell⟩
   ·exfalso
    have k':X.env.scope.names.lookup x=some .local:=k
    rcases hpsc with z | z
    ·rw [k'] at z; cases z
    ·rw [k'] at z; cases z
   ·obtain ⟨c',hc'⟩:=p2 _ (PySem.mem_of_lookup hfree) rfl
    have e2:=p1 x c' hc'
    rw [hc] at e2
    cases e2
    refine .inr ⟨?_,c,hc',hcell.keeps hk⟩
    exact wl (env:=X.env) hfree
 ·obtain ⟨v,q⟩:=I.cell x c (p1 x c e)
  exact ⟨v,q.keeps hk⟩
 ·show (st0 T js σ).length=(T ++ F).length
  unfold st0
  rw [zLa,zLa,List.length_replicate,zLm,(Paired.length hjs)]
theorem Q5 {N':List Str} {σ':St} (I:Inv X pn σ H s) (J:Inv (yf X N' scope cl C fp s H) [] σ' H' s') (hf:∀ b ∈ fp,FpOk X pn H b):Inv X pn σ H' s' :=
 I.call' (ch:=fp) (show s'.os=s.os from J.os) J.base J.hok J.bare fun b hb=>⟨(hf b hb).2.2.2.1,(hf b hb).2.1,(hf b hb).2.2.2.2.1,(hf b hb).2.2.2.2.2⟩
end
section
variable {prog:Program} {w:World} {A:Around} {R:Result->Shared->Prop} {s:Shared}
theorem V2 {elt target iter:Expr} {ifs:List Expr} {scope:Scope} {pos:Pos} {it acc:Value} {env:Env} (I:Nat->Shared->Prop)
  (turn:∀ n s,I n s->wpAny (model prog w) A (pyNext it) (fun r s₁=>match r with
   | none=>R (.ok .next) s₁
   | some v=>wpAny (model prog w) A (letOwnedTupleGo target it v) (fun _ s₂=>wpAny (model prog w) A (assign target env v) (fun _ s₃ =>
     wpAny (model prog w) A (forIn ifs true fun c r=>if r=true then do let ok <- isTrue c env (eval c env); pure (ForInStep.yield ok) else pure (ForInStep.yield r)) (fun ok s₄ =>
      if ok=true then wpAny (model prog w) A (eval elt env) (fun x s₅=>wpAny (model prog w) A (call (.builtin "list.append") [acc,x]) (fun _ s₆=>∃ m,m < n /\ I m s₆) (fun _ _=>False) s₅) (fun _ _=>False) s₄
      else ∃ m,m < n /\ I m s₄) (fun _ _=>False) s₃) (fun _ _=>False) s₂) (fun _ _=>False) s₁) (fun _ _=>False) s)
  (n:Nat) (h:I n s):codeAny (model prog w) A (.compLoop (.ListComp elt [⟨target,iter,ifs,0⟩] scope pos) 0 it acc env) R s:=by
 refine codeAny_loop rfl I (fun n s hI=>?_) n h
 show wpAny _ A ((compTurn (.ListComp elt [⟨target,iter,ifs,0⟩] scope pos) 0 it acc env).onRaise (fun x=>do noteFrame x env; theTreesLotGoes x)) _ _ s
 refine wpAny_noted (wpAny_noRaise ?_)
 rw [compTurn_list]
 refine wpAny_bind (wpAny_standAt (wpAny_bind (thn (turn n s hI) fun r s₁ h₁=>?_)))
 cases r with
 | none=>exact wpAny_pure h₁
 | some v =>
  refine wpAny_bind (thn h₁ fun _ s₂ h₂=>wpAny_bind (thn h₂ fun _ s₃ h₃=>wpAny_bind (thn h₃ fun ok s₄ h₄=>?_)))
  cases ok with
  | false=>exact wpAny_pure ⟨rfl,h₄⟩
  | true=>exact wpAny_bind (wpAny_bind (thn h₄ fun x s₅ h₅=>wpAny_bind (thn h₅ fun _ s₆ h₆=>wpAny_pure (wpAny_pure ⟨rfl,h₆⟩))))
end
noncomputable def PIf (X:Cx) (ifs:List Expr) (t:TT):Prop :=
 ∀ (pn:List (Addr × Obj)) (s:Shared) (σ:St) (H:Hp) (Q:Bool->Hp->Prop),Inv X pn σ H s->t σ H Q ->
  wpAny (model X.prog X.w) X.A (forIn ifs true fun c r=>if r=true then do let ok <- isTrue c X.env (eval c X.env); pure (ForInStep.yield ok) else pure (ForInStep.yield r)) (TP X pn σ Q) X.xe s
noncomputable def tYes:TT:=fun _ H Q=>Q true H
theorem Ot {X:Cx}:PIf X [] tYes:=fun _ _ _ H _ I h=>wpAny_tests_nil ⟨H,I,h⟩
noncomputable def x9 (n:Nat) (σ σ':St):Prop:=σ'.length=σ.length /\ ∀ i,n <= i->σ'[i]?=σ[i]?
theorem x9.refl (n:Nat) (σ:St):x9 n σ σ:=⟨rfl,fun _ _=>rfl⟩
theorem x9.trans {n:Nat} {a b c:St} (x:x9 n a b) (y:x9 n b c):x9 n a c:=⟨y.1.trans x.1,fun i h=>(y.2 i h).trans (x.2 i h)⟩
theorem x9.set {n i:Nat} {σ:St} {v:V} (h:i < n):x9 n σ (σ.set i (some v)):=⟨by simp,fun j hj=>by rw [List.getElem?_set_ne (by omega)]⟩
noncomputable def cf (n:Nat) (g:TG):Prop:=∀ v σ H Q,g v σ H Q->g v σ H fun σ' H'=>Q σ' H' /\ x9 n σ σ'
noncomputable def W6 (n:Nat) (g:TGs):Prop:=∀ vs σ H Q,g vs σ H Q->g vs σ H fun σ' H'=>Q σ' H' /\ x9 n σ σ'
theorem xi {n i:Nat} (h:i < n):cf n (kz i):=fun v σ H Q q=>⟨q,x9.set h⟩
theorem Uy {n:Nat}:W6 n gNil:=fun vs σ H Q q=>⟨q.1,q.2,x9.refl n σ⟩
theorem t6 {n:Nat} {t:TG} {u:TGs} (mono:∀ v σ H Q Q',(∀ σ' H',Q σ' H'->Q' σ' H')->t v σ H Q->t v σ H Q') (monos:∀ v σ H Q Q',(∀ σ' H',Q σ' H'->Q' σ' H')->u v σ H Q->u v σ H Q') (h1:cf n t) (h2:W6 n u):W6 n (Wu t u):=fun vs σ H Q q=>by
 obtain ⟨v,r,e,q⟩:=q
 refine ⟨v,r,e,mono _ _ _ _ _ (fun σ' H' z=>?_) (h1 v σ H _ q)⟩
 exact monos _ _ _ _ _ (fun σ2 H2 y=>⟨y.1,z.2.trans y.2⟩) (h2 r σ' H' Q z.1)
theorem Ux {K:W.Frag} {n k:Nat} {t:TGs} (h:W6 n t):cf n (gTup K k t):=fun v σ H Q q=>by
 obtain ⟨a,xs,e,hq,hl,q⟩:=q
 exact ⟨a,xs,e,hq,hl,h xs σ H Q q⟩
theorem va {i:Nat}:∀ v σ H (Q Q':St->Hp->Prop),(∀ σ' H',Q σ' H'->Q' σ' H')->kz i v σ H Q->kz i v σ H Q':=fun _ _ _ _ _ f q=>f _ _ q
theorem jh:∀ v σ H (Q Q':St->Hp->Prop),(∀ σ' H',Q σ' H'->Q' σ' H')->gNil v σ H Q->gNil v σ H Q':=fun _ _ _ _ _ f q=>⟨q.1,f _ _ q.2⟩
theorem Ym {t:TG} {u:TGs} (mono:∀ v σ H Q Q',(∀ σ' H',Q σ' H'->Q' σ' H')->t v σ H Q->t v σ H Q') (monos:∀ v σ H Q Q',(∀ σ' H',Q σ' H'->Q' σ' H')->u v σ H Q->u v σ H Q') :
  ∀ v σ H (Q Q':St->Hp->Prop),(∀ σ' H',Q σ' H'->Q' σ' H')->Wu t u v σ H Q->Wu t u v σ H Q':=fun vs σ H Q Q' f q=>by
 obtain ⟨v,r,e,q⟩:=q
 exact ⟨v,r,e,mono _ _ _ _ _ (fun σ' H' z=>monos _ _ _ _ _ f z) q⟩
noncomputable def L8 (J:It) (g:TG) (tc:TT) (te:TE) (σ0:St) (D:Addr) (Z:Hp->Prop) (H:Hp):Prop :=
 ∃ W:Nat->Nat->List V->Hp->Prop,(∃ m,W 0 m [] H) /\ ∀ i m ys H,W i m ys H->H D=some (.lst ys) /\ ((J.stop i H /\ Z H) \/ (J.go i H /\ ∃ N:List V->Hp->Prop,(∀ zs H',N zs H'->∃ m',m' < m /\ W (i + 1) m' zs H') /\ ∀ x H',J.yld i H x H' ->
  g x σ0 H' fun σ2 H2=>tc σ2 H2 fun b H3=>if b=true then te σ2 H3 fun y H4=>H4 D=some (.lst ys) /\ ys.length < sizeLine /\ N (ys ++ [y]) (upd H4 D (.lst (ys ++ [y]))) else N ys H3))
noncomputable def Sq (wi:TI) (T:List Str) (js:List Nat) (g:TG) (tc:TT) (te:TE):TE:=fun σ H Q=>wi σ H fun J H1=>∀ D,H1 D=none->L8 J g tc te (st0 T js σ) D (Q (.ref D)) (upd H1 D (.lst []))
section
variable {X:Cx} {pn:List (Addr × Obj)} {σ:St} {H2:Hp} {s2:Shared} {scope:Scope} {T F:List Str} {cl:List (Str × Addr)} {fp:List Addr} {js:List Nat} {tg iter elt:Expr} {ifs:List Expr} {pos:Pos}
 {g:TG} {tc:TT} {te:TE} {J:It} {it:Addr} {tn:Nat->Heap->Prop} {E:Value->Shared->Prop} {RR:Value->Addr->Result->Shared->Prop}
theorem jl (hc:X.calm=true) (S:zw X.env.scope scope T F) (hjs:Paired (fun x j=>X.N[j]?=some x) F js)
  (hg:∀ cl C fp s H,PG (yf X (T ++ F) scope cl C fp s H) tg g) (hk:cf T.length g)
  (ht:∀ cl C fp s H,PIf (yf X (T ++ F) scope cl C fp s H) ifs tc) (he:∀ cl C fp s H,PE (yf X (T ++ F) scope cl C fp s H) elt te)
  (p1:∀ x c,cl.lookup x=some c->X.env.cells.lookup x=some c) (p2:∀ y ∈ scope.names,y.2=.free->∃ c,cl.lookup y.1=some c)
  (I2:Inv X pn σ H2 s2) (Tn:Turn X.prog X.w X.K tg J fp it tn) (st2:tn 0 s2.heap) (f2:∀ b ∈ fp,FpOk X pn H2 b) (Z:Addr->Hp->Prop)
  (loop:∀ D,H2 D=none->L8 J g tc te (st0 T js σ) D (Z D) (upd H2 D (.lst [])))
  (hRR:∀ D C H' s' m',s'.heap.Ns C m'->FpOk X pn H' C->Inv X pn σ H' s'->Z D H'->RR (.ref D) C (.ok .next) s') :
  wpAny (model X.prog X.w) X.A (newList []) (fun acc s₃=>wpAny (model X.prog X.w) X.A (newFunctionEnv scope X.env.globals cl [] X.env.qual none .none (some X.env)) (fun cenv s₄ =>
   codeAny (model X.prog X.w) X.A (.compStart (.ListComp elt [⟨tg,iter,ifs,0⟩] scope pos) 0 (.ref it) acc { cenv with scope:=relabel scope X.env }) (RR acc cenv.locals) s₄) E s₃) E s2:=by
 refine wpAny_newObj_type (wpAny_newFunctionEnv S.nocell (by intro y hy; cases hy) (fun h₁ hns hsb=>?_) S.kind)
 dsimp only at hns hsb ⊢
 have I3:Inv X pn σ (upd H2 s2.heap.objs.size (.lst [])) { s2 with heap:=s2.heap.push { cls:=.type "list", data:=.seq ([]:List Value).toArray } }:=I2.lnew (its:=[]) (t':=s2.toks) .nil (Nat.zero_le _)
 have hobj:∀ b ∈ fp,b < s2.heap.objs.size:=fun b hb=>by
  obtain ⟨o,e,_⟩:=Tn.obj _ _ st2 b hb
  exact Heap.lt_size e
 have f3:∀ b ∈ fp,FpOk X pn (upd H2 s2.heap.objs.size (.lst [])) b:=fun b hb=>⟨by rw [zj (Nat.ne_of_lt (hobj b hb))]; exact (f2 b hb).1,(f2 b hb).2⟩
 obtain ⟨W,⟨m0,w0⟩,turn⟩:=loop s2.heap.objs.size I2.fresh
 generalize hs3:({ s2 with heap:=s2.heap.push { cls:=.type "list", data:=.seq ([]:List Value).toArray } }:Shared)=s3 at I3
 have e3:s2.heap.push { cls:=.type "list", dict:=none,data:=.seq ([]:List Value).toArray }=s3.heap:=by rw [<- hs3]
 rw [e3] at hns hsb ⊢
 have sz3:s3.heap.objs.size=s2.heap.objs.size + 1:=by rw [<- e3,Heap.size_push]
 have hold:∀ b o,s3.heap.get? b=some o->h₁.get? b=some o:=fun b o e=>hsb.extBut b o (Nat.ne_of_lt (Heap.lt_size e)) (Heap.get?_push_of_some _ e)
 have hobj3:∀ b ∈ fp,b < s3.heap.objs.size:=fun b hb=>by rw [sz3]; exact Nat.lt_succ_of_lt (hobj b hb)
 have J0:Inv (yf X (T ++ F) scope cl s3.heap.objs.size fp s3 (upd H2 s2.heap.objs.size (.lst []))) [] (st0 T js σ) (upd H2 s2.heap.objs.size (.lst [])) { s3 with heap:=h₁,toks:=s2.toks + ([]:List (Str × Value)).length } :=
  Q4 I3 S p1 p2 hjs (Nat.le_refl _) f3 hobj3 hns hold
 have stL:tn 0 h₁:=Tn.keep _ _ _ st2 fun b _ o e=>hold b o (by rw [<- e3]; exact Heap.get?_push_of_some _ e)
 have es:({ s2 with heap:=h₁,toks:=s2.toks + ([]:List (Str × Value)).length }:Shared)={ s3 with heap:=h₁,toks:=s2.toks + ([]:List (Str × Value)).length }:=by rw [<- hs3]
 have main:codeAny (model X.prog X.w) X.A (.compLoop (.ListComp elt [⟨tg,iter,ifs,0⟩] scope pos) 0 (.ref it) (.ref s2.heap.objs.size) (compEnvC scope cl s3.heap.objs.size X.env)) (RR (.ref s2.heap.objs.size) s3.heap.objs.size)
   { s3 with heap:=h₁,toks:=s2.toks + ([]:List (Str × Value)).length }:=by
  have stat:∀ {H':Hp},(∀ b ∈ fp,H' b=none)->∀ b ∈ fp,FpOk (yf X (T ++ F) scope cl s3.heap.objs.size fp s3 (upd H2 s2.heap.objs.size (.lst []))) [] H' b:=fun hn b hb =>
   ⟨hn b hb,Nat.ne_of_lt (hobj3 b hb),J0.ok.exfs b hb,.inl hb,(J0.ok.exf b hb).2,fun p hp=>(by cases hp)⟩
  refine V2 (fun n s'=>∃ i ys H',Inv (yf X (T ++ F) scope cl s3.heap.objs.size fp s3 (upd H2 s2.heap.objs.size (.lst []))) [] (st0 T js σ) H' s' /\ tn i s'.heap /\ (∀ b ∈ fp,H' b=none) /\ W i n ys H') ?_ m0
   ⟨0,[],_,J0,stL,fun b hb=>(f3 b hb).1,w0⟩
  rintro n s4 ⟨i,ys,H4,I4,st4,fr4,w4⟩
  obtain ⟨hD,alt⟩:=turn i n ys H4 w4
  rcases alt with ⟨stop,z⟩ | ⟨go,N,hN,step⟩
  ·refine thn (Tn.done (yf X (T ++ F) scope cl s3.heap.objs.size fp s3 (upd H2 s2.heap.objs.size (.lst []))) rfl rfl rfl hc i [] s4 _ H4 (fun _ _=>False) I4 (stat fr4) st4 stop) fun r s5 ⟨hr,I5⟩=>?_
   subst hr
   obtain ⟨m5,n5,_⟩:=I5.loc
   have fC:FpOk X pn H4 s3.heap.objs.size:=I2.fpOk (by rw [sz3]; exact Nat.le_succ _) I5.free
   exact hRR _ _ H4 s5 m5 n5 fC ((Q5 I3 I5 f3)) z
  ·refine thn (Tn.item (yf X (T ++ F) scope cl s3.heap.objs.size fp s3 (upd H2 s2.heap.objs.size (.lst []))) rfl rfl rfl hc i [] s4 _ H4 (fun _ _=>False) I4 (stat fr4) st4 go) fun r s5 ⟨u,hr,h5⟩=>?_
   subst hr
   refine thn h5 fun _ s6 ⟨x,H6,I6,r6,y6,st6,fr6⟩=>?_
   have I6':=I6.pinned (stat fr6) (Tn.obj _ _ st6)
   refine thn (hg _ _ _ _ _ _ s6 _ H6 x u _ I6' r6 (hk x _ H6 _ (step x H6 y6))) fun _ s7 ⟨σ7,H7,I7,q7,kp⟩=>?_
   refine thn (ht _ _ _ _ _ _ s7 σ7 H7 _ I7 q7) fun ok s8 ⟨H8,I8,q8⟩=>?_
   have again:∀ {s9:Shared} {H9:Hp},Inv (yf X (T ++ F) scope cl s3.heap.objs.size fp s3 (upd H2 s2.heap.objs.size (.lst []))) ([] ++ b4 fp s6.heap) σ7 H9 s9->∀ {zs:List V},(∃ m',m' < n /\ W (i + 1) m' zs H9) ->
     ∃ m,m < n /\ ∃ i ys H',Inv (yf X (T ++ F) scope cl s3.heap.objs.size fp s3 (upd H2 s2.heap.objs.size (.lst []))) [] (st0 T js σ) H' s9 /\ tn i s9.heap /\ (∀ b ∈ fp,H' b=none) /\ W i m ys H':=fun {s9 H9} I9 {zs} q9=>by
    obtain ⟨m',hm,w9⟩:=q9
    have I9':=I9.unpinned
    refine ⟨m',hm,i + 1,zs,H9,I9'.weak kp.1.symm (fun a v ea=>?_),Tn.keep _ _ _ st6 fun b hb o e=>(I9.pin (b,o) (List.mem_append_right _ (List.mem_append_right _ (u6 hb e)))).1,fun b hb=>?_,w9⟩
    ·have ha:T.length <= a:=by
      rcases Nat.lt_or_ge a T.length with z | z
      ·exfalso
       unfold st0 at ea
       rw [List.getElem?_append_left (by simpa using z),List.getElem?_replicate] at ea
       split at ea <;> cases ea
      ·exact z
     rw [kp.2 a ha]
     exact ea
    ·obtain ⟨o,e,d⟩:=Tn.obj _ _ st6 b hb
     exact (I9.pin (b,o) (List.mem_append_right _ (List.mem_append_right _ (u6 hb e)))).2.1
   cases ok with
   | false =>
    rw [if_neg Bool.false_ne_true] at q8 ⊢
    exact again I8 (hN _ _ q8)
   | true =>
    rw [if_pos rfl] at q8 ⊢
    refine thn (he _ _ _ _ _ _ s8 σ7 H8 _ I8 q8) fun y s9 ⟨v9,H9,I9,r9,hD9,hl9,q9⟩=>?_
    refine thn (qi _ s9 σ7 H9 (.ref s2.heap.objs.size) [v9] (.ref s2.heap.objs.size) [y] (fun _ H10=>H10=upd H9 s2.heap.objs.size (.lst (ys ++ [v9]))) I9 rfl (.cons r9 .nil) ⟨_,_,_,rfl,rfl,hD9,hl9,rfl⟩) fun _ s10 ⟨_,H10,I10,_,e10⟩=>?_
    subst e10
    exact again I10 (hN _ _ q9)
 show codeAny _ _ _ _ ({ s2 with heap:=h₁,toks:=s2.toks + ([]:List (Str × Value)).length }:Shared)
 rw [es]
 exact codeAny_compStart_list main (Tn.self _ 0 _ _ _ stL main)
theorem Vu {wi:TI} (hc:X.calm=true) (hi:PI X tg iter wi) (S:zw X.env.scope scope T F) (hjs:Paired (fun x j=>X.N[j]?=some x) F js)
  (hg:∀ cl C fp s H,PG (yf X (T ++ F) scope cl C fp s H) tg g) (hk:cf T.length g)
  (ht:∀ cl C fp s H,PIf (yf X (T ++ F) scope cl C fp s H) ifs tc) (he:∀ cl C fp s H,PE (yf X (T ++ F) scope cl C fp s H) elt te)
  (hs:∀ x,foldedSetIterable iter X.env x=pure x:=by intro _; rfl):PE X (.ListComp elt [⟨tg,iter,ifs,0⟩] scope pos) (Sq wi T js g tc te):=by
 intro pn s σ H Q I h
 obtain ⟨cl,hcl,p1,p2⟩:=jm (kf I S)
 rw [eval_ListComp]
 refine wpAny_comprehension_free (use:=none) rfl hs hcl S.kind S.loc (thn (hi pn s σ H _ I h) fun v s1 h1=>thn h1 fun itv s2 h2=>?_)
 obtain ⟨it,fp,tn,J,H2,e,I2,Tn,st2,f2,loop⟩:=h2
 subst e
 refine jl (RR:=fun acc C=>compPost (model X.prog X.w) X.A X.xe none (EP X pn σ Q) acc C) hc S hjs hg hk ht he p1 p2 I2 Tn st2 f2 (fun D H'=>Q (.ref D) H') loop ?_
 intro D C H' s' m' hn fC I' z
 obtain ⟨f0,f1,f2,f3,f4,f5⟩:=fC
 exact ⟨m',hn,fun h' sb=>⟨.ref D,H',I'.turned (t':=s'.toks) (fun b o hb e=>(sb.2 b hb).trans e) f0 f1 f3 f4 f5,rfl,z⟩⟩
theorem Wd {wi:TI} {i:Nat} {y:Str} {py spos:Pos} (hc:X.calm=true) (hN:X.N.Nodup) (hy:X.N[i]?=some y) (hl:X.env.scope.names.lookup y=some .local \/ X.env.scope.names.lookup y=some .cell) (hi:PI X tg iter wi) (S:zw X.env.scope scope T F) (hjs:Paired (fun x j=>X.N[j]?=some x) F js)
  (hg:∀ cl C fp s H,PG (yf X (T ++ F) scope cl C fp s H) tg g) (hk:cf T.length g)
  (ht:∀ cl C fp s H,PIf (yf X (T ++ F) scope cl C fp s H) ifs tc) (he:∀ cl C fp s H,PE (yf X (T ++ F) scope cl C fp s H) elt te)
  (hsw:swapsWith (.ListComp elt [⟨tg,iter,ifs,0⟩] scope pos) (some (.Name y py)) spos.line X.env=pure true:=by rfl)
  (hs:∀ x,foldedSetIterable iter X.env x=pure x:=by intro _; rfl) (hfn:X.fn y=true \/ X.env.scope.names.lookup y=some .local:=by first | exact .inl rfl | exact .inr rfl | assumption) :
  PS X (.Assign [.Name y py] (.ListComp elt [⟨tg,iter,ifs,0⟩] scope pos) spos) (fun D σ H=>Sq wi T js g tc te σ H fun v H1=>D.nx (σ.set i (some v)) H1):=by
 intro pn s σ H D I h
 obtain ⟨cl,hcl,p1,p2⟩:=jm (kf I S)
 rw [exec_Assign_Name_used _ _ _ _ hsw]
 refine wpAny_bind (wpAny_standAt (wpAny_bind ?_))
 show wpAny _ X.A (do let _ <- comprehension (.ListComp elt [⟨tg,iter,ifs,0⟩] scope pos) scope X.env _ (newList []) false (eval iter X.env) (some (assign (.Name y py) X.env))) _ _ s
 refine wpAny_bind (thn (wpAny_comprehension_free (use:=some (assign (.Name y py) X.env)) (Q:=fun _ s'=>SP X pn D .next s') rfl hs hcl S.kind S.loc (thn (hi pn s σ H _ I h) fun v s1 h1=>thn h1 fun itv s2 h2=>?_)) fun _ s' hq=>wpAny_pure (wpAny_pure hq))
 obtain ⟨it,fp,tn,J,H2,e,I2,Tn,st2,f2,loop⟩:=h2
 subst e
 refine jl (RR:=fun acc C=>compPost (model X.prog X.w) X.A X.xe (some (assign (.Name y py) X.env)) (fun _ s'=>SP X pn D .next s') acc C) hc S hjs hg hk ht he p1 p2 I2 Tn st2 f2 (fun D0 H'=>D.nx (σ.set i (some (.ref D0))) H') loop ?_
 intro D0 C H' s' m' hn fC I' z
 obtain ⟨f0,f1,f2,f3,f4,f5⟩:=fC
 show wpAny _ X.A (assign (.Name y py) X.env (.ref D0)) _ _ s'
 refine wpAny_assign_Name (cj (v:=.ref D0) I' hN hy hl rfl (fun s'' I'' ch=>?_) hfn)
 obtain ⟨a,sb,ha⟩:=ch
 have hCa:C ≠ a:=by
  rcases ha with rfl | ha
  ·exact f1
  ·exact fun z=>f4 y a ha z.symm
 exact ⟨m',hn.sameBut sb hCa,fun h' sb'=>⟨_,H',I''.turned (t':=s''.toks) (fun b o hb e=>(sb'.2 b hb).trans e) f0 f1 f3 f4 f5,z⟩⟩
end
noncomputable def Itv (n:Nat) (val:Nat->V->Prop):It:=⟨fun i _=>i < n,fun i H x H'=>H'=H /\ val i x,fun i _=>i=n⟩
noncomputable def Mo (x:Str) (i:Nat) (v:V):Prop:=∃ c,x.cps[i]?=some c /\ v=.str ⟨#[c]⟩
theorem Sj {P:Program} {w:World} {K:W.Frag} {tg:Expr} {it:Addr} {x:Str} {t:Tok} {T:String}
  (W:∀ A:Around,A.handled=none->Walks P w A it [it] [it] x.cps.size (SignAt x) (fun i h=>h.IsStrIter it T x t i))
  (hs:∀ (A:Around) (i:Nat) (s:Shared) (Q:Value->Shared->Prop) (E:Value->Shared->Prop),s.heap.IsStrIter it T x t i->Q (.ref it) s->wpAny (model P w) A (pyIter (.ref it)) Q E s)
  (hT:["enumerate", "zip", "dict_itemiterator", "dict_reverseitemiterator", "odict_iterator", "itertools.zip_longest", "itertools.pairwise"].contains T=false) :
  Turn P w K tg (Itv x.cps.size (Mo x)) [it] it (fun i h=>h.IsStrIter it T x t i) where
 mem:=by simp
 obj:=fun i h st b hb=>by
  have e:b=it:=by simpa using hb
  subst e
  obtain ⟨o,e,c,d⟩:=st
  exact ⟨o,e,fun v z=>by rw [d] at z; cases z⟩
 keep:=fun i h h' st k=>let ⟨o,e,r⟩:=st; ⟨o,k it (by simp) o e,r⟩
 item:=by
  intro X hP hw hK hc i pn s σ H E I hf st hg
  subst hP hw hK
  obtain ⟨f0,f1,f2,f3,f4,f5⟩:=hf it (by simp)
  refine (W X.A (I.ok.hd hc)).item i s _ _ hg st fun v h' tk hv st' kk=>?_
  obtain ⟨c,u,hx,rfl⟩:=hv
  have I1:Inv X pn σ H { s with heap:=h',toks:=tk }:=I.turned (fun b o hb e=>kk b o (by simpa using hb) e) f0 f1 f3 f4 f5
  obtain ⟨o,e,c',d⟩:=id st'
  exact ⟨_,rfl,Q7 (s:={ s with heap:=h',toks:=tk }) e c' d hT ⟨.str ⟨#[c]⟩,H,I1,⟨u,rfl⟩,⟨rfl,c,hx,rfl⟩,st',fun b hb=>(hf b hb).1⟩⟩
 done:=by
  intro X hP hw hK hc i pn s σ H E I hf st hg
  subst hP hw hK
  obtain ⟨f0,f1,f2,f3,f4,f5⟩:=hf it (by simp)
  have e:i=x.cps.size:=hg
  subst e
  exact (W X.A (I.ok.hd hc)).done s _ _ st fun h' tk kk=>⟨rfl,I.turned (fun b o hb e=>kk b o (by simpa using hb) e) f0 f1 f3 f4 f5⟩
 self:=fun A i s Q E st h=>hs A i s Q E st h
noncomputable def ju:V->Option Bool
 | .bl b=>some b
 | .int i=>some (i != 0)
 | .non=>some false
 | _=>none
noncomputable def sj (ys:List V) (d:Bool) (i:Nat):Bool:=((ys[i]?).bind ju).getD d
theorem Zr (ys:List V) (h:∀ y ∈ ys,(ju y).isSome=true):(List.range ys.length).all (sj ys true)=ys.all fun y=>ju y == some true:=by
 rw [Bool.eq_iff_iff,List.all_eq_true,List.all_eq_true]
 constructor
 ·intro q y hy
  obtain ⟨i,hi,e⟩:=List.getElem_of_mem hy
  have z:=q i (List.mem_range.mpr hi)
  unfold sj at z
  rw [List.getElem?_eq_getElem hi,Option.bind_some,e] at z
  obtain ⟨b,hb⟩:=Option.isSome_iff_exists.mp (h y hy)
  rw [hb] at z ⊢
  simpa using z
 ·intro q i hi
  have hi':=List.mem_range.mp hi
  have z:=q _ (List.getElem_mem hi')
  unfold sj
  rw [List.getElem?_eq_getElem hi',Option.bind_some,eq_of_beq z]
  rfl
theorem Zq (ys:List V) (h:∀ y ∈ ys,(ju y).isSome=true):(List.range ys.length).any (sj ys false)=ys.any fun y=>ju y == some true:=by
 rw [Bool.eq_iff_iff,List.any_eq_true,List.any_eq_true]
 constructor
 ·rintro ⟨i,hi,z⟩
  have hi':=List.mem_range.mp hi
  refine ⟨_,List.getElem_mem hi',?_⟩
  unfold sj at z
  rw [List.getElem?_eq_getElem hi',Option.bind_some] at z
  obtain ⟨b,hb⟩:=Option.isSome_iff_exists.mp (h _ (List.getElem_mem hi'))
  rw [hb] at z ⊢
  simpa using z
 ·rintro ⟨y,hy,z⟩
  obtain ⟨i,hi,e⟩:=List.getElem_of_mem hy
  refine ⟨i,List.mem_range.mpr hi,?_⟩
  unfold sj
  rw [List.getElem?_eq_getElem hi,Option.bind_some,e,eq_of_beq z]
  rfl
theorem sw {P:Program} {w:World} {A:Around} {ys:List V} {its:List Value} (d:Bool) (r:Vals ys its) (h:∀ y ∈ ys,(ju y).isSome=true):TruthOf P w A (fun i v=>its.toArray[i]?=some v) (sj ys d):=by
 intro i v s Q E hP hQ
 obtain ⟨y,hy,ry⟩:=ux r (show its[i]?=some v by simpa using hP)
 unfold sj at hQ
 rw [hy,Option.bind_some] at hQ
 have hs:=h y (List.mem_of_getElem? hy)
 cases y with
 | bl b=>cases ry; exact wpAny_truthy_bool hQ
 | int k=>obtain ⟨t,rfl⟩:=ry; exact PySem.P.truthy_int hQ
 | non=>cases ry; exact truthy_none hQ
 | _=>cases hs
section
variable {X:Cx}
theorem uk {s:Shared} {h':Heap} {o:Obj} (hk:∀ b x,b ∉ [s.heap.objs.size]->(s.heap.push o).get? b=some x->h'.get? b=some x):∀ b x,s.heap.get? b=some x->h'.get? b=some x :=
 fun b x e=>hk b x (by simpa using Nat.ne_of_lt (Heap.lt_size e)) (Heap.get?_push_of_some _ e)
noncomputable def rAll (K:W.Frag) (f:List V->Bool):List V->Hp->VK->Prop:=fun xs H Q=>∃ p ys,xs=[.ref p] /\ (SqL K H p ys \/ SqT K H p ys) /\ (∀ y ∈ ys,(ju y).isSome=true) /\ Q (.bl (f ys)) H
theorem Zj (hc:X.calm=true):u1 X (.builtin "all") (rAll X.K fun ys=>ys.all fun y=>ju y == some true):=by
 intro pn s σ H xs us Q I r h
 obtain ⟨p,ys,rfl,hq,ht,q⟩:=h
 obtain ⟨u,rfl,rx⟩:=ci r
 cases rx
 rcases hq with hq | hq
 ·obtain ⟨its,rv,pl,hz⟩:=I.list hq
  have hlt:p < s.heap.objs.size:=by obtain ⟨_,e,_⟩:=pl.isList; exact Heap.lt_size e
  refine call_all_walk (wpAny_pyIter_list pl.isList ⟨s.heap.objs.size,[s.heap.objs.size,p],[s.heap.objs.size],its.toArray.size,_,_,sj ys true,rfl,Walks.list (A:=X.A.in1) (I.ok.hd hc) _ p (Nat.ne_of_lt hlt) its.toArray,
   ⟨⟨_,Heap.get?_push_size _ rfl,rfl,rfl⟩,pl.isList.push _⟩,sw true rv ht,fun h' tk hk=>?_⟩)
  rw [List.size_toArray,<- rv.length,Zr ys ht]
  exact ⟨.bl _,H,I.kept (uk hk),rfl,q⟩
 ·obtain ⟨its,rv,pl,hz⟩:=I.tuple hq
  have hlt:p < s.heap.objs.size:=by obtain ⟨_,e,_⟩:=pl; exact Heap.lt_size e
  have pl':s.heap.IsTuple p its.toArray:=pl
  refine call_all_walk (wpAny_pyIter_tuple pl' ⟨s.heap.objs.size,[s.heap.objs.size,p],[s.heap.objs.size],its.toArray.size,_,_,sj ys true,rfl,Walks.tuple (A:=X.A.in1) (I.ok.hd hc) _ p (Nat.ne_of_lt hlt) its.toArray,
   ⟨⟨_,Heap.get?_push_size _ rfl,rfl,rfl⟩,pl'.at fun o e=>Heap.get?_push_of_some _ e⟩,sw true rv ht,fun h' tk hk=>?_⟩)
  rw [List.size_toArray,<- rv.length,Zr ys ht]
  exact ⟨.bl _,H,I.kept (uk hk),rfl,q⟩
theorem Zi (hc:X.calm=true):u1 X (.builtin "any") (rAll X.K fun ys=>ys.any fun y=>ju y == some true):=by
 intro pn s σ H xs us Q I r h
 obtain ⟨p,ys,rfl,hq,ht,q⟩:=h
 obtain ⟨u,rfl,rx⟩:=ci r
 cases rx
 rcases hq with hq | hq
 ·obtain ⟨its,rv,pl,hz⟩:=I.list hq
  have hlt:p < s.heap.objs.size:=by obtain ⟨_,e,_⟩:=pl.isList; exact Heap.lt_size e
  refine call_any_walk (wpAny_pyIter_list pl.isList ⟨s.heap.objs.size,[s.heap.objs.size,p],[s.heap.objs.size],its.toArray.size,_,_,sj ys false,rfl,Walks.list (A:=X.A.in1) (I.ok.hd hc) _ p (Nat.ne_of_lt hlt) its.toArray,
   ⟨⟨_,Heap.get?_push_size _ rfl,rfl,rfl⟩,pl.isList.push _⟩,sw false rv ht,fun h' tk hk=>?_⟩)
  rw [List.size_toArray,<- rv.length,Zq ys ht]
  exact ⟨.bl _,H,I.kept (uk hk),rfl,q⟩
 ·obtain ⟨its,rv,pl,hz⟩:=I.tuple hq
  have hlt:p < s.heap.objs.size:=by obtain ⟨_,e,_⟩:=pl; exact Heap.lt_size e
  have pl':s.heap.IsTuple p its.toArray:=pl
  refine call_any_walk (wpAny_pyIter_tuple pl' ⟨s.heap.objs.size,[s.heap.objs.size,p],[s.heap.objs.size],its.toArray.size,_,_,sj ys false,rfl,Walks.tuple (A:=X.A.in1) (I.ok.hd hc) _ p (Nat.ne_of_lt hlt) its.toArray,
   ⟨⟨_,Heap.get?_push_size _ rfl,rfl,rfl⟩,pl'.at fun o e=>Heap.get?_push_of_some _ e⟩,sw false rv ht,fun h' tk hk=>?_⟩)
  rw [List.size_toArray,<- rv.length,Zq ys ht]
  exact ⟨.bl _,H,I.kept (uk hk),rfl,q⟩
end
end L3
local macro_rules | `(tactic| walk_at "o")=>`(tactic| first | exact Or.inl rfl | exact Or.inr rfl)
namespace DL
open PySem PySem.Spec L2 L3
open PyProof.Rows hiding St
inductive Cst where
 | int (i:Int) | str (x:Str) | tup (cs:List Cst)
mutual
noncomputable def CRep (K:W.Frag):Cst->V->Prop
 | .int i,v=>v=.int i
 | .str x,v=>v=.str x
 | .tup cs,v=>∃ (a:Addr) (o:Obj) (its:Array Value) (n:Nat) (xs:List V),v=.ref a /\ K.lookup a=some o /\ o.cls=.type "tuple" /\ o.data=.seq its n /\ its.size <= sizeLine /\ Vals xs its.toList /\ Hu K cs xs
noncomputable def Hu (K:W.Frag):List Cst->List V->Prop
 | [],xs=>xs=[]
 | c :: cs,xs=>∃ v r,xs=v :: r /\ CRep K c v /\ Hu K cs r
end
inductive D where
 | non | bl (b:Bool) | int (i:Int) | str (x:Str) | ty (n:String)
 | tup (ds:List D) | lst (ds:List D) | dk (ks:List Key) (ds:List D) | dt (ks:List (List Key)) (ds:List D)
  | scr (ns:List Int)
  | exc (C:Addr)
  | fd (m:Int)
  | dz (rs:List (List Int × Int))
 | cn (c:Cst)
  | ob (C:Addr) (ns:List Str) (ds:List D)
noncomputable def Scr (K:W.Frag) (H:Hp) (a:Addr) (ns:List Int):Prop :=
 (∃ o,H a=some (.frz o (.lst (ns.map V.int)))) \/
  ∃ (o:Obj) (its:Array Value) (n:Nat),K.lookup a=some o /\ o.cls=.type "list" /\ o.dict=none /\ o.data=.seq its n /\ its.size <= sizeLine /\ Vals (ns.map V.int) its.toList
theorem Scr.seq {K:W.Frag} {H:Hp} {a:Addr} {ns:List Int} (h:Scr K H a ns):SqL K H a (ns.map V.int):=by
 rcases h with ⟨o,h⟩ | h
 ·exact .inl (.inr ⟨o,h⟩)
 ·exact .inr h
noncomputable def dzV (rs:List (List Int × Int)):List (List Key × V):=rs.map fun p=>(p.1.map Sum.inl,V.int p.2)
noncomputable def Dz (H:Hp) (a:Addr) (rs:List (List Int × Int)):Prop:=(∃ o,H a=some (.frz o (.dT (dzV rs)))) /\ (rs.map Prod.fst).Nodup
noncomputable def SqR (K:W.Frag) (H:Hp) (a:Addr) (xs:List V):Prop:=SqT K H a xs /\ H a=some (.tup xs)
noncomputable def ExcO (a C:Addr):HO:=.ext fun h=>∃ o,h.get? a=some o /\ o.cls=.ref C /\ W.notCls o=true
noncomputable def Ht (a:Addr) (m:Int):HO:=.ext fun h=>∃ (its:Array Value) (n:Nat),h.get? a=some { cls:=.type "list", dict:=none,data:=.seq its n,slots:=#[] } /\ its.size <= 1000 /\ (m <= 0->1 <= its.size) /\ ∀ v ∈ its,∃ (i:Int) (t:Tok),v=.int i t /\ (0 < m->0 <= i /\ i < m)
mutual
noncomputable def Rep (K:W.Frag) (H:Hp) (O:List Addr):D->V->Prop
 | .non,v=>v=.non
 | .bl b,v=>v=.bl b
 | .int i,v=>v=.int i
 | .str x,v=>v=.str x
 | .ty n,v=>v=.ty n
 | .cn c,v=>CRep K c v
 | .tup ds,v=>∃ a xs,v=.ref a /\ SqR K H a xs /\ Reps K H O ds xs
 | .lst ds,v=>∃ a xs,v=.ref a /\ H a=some (.lst xs) /\ a ∉ O /\ Reps K H O ds xs
 | .scr ns,v=>∃ a,v=.ref a /\ Scr K H a ns
 | .dz rs,v=>∃ a,v=.ref a /\ Dz H a rs
 | .exc C,v=>∃ a,v=.ref a /\ H a=some (ExcO a C) /\ a ∉ O
 | .fd m,v=>∃ a,v=.ref a /\ H a=some (Ht a m) /\ a ∉ O
 | .dk ks ds,v=>∃ a xs,v=.ref a /\ H a=some (.dK (ks.zip xs)) /\ a ∉ O /\ ks.length=ds.length /\ ks.Nodup /\ Reps K H O ds xs
 | .dt ks ds,v=>∃ a xs,v=.ref a /\ H a=some (.dT (ks.zip xs)) /\ a ∉ O /\ ks.length=ds.length /\ ks.Nodup /\ Reps K H O ds xs
 | .ob C ns ds,v=>∃ a dx xs,v=.ref a /\ H a=some (.ins C dx (ns.zip xs)) /\ a ∉ O /\ ns.length=ds.length /\ ns.Nodup /\ Reps K H O ds xs
noncomputable def Reps (K:W.Frag) (H:Hp) (O:List Addr):List D->List V->Prop
 | [],xs=>xs=[]
 | d :: ds,xs=>∃ v r,xs=v :: r /\ Rep K H O d v /\ Reps K H O ds r
end
structure Grow (O O':List Addr) (H H':Hp):Prop where
 keep:∀ b u,H b=some u->b ∉ O->H' b=some u /\ b ∉ O'
 tups:∀ b xs,H b=some (.tup xs)->H' b=some (.tup xs)
 frzs:∀ b o u,H b=some (.frz o u)->H' b=some (.frz o u)
theorem Grow.same {O:List Addr} {H H':Hp} (s:Same H H'):Grow O O H H':=⟨fun b u h n=>⟨s b u h,n⟩,fun b xs h=>s b _ h,fun b o u h=>s b _ h⟩
theorem Grow.refl {O:List Addr} {H:Hp}:Grow O O H H:=Grow.same (Same.refl H)
theorem Grow.trans {O O' O'':List Addr} {H H' H'':Hp} (a:Grow O O' H H') (b:Grow O' O'' H' H''):Grow O O'' H H'' :=
 ⟨fun c u h n=>let ⟨h',n'⟩:=a.keep c u h n; b.keep c u h' n',fun c xs h=>b.tups c xs (a.tups c xs h),fun c o u h=>b.frzs c o u (a.frzs c o u h)⟩
theorem jx {K:W.Frag} {O O':List Addr} {H H':Hp} {a:Addr} {xs:List V} (g:Grow O O' H H') (h:SqT K H a xs):SqT K H' a xs:=by
 rcases h with (h | ⟨o,h⟩) | h
 ·exact .inl (.inl (g.tups _ _ h))
 ·exact .inl (.inr ⟨o,g.frzs _ _ _ h⟩)
 ·exact .inr h
theorem X4 {K:W.Frag} {O O':List Addr} {H H':Hp} {a:Addr} {xs:List V} (g:Grow O O' H H') (h:SqR K H a xs):SqR K H' a xs:=⟨jx g h.1,g.tups _ _ h.2⟩
theorem ra {K:W.Frag} {O O':List Addr} {H H':Hp} {a:Addr} {ns:List Int} (g:Grow O O' H H') (h:Scr K H a ns):Scr K H' a ns:=by
 rcases h with ⟨o,h⟩ | h
 ·exact .inl ⟨o,g.frzs _ _ _ h⟩
 ·exact .inr h
theorem Tj {O O':List Addr} {H H':Hp} {a:Addr} {rs:List (List Int × Int)} (g:Grow O O' H H') (h:Dz H a rs):Dz H' a rs:=⟨let ⟨o,q⟩:=h.1; ⟨o,g.frzs _ _ _ q⟩,h.2⟩
mutual
theorem Rep.grow {K:W.Frag} {O O':List Addr} {H H':Hp} (g:Grow O O' H H'):∀ (d:D) (v:V),Rep K H O d v->Rep K H' O' d v
 | .non,_,h=>h
 | .bl _,_,h=>h
 | .int _,_,h=>h
 | .str _,_,h=>h
 | .ty _,_,h=>h
 | .cn _,_,h=>h
 | .tup ds,v,h=>by
  obtain ⟨a,xs,e,q,r⟩:=h
  exact ⟨a,xs,e,X4 g q,Reps.grow g ds xs r⟩
 | .lst ds,v,h=>by
  obtain ⟨a,xs,e,q,n,r⟩:=h
  exact ⟨a,xs,e,(g.keep _ _ q n).1,(g.keep _ _ q n).2,Reps.grow g ds xs r⟩
 | .scr ns,v,h=>by
  obtain ⟨a,e,q⟩:=h
  exact ⟨a,e,ra g q⟩
 | .dz rs,v,h=>by
  obtain ⟨a,e,q⟩:=h
  exact ⟨a,e,Tj g q⟩
 | .exc C,v,h=>by
  obtain ⟨a,e,q,n⟩:=h
  exact ⟨a,e,(g.keep _ _ q n).1,(g.keep _ _ q n).2⟩
 | .fd m,v,h=>by
  obtain ⟨a,e,q,n⟩:=h
  exact ⟨a,e,(g.keep _ _ q n).1,(g.keep _ _ q n).2⟩
 | .dk ks ds,v,h=>by
  obtain ⟨a,xs,e,q,n,l,nd,r⟩:=h
  exact ⟨a,xs,e,(g.keep _ _ q n).1,(g.keep _ _ q n).2,l,nd,Reps.grow g ds xs r⟩
 | .dt ks ds,v,h=>by
  obtain ⟨a,xs,e,q,n,l,nd,r⟩:=h
  exact ⟨a,xs,e,(g.keep _ _ q n).1,(g.keep _ _ q n).2,l,nd,Reps.grow g ds xs r⟩
 | .ob C ns ds,v,h=>by
  obtain ⟨a,dx,xs,e,q,n,l,nd,r⟩:=h
  exact ⟨a,dx,xs,e,(g.keep _ _ q n).1,(g.keep _ _ q n).2,l,nd,Reps.grow g ds xs r⟩
theorem Reps.grow {K:W.Frag} {O O':List Addr} {H H':Hp} (g:Grow O O' H H'):∀ (ds:List D) (xs:List V),Reps K H O ds xs->Reps K H' O' ds xs
 | [],_,h=>h
 | d :: ds,xs,h=>by
  obtain ⟨v,r,e,q,t⟩:=h
  exact ⟨v,r,e,Rep.grow g d v q,Reps.grow g ds r t⟩
end
mutual
theorem Rep.sub {K:W.Frag} {O O':List Addr} {H:Hp} (g:∀ a ∈ O',a ∈ O):∀ (d:D) (v:V),Rep K H O d v->Rep K H O' d v
 | .non,_,h=>h
 | .bl _,_,h=>h
 | .int _,_,h=>h
 | .str _,_,h=>h
 | .ty _,_,h=>h
 | .cn _,_,h=>h
 | .tup ds,v,h=>by
  obtain ⟨a,xs,e,q,r⟩:=h
  exact ⟨a,xs,e,q,Reps.sub g ds xs r⟩
 | .lst ds,v,h=>by
  obtain ⟨a,xs,e,q,n,r⟩:=h
  exact ⟨a,xs,e,q,fun z=>n (g a z),Reps.sub g ds xs r⟩
 | .scr _,_,h=>h
 | .dz _,_,h=>h
 | .exc _,_,h=>by
  obtain ⟨a,e,q,n⟩:=h
  exact ⟨a,e,q,fun z=>n (g a z)⟩
 | .fd _,_,h=>by
  obtain ⟨a,e,q,n⟩:=h
  exact ⟨a,e,q,fun z=>n (g a z)⟩
 | .dk ks ds,v,h=>by
  obtain ⟨a,xs,e,q,n,l,nd,r⟩:=h
  exact ⟨a,xs,e,q,fun z=>n (g a z),l,nd,Reps.sub g ds xs r⟩
 | .dt ks ds,v,h=>by
  obtain ⟨a,xs,e,q,n,l,nd,r⟩:=h
  exact ⟨a,xs,e,q,fun z=>n (g a z),l,nd,Reps.sub g ds xs r⟩
 | .ob C ns ds,v,h=>by
  obtain ⟨a,dx,xs,e,q,n,l,nd,r⟩:=h
  exact ⟨a,dx,xs,e,q,fun z=>n (g a z),l,nd,Reps.sub g ds xs r⟩
theorem Reps.sub {K:W.Frag} {O O':List Addr} {H:Hp} (g:∀ a ∈ O',a ∈ O):∀ (ds:List D) (xs:List V),Reps K H O ds xs->Reps K H O' ds xs
 | [],_,h=>h
 | d :: ds,xs,h=>by
  obtain ⟨v,r,e,q,t⟩:=h
  exact ⟨v,r,e,Rep.sub g d v q,Reps.sub g ds r t⟩
end
mutual
noncomputable def ym:D->Prop
 | .tup ds=>y7 ds
 | .lst _=>False
 | .dk _ _=>False
 | .dt _ _=>False
 | .ob _ _ _=>False
 | .scr _=>True
 | .dz _=>True
 | .exc _=>False
 | .fd _=>False
 | .non=>True
 | .bl _=>True
 | .int _=>True
 | .str _=>True
 | .ty _=>True
 | .cn _=>True
noncomputable def y7:List D->Prop
 | []=>True
 | d :: ds=>ym d /\ y7 ds
end
theorem zr:∀ {ds:List D},y7 ds ↔ ∀ d ∈ ds,ym d
 | []=>by simp [y7]
 | d :: ds=>by
  rw [y7,zr]
  simp
mutual
theorem Rep.pure {K:W.Frag} {O O':List Addr} {H:Hp}:∀ (d:D) (v:V),ym d->Rep K H O d v->Rep K H O' d v
 | .non,_,_,h=>h
 | .bl _,_,_,h=>h
 | .int _,_,_,h=>h
 | .str _,_,_,h=>h
 | .ty _,_,_,h=>h
 | .cn _,_,_,h=>h
 | .tup ds,v,p,h=>by
  obtain ⟨a,xs,e,q,r⟩:=h
  exact ⟨a,xs,e,q,Reps.pure ds xs p r⟩
 | .scr _,_,_,h=>h
 | .dz _,_,_,h=>h
 | .exc _,_,p,_=>p.elim
 | .fd _,_,p,_=>p.elim
 | .lst ds,v,p,h=>p.elim
 | .dk ks ds,v,p,h=>p.elim
 | .dt ks ds,v,p,h=>p.elim
 | .ob C ns ds,v,p,h=>p.elim
theorem Reps.pure {K:W.Frag} {O O':List Addr} {H:Hp}:∀ (ds:List D) (xs:List V),y7 ds->Reps K H O ds xs->Reps K H O' ds xs
 | [],_,_,h=>h
 | d :: ds,xs,p,h=>by
  obtain ⟨v,r,e,q,t⟩:=h
  exact ⟨v,r,e,Rep.pure d v p.1 q,Reps.pure ds r p.2 t⟩
end
mutual
noncomputable def RepN (K:W.Frag) (H:Hp) (P:Addr->Prop):D->V->Prop
 | .non,v=>v=.non
 | .bl b,v=>v=.bl b
 | .int i,v=>v=.int i
 | .str x,v=>v=.str x
 | .ty n,v=>v=.ty n
 | .cn c,v=>CRep K c v
 | .tup ds,v=>∃ a xs,v=.ref a /\ SqR K H a xs /\ yn K H P ds xs
 | .lst ds,v=>∃ a xs,v=.ref a /\ H a=some (.lst xs) /\ P a /\ yn K H P ds xs
 | .scr ns,v=>∃ a,v=.ref a /\ Scr K H a ns
 | .dz rs,v=>∃ a,v=.ref a /\ Dz H a rs
 | .exc C,v=>∃ a,v=.ref a /\ H a=some (ExcO a C) /\ P a
 | .fd m,v=>∃ a,v=.ref a /\ H a=some (Ht a m) /\ P a
 | .dk ks ds,v=>∃ a xs,v=.ref a /\ H a=some (.dK (ks.zip xs)) /\ P a /\ ks.length=ds.length /\ ks.Nodup /\ yn K H P ds xs
 | .dt ks ds,v=>∃ a xs,v=.ref a /\ H a=some (.dT (ks.zip xs)) /\ P a /\ ks.length=ds.length /\ ks.Nodup /\ yn K H P ds xs
 | .ob C ns ds,v=>∃ a dx xs,v=.ref a /\ H a=some (.ins C dx (ns.zip xs)) /\ P a /\ ns.length=ds.length /\ ns.Nodup /\ yn K H P ds xs
noncomputable def yn (K:W.Frag) (H:Hp) (P:Addr->Prop):List D->List V->Prop
 | [],xs=>xs=[]
 | d :: ds,xs=>∃ v r,xs=v :: r /\ RepN K H P d v /\ yn K H P ds r
end
mutual
theorem RepN.to {K:W.Frag} {P P':Addr->Prop} {H H':Hp} (s:Same H H') (g:∀ a,P a->P' a):∀ (d:D) (v:V),RepN K H P d v->RepN K H' P' d v
 | .non,_,h=>h
 | .bl _,_,h=>h
 | .int _,_,h=>h
 | .str _,_,h=>h
 | .ty _,_,h=>h
 | .cn _,_,h=>h
 | .tup ds,v,h=>by
  obtain ⟨a,xs,e,q,r⟩:=h
  exact ⟨a,xs,e,X4 (Grow.same (O:=[]) s) q,yn.to s g ds xs r⟩
 | .lst ds,v,h=>by
  obtain ⟨a,xs,e,q,n,r⟩:=h
  exact ⟨a,xs,e,s _ _ q,g a n,yn.to s g ds xs r⟩
 | .scr ns,v,h=>by
  obtain ⟨a,e,q⟩:=h
  exact ⟨a,e,ra (Grow.same (O:=[]) s) q⟩
 | .dz rs,v,h=>by
  obtain ⟨a,e,q⟩:=h
  exact ⟨a,e,Tj (Grow.same (O:=[]) s) q⟩
 | .exc C,v,h=>by
  obtain ⟨a,e,q,n⟩:=h
  exact ⟨a,e,s _ _ q,g a n⟩
 | .fd m,v,h=>by
  obtain ⟨a,e,q,n⟩:=h
  exact ⟨a,e,s _ _ q,g a n⟩
 | .dk ks ds,v,h=>by
  obtain ⟨a,xs,e,q,n,l,nd,r⟩:=h
  exact ⟨a,xs,e,s _ _ q,g a n,l,nd,yn.to s g ds xs r⟩
 | .dt ks ds,v,h=>by
  obtain ⟨a,xs,e,q,n,l,nd,r⟩:=h
  exact ⟨a,xs,e,s _ _ q,g a n,l,nd,yn.to s g ds xs r⟩
 | .ob C ns ds,v,h=>by
  obtain ⟨a,dx,xs,e,q,n,l,nd,r⟩:=h
  exact ⟨a,dx,xs,e,s _ _ q,g a n,l,nd,yn.to s g ds xs r⟩
theorem yn.to {K:W.Frag} {P P':Addr->Prop} {H H':Hp} (s:Same H H') (g:∀ a,P a->P' a):∀ (ds:List D) (xs:List V),yn K H P ds xs->yn K H' P' ds xs
 | [],_,h=>h
 | d :: ds,xs,h=>by
  obtain ⟨v,r,e,q,t⟩:=h
  exact ⟨v,r,e,RepN.to s g d v q,yn.to s g ds r t⟩
end
mutual
theorem RepN.rep {K:W.Frag} {P:Addr->Prop} {H:Hp} {O:List Addr} (g:∀ a,P a->a ∉ O):∀ (d:D) (v:V),RepN K H P d v->Rep K H O d v
 | .non,_,h=>h
 | .bl _,_,h=>h
 | .int _,_,h=>h
 | .str _,_,h=>h
 | .ty _,_,h=>h
 | .cn _,_,h=>h
 | .tup ds,v,h=>by
  obtain ⟨a,xs,e,q,r⟩:=h
  exact ⟨a,xs,e,q,yn.reps g ds xs r⟩
 | .lst ds,v,h=>by
  obtain ⟨a,xs,e,q,n,r⟩:=h
  exact ⟨a,xs,e,q,g a n,yn.reps g ds xs r⟩
 | .scr _,_,h=>h
 | .dz _,_,h=>h
 | .exc C,v,h=>by
  obtain ⟨a,e,q,n⟩:=h
  exact ⟨a,e,q,g a n⟩
 | .fd m,v,h=>by
  obtain ⟨a,e,q,n⟩:=h
  exact ⟨a,e,q,g a n⟩
 | .dk ks ds,v,h=>by
  obtain ⟨a,xs,e,q,n,l,nd,r⟩:=h
  exact ⟨a,xs,e,q,g a n,l,nd,yn.reps g ds xs r⟩
 | .dt ks ds,v,h=>by
  obtain ⟨a,xs,e,q,n,l,nd,r⟩:=h
  exact ⟨a,xs,e,q,g a n,l,nd,yn.reps g ds xs r⟩
 | .ob C ns ds,v,h=>by
  obtain ⟨a,dx,xs,e,q,n,l,nd,r⟩:=h
  exact ⟨a,dx,xs,e,q,g a n,l,nd,yn.reps g ds xs r⟩
theorem yn.reps {K:W.Frag} {P:Addr->Prop} {H:Hp} {O:List Addr} (g:∀ a,P a->a ∉ O):∀ (ds:List D) (xs:List V),yn K H P ds xs->Reps K H O ds xs
 | [],_,h=>h
 | d :: ds,xs,h=>by
  obtain ⟨v,r,e,q,t⟩:=h
  exact ⟨v,r,e,RepN.rep g d v q,yn.reps g ds r t⟩
end
mutual
theorem Rep.toN {K:W.Frag} {P:Addr->Prop} {O:List Addr} {H:Hp}:∀ (d:D) (v:V),ym d->Rep K H O d v->RepN K H P d v
 | .non,_,_,h=>h
 | .bl _,_,_,h=>h
 | .int _,_,_,h=>h
 | .str _,_,_,h=>h
 | .ty _,_,_,h=>h
 | .cn _,_,_,h=>h
 | .tup ds,v,p,h=>by
  obtain ⟨a,xs,e,q,r⟩:=h
  exact ⟨a,xs,e,q,Reps.toN ds xs p r⟩
 | .scr _,_,_,h=>h
 | .dz _,_,_,h=>h
 | .exc _,_,p,_=>p.elim
 | .fd _,_,p,_=>p.elim
 | .lst ds,v,p,h=>p.elim
 | .dk ks ds,v,p,h=>p.elim
 | .dt ks ds,v,p,h=>p.elim
 | .ob C ns ds,v,p,h=>p.elim
theorem Reps.toN {K:W.Frag} {P:Addr->Prop} {O:List Addr} {H:Hp}:∀ (ds:List D) (xs:List V),y7 ds->Reps K H O ds xs->yn K H P ds xs
 | [],_,_,h=>h
 | d :: ds,xs,p,h=>by
  obtain ⟨v,r,e,q,t⟩:=h
  exact ⟨v,r,e,Rep.toN d v p.1 q,Reps.toN ds r p.2 t⟩
end
theorem yn.append {K:W.Frag} {P:Addr->Prop} {H:Hp}:∀ {ds es:List D} {xs ys:List V},yn K H P ds xs->yn K H P es ys->yn K H P (ds ++ es) (xs ++ ys)
 | [],es,xs,ys,h,h'=>by cases h; exact h'
 | d :: ds,es,xs,ys,h,h'=>by
  obtain ⟨v,r,rfl,q,t⟩:=h
  exact ⟨v,r ++ ys,rfl,q,yn.append t h'⟩
theorem yn.length {K:W.Frag} {P:Addr->Prop} {H:Hp} {ds:List D} {xs:List V} (h:yn K H P ds xs):xs.length=ds.length:=by
 induction ds generalizing xs with
 | nil=>cases (show xs=[] from h); rfl
 | cons d ds ih =>
  obtain ⟨v,r,rfl,_,t⟩:=h
  simp [ih t]
section
variable {K:W.Frag} {H:Hp} {O:List Addr}
theorem Reps.length:∀ {ds:List D} {xs:List V},Reps K H O ds xs->xs.length=ds.length
 | [],_,h=>by cases h; rfl
 | d :: ds,xs,h=>by
  obtain ⟨v,r,e,_,t⟩:=h
  subst e
  simp [Reps.length t]
theorem Reps.get:∀ {ds:List D} {xs:List V} {i:Nat} {d:D},Reps K H O ds xs->ds[i]?=some d->∃ v,xs[i]?=some v /\ Rep K H O d v
 | [],_,_,_,_,e=>by simp at e
 | d :: ds,xs,0,d',h,e=>by
  obtain ⟨v,r,rfl,q,_⟩:=h
  simp at e
  subst e
  exact ⟨v,rfl,q⟩
 | d :: ds,xs,i + 1,d',h,e=>by
  obtain ⟨v,r,rfl,_,t⟩:=h
  obtain ⟨v',e',q'⟩:=Reps.get (i:=i) t (by simpa using e)
  exact ⟨v',by simpa using e',q'⟩
theorem Reps.append:∀ {ds es:List D} {xs ys:List V},Reps K H O ds xs->Reps K H O es ys->Reps K H O (ds ++ es) (xs ++ ys)
 | [],es,xs,ys,h,h'=>by cases h; exact h'
 | d :: ds,es,xs,ys,h,h'=>by
  obtain ⟨v,r,rfl,q,t⟩:=h
  exact ⟨v,r ++ ys,rfl,q,Reps.append t h'⟩
theorem Reps.one {d:D} {v:V} (h:Rep K H O d v):Reps K H O [d] [v]:=⟨v,[],rfl,h,rfl⟩
theorem Reps.take:∀ {ds:List D} {xs:List V} (n:Nat),Reps K H O ds xs->Reps K H O (ds.take n) (xs.take n)
 | _,_,0,_=>rfl
 | [],_,n + 1,h=>by cases h; rfl
 | d :: ds,xs,n + 1,h=>by
  obtain ⟨v,r,rfl,q,t⟩:=h
  exact ⟨v,r.take n,rfl,q,Reps.take n t⟩
theorem Reps.drop:∀ {ds:List D} {xs:List V} (n:Nat),Reps K H O ds xs->Reps K H O (ds.drop n) (xs.drop n)
 | _,_,0,h=>h
 | [],_,n + 1,h=>by cases h; rfl
 | d :: ds,xs,n + 1,h=>by
  obtain ⟨v,r,rfl,q,t⟩:=h
  exact Reps.drop n t
theorem Reps.set:∀ {ds:List D} {xs:List V} (n:Nat) {d:D} {v:V},Rep K H O d v->Reps K H O ds xs->Reps K H O (ds.set n d) (xs.set n v)
 | [],_,_,_,_,_,h=>by cases h; rfl
 | d :: ds,xs,0,d',v',q',h=>by
  obtain ⟨v,r,rfl,q,t⟩:=h
  exact ⟨v',r,rfl,q',t⟩
 | d :: ds,xs,n + 1,d',v',q',h=>by
  obtain ⟨v,r,rfl,q,t⟩:=h
  exact ⟨v,r.set n v',rfl,q,Reps.set n q' t⟩
theorem Reps.ints:∀ (ns:List Int),Reps K H O (ns.map D.int) (ns.map V.int)
 | []=>rfl
 | n :: ns=>⟨_,_,rfl,rfl,Reps.ints ns⟩
theorem Reps.dropLast {ds:List D} {xs:List V} (h:Reps K H O ds xs):Reps K H O ds.dropLast xs.dropLast:=by
 rw [List.dropLast_eq_take,List.dropLast_eq_take,h.length]
 exact h.take _
theorem Reps.rep {ds:List D} {xs:List V} (h:Reps K H O ds xs):∀ k:Nat,Reps K H O (List.replicate k ds).flatten (List.replicate k xs).flatten
 | 0=>rfl
 | k + 1=>by
  rw [List.replicate_succ,List.replicate_succ,List.flatten_cons,List.flatten_cons]
  exact h.append (Reps.rep h k)
end
noncomputable def View (K:W.Frag) (H:Hp) (O:List Addr) (d:D) (v:V):Prop:=match d with
 | .lst ds=>∃ a xs,v=.ref a /\ H a=some (.lst xs) /\ Reps K H O ds xs
 | .dk ks ds=>∃ a xs,v=.ref a /\ H a=some (.dK (ks.zip xs)) /\ ks.length=ds.length /\ ks.Nodup /\ Reps K H O ds xs
 | .dt ks ds=>∃ a xs,v=.ref a /\ H a=some (.dT (ks.zip xs)) /\ ks.length=ds.length /\ ks.Nodup /\ Reps K H O ds xs
 | d=>Rep K H O d v
noncomputable def Con (K:W.Frag) (H:Hp) (O:List Addr) (d:D) (a:Addr):Prop:=match d with
 | .lst ds=>∃ xs,H a=some (.lst xs) /\ Reps K H O ds xs
 | .dk ks ds=>∃ xs,H a=some (.dK (ks.zip xs)) /\ ks.length=ds.length /\ ks.Nodup /\ Reps K H O ds xs
 | .dt ks ds=>∃ xs,H a=some (.dT (ks.zip xs)) /\ ks.length=ds.length /\ ks.Nodup /\ Reps K H O ds xs
 | _=>False
theorem Rep.view {K:W.Frag} {H:Hp} {O:List Addr} {d:D} {v:V} (h:Rep K H O d v):View K H O d v:=by
 cases d with
 | lst ds=>obtain ⟨a,xs,e,q,_,r⟩:=h; exact ⟨a,xs,e,q,r⟩
 | dk ks ds=>obtain ⟨a,xs,e,q,_,r⟩:=h; exact ⟨a,xs,e,q,r⟩
 | dt ks ds=>obtain ⟨a,xs,e,q,_,r⟩:=h; exact ⟨a,xs,e,q,r⟩
 | _=>exact h
theorem Con.view {K:W.Frag} {H:Hp} {O:List Addr} {d:D} {a:Addr} (h:Con K H O d a):View K H O d (.ref a):=by
 cases d with
 | lst ds=>obtain ⟨xs,q,r⟩:=h; exact ⟨a,xs,rfl,q,r⟩
 | dk ks ds=>obtain ⟨xs,q,r⟩:=h; exact ⟨a,xs,rfl,q,r⟩
 | dt ks ds=>obtain ⟨xs,q,r⟩:=h; exact ⟨a,xs,rfl,q,r⟩
 | _=>exact h.elim
theorem Con.rep {K:W.Frag} {H:Hp} {O:List Addr} {d:D} {a:Addr} (h:Con K H O d a) (n:a ∉ O):Rep K H O d (.ref a):=by
 cases d with
 | lst ds=>obtain ⟨xs,q,r⟩:=h; exact ⟨a,xs,rfl,q,n,r⟩
 | dk ks ds=>obtain ⟨xs,q,r⟩:=h; exact ⟨a,xs,rfl,q,n,r⟩
 | dt ks ds=>obtain ⟨xs,q,r⟩:=h; exact ⟨a,xs,rfl,q,n,r⟩
 | _=>exact h.elim
theorem Con.same {K:W.Frag} {H H':Hp} {O:List Addr} {d:D} {a:Addr} (h:Con K H O d a) (s:Same H H'):Con K H' O d a:=by
 cases d with
 | lst ds=>obtain ⟨xs,q,r⟩:=h; exact ⟨xs,s _ _ q,Reps.grow (Grow.same s) _ _ r⟩
 | dk ks ds=>obtain ⟨xs,q,l,n,r⟩:=h; exact ⟨xs,s _ _ q,l,n,Reps.grow (Grow.same s) _ _ r⟩
 | dt ks ds=>obtain ⟨xs,q,l,n,r⟩:=h; exact ⟨xs,s _ _ q,l,n,Reps.grow (Grow.same s) _ _ r⟩
 | _=>exact h.elim
theorem Con.sub {K:W.Frag} {H:Hp} {O O':List Addr} {d:D} {a:Addr} (h:Con K H O d a) (g:∀ a ∈ O',a ∈ O):Con K H O' d a:=by
 cases d with
 | lst ds=>obtain ⟨xs,q,r⟩:=h; exact ⟨xs,q,Reps.sub g _ _ r⟩
 | dk ks ds=>obtain ⟨xs,q,l,n,r⟩:=h; exact ⟨xs,q,l,n,Reps.sub g _ _ r⟩
 | dt ks ds=>obtain ⟨xs,q,l,n,r⟩:=h; exact ⟨xs,q,l,n,Reps.sub g _ _ r⟩
 | _=>exact h.elim
theorem View.sub {K:W.Frag} {H:Hp} {O O':List Addr} {d:D} {v:V} (h:View K H O d v) (g:∀ a ∈ O',a ∈ O):View K H O' d v:=by
 cases d with
 | lst ds=>obtain ⟨a,xs,e,q,r⟩:=h; exact ⟨a,xs,e,q,Reps.sub g _ _ r⟩
 | dk ks ds=>obtain ⟨a,xs,e,q,l,n,r⟩:=h; exact ⟨a,xs,e,q,l,n,Reps.sub g _ _ r⟩
 | dt ks ds=>obtain ⟨a,xs,e,q,l,n,r⟩:=h; exact ⟨a,xs,e,q,l,n,Reps.sub g _ _ r⟩
 | _=>exact Rep.sub g _ _ h
theorem View.rep0 {K:W.Frag} {H:Hp} {O:List Addr} {d:D} {v:V} (h:View K H O d v):Rep K H [] d v:=by
 have h:=h.sub (O':=[]) (fun _ z=>nomatch z)
 cases d with
 | lst ds=>obtain ⟨a,xs,e,q,r⟩:=h; exact ⟨a,xs,e,q,by simp,r⟩
 | dk ks ds=>obtain ⟨a,xs,e,q,l,n,r⟩:=h; exact ⟨a,xs,e,q,by simp,l,n,r⟩
 | dt ks ds=>obtain ⟨a,xs,e,q,l,n,r⟩:=h; exact ⟨a,xs,e,q,by simp,l,n,r⟩
 | _=>exact h
inductive Kd where | val | own | fre | new
 deriving DecidableEq
structure EV where
 k:Kd
 d:D
noncomputable abbrev DE:=List (Option EV)
noncomputable abbrev dv (d:D):EV:=⟨.val,d⟩
noncomputable abbrev df (d:D):EV:=⟨.fre,d⟩
noncomputable abbrev dO (d:D):EV:=⟨.own,d⟩
noncomputable def RV (K:W.Frag) (H0 H:Hp) (O:List Addr) (r:EV) (v:V):Prop:=match r.k with
 | .val=>Rep K H O r.d v
 | .own=>∃ a,v=.ref a /\ a ∈ O /\ Con K H O r.d a
 | .fre=>∃ a,v=.ref a /\ H0 a=none /\ a ∉ O /\ Con K H (a :: O) r.d a
 | .new=>RepN K H (fun a=>a ∉ O /\ H0 a=none) r.d v
section
variable {K:W.Frag} {H0 H1 H H':Hp} {O:List Addr} {r:EV} {v:V}
theorem RV.val {d:D} (h:Rep K H O d v):RV K H0 H O (dv d) v:=h
theorem RV.same (h:RV K H0 H O r v) (s:Same H H'):RV K H0 H' O r v:=by
 obtain ⟨k,d⟩:=r
 cases k with
 | val=>exact Rep.grow (Grow.same s) _ _ h
 | own=>obtain ⟨a,e,m,c⟩:=h; exact ⟨a,e,m,c.same s⟩
 | fre=>obtain ⟨a,e,m,n,c⟩:=h; exact ⟨a,e,m,n,c.same s⟩
 | new=>exact RepN.to s (fun _ z=>z) _ _ h
theorem RV.start (h:RV K H0 H O r v) (s:Same H1 H0):RV K H1 H O r v:=by
 obtain ⟨k,d⟩:=r
 cases k with
 | val=>exact h
 | own=>exact h
 | fre=>obtain ⟨a,e,m,n,c⟩:=h; exact ⟨a,e,s.free m,n,c⟩
 | new=>exact RepN.to (Same.refl H) (fun a z=>⟨z.1,s.free z.2⟩) _ _ h
theorem RV.view (h:RV K H0 H O r v):View K H O r.d v:=by
 obtain ⟨k,d⟩:=r
 cases k with
 | val=>exact Rep.view h
 | own=>obtain ⟨a,e,m,c⟩:=h; subst e; exact c.view
 | fre=>obtain ⟨a,e,m,n,c⟩:=h; subst e; exact (c.sub fun b hb=>List.mem_cons_of_mem _ hb).view
 | new=>exact (RepN.rep (fun a z=>z.1) _ _ h).view
theorem RV.solid (h:RV K H0 H O r v) (hk:r.k ≠ .own):Rep K H O r.d v:=by
 obtain ⟨k,d⟩:=r
 cases k with
 | val=>exact h
 | own=>exact absurd rfl hk
 | fre=>obtain ⟨a,e,m,n,c⟩:=h; subst e; exact (c.sub fun b hb=>List.mem_cons_of_mem _ hb).rep n
 | new=>exact RepN.rep (fun a z=>z.1) _ _ h
end
structure REnv (K:W.Frag) (H₀ H:Hp) (σ:St) (ρ:DE) (o:List (Nat × Addr)):Prop where
 same:Same H₀ H
 fresh:∀ p ∈ o,H₀ p.2=none
 trk:∀ p ∈ o,∃ u,H p.2=some u
 mtb:∀ p ∈ o,(∀ xs,H p.2 ≠ some (.tup xs)) /\ ∀ ob u,H p.2 ≠ some (.frz ob u)
 nda:(o.map Prod.snd).Nodup
 slots:∀ i r,ρ[i]?=some (some r)->∃ v,σ[i]?=some (some v) /\ ((r.k=.val /\ Rep K H (o.map Prod.snd) r.d v) \/ (r.k=.own /\ ∃ a,v=.ref a /\ (i,a) ∈ o /\ Con K H (o.map Prod.snd) r.d a))
 len:σ.length=ρ.length
section
variable {K:W.Frag} {H₀ H H':Hp} {σ:St} {ρ:DE} {o:List (Nat × Addr)}
theorem REnv.to (R:REnv K H₀ H σ ρ o) (s:Same H H'):REnv K H₀ H' σ ρ o where
 same:=R.same.trans s
 fresh:=R.fresh
 trk:=fun p hp=>let ⟨u,e⟩:=R.trk p hp; ⟨u,s _ _ e⟩
 mtb:=fun p hp=>by
  obtain ⟨u,e⟩:=R.trk p hp
  obtain ⟨m1,m2⟩:=R.mtb p hp
  refine ⟨fun xs z=>?_,fun ob w z=>?_⟩
  ·rw [s _ _ e] at z; rw [<- e] at z; exact m1 xs z
  ·rw [s _ _ e] at z; rw [<- e] at z; exact m2 ob w z
 nda:=R.nda
 slots:=fun i r e=>by
  obtain ⟨v,ev,h⟩:=R.slots i r e
  refine ⟨v,ev,?_⟩
  rcases h with ⟨k,h⟩ | ⟨k,a,e1,m,c⟩
  ·exact .inl ⟨k,Rep.grow (Grow.same s) _ _ h⟩
  ·exact .inr ⟨k,a,e1,m,c.same s⟩
 len:=R.len
theorem REnv.ofree (R:REnv K H₀ H σ ρ o) {a:Addr} (h:H a=none):a ∉ o.map Prod.snd:=fun z=>by
 obtain ⟨p,hp,e⟩:=List.mem_map.mp z
 obtain ⟨u,q⟩:=R.trk p hp
 rw [e,h] at q
 cases q
end
noncomputable abbrev TD:=DE->(EV->Prop)->Prop
noncomputable abbrev TDb:=DE->(Bool->Prop)->Prop
noncomputable abbrev TDs:=DE->(List EV->Prop)->Prop
structure DZ where
 nx:DE->Prop
 rt:EV->Prop
 bk:DE->Prop:=fun _=>False
 ct:DE->Prop:=fun _=>False
noncomputable abbrev TDS:=DE->DZ->Prop
noncomputable def RVs (K:W.Frag) (H0 H:Hp) (O:List Addr):List EV->List V->Prop
 | [],vs=>vs=[]
 | r :: rs,vs=>∃ v ws,vs=v :: ws /\ RV K H0 H O r v /\ RVs K H0 H O rs ws
theorem RVs.start {K:W.Frag} {H0 H1 H:Hp} {O:List Addr} (s:Same H1 H0):∀ {rs:List EV} {vs:List V},RVs K H0 H O rs vs->RVs K H1 H O rs vs
 | [],_,h=>h
 | r :: rs,vs,h=>by
  obtain ⟨v,ws,e,q,t⟩:=h
  exact ⟨v,ws,e,q.start s,t.start s⟩
theorem RVs.reps {K:W.Frag} {H0 H:Hp} {O:List Addr}:∀ {rs:List EV} {vs:List V},RVs K H0 H O rs vs->(∀ r ∈ rs,r.k ≠ .own)->Reps K H O (rs.map EV.d) vs
 | [],_,h,_=>h
 | r :: rs,vs,h,n=>by
  obtain ⟨v,ws,e,q,t⟩:=h
  exact ⟨v,ws,e,q.solid (n r (List.mem_cons_self ..)),t.reps fun r' h'=>n r' (List.mem_cons_of_mem _ h')⟩
theorem RVs.reps0 {K:W.Frag} {H0 H:Hp} {O:List Addr}:∀ {rs:List EV} {vs:List V},RVs K H0 H O rs vs->Reps K H [] (rs.map EV.d) vs
 | [],_,h=>h
 | r :: rs,vs,h=>by
  obtain ⟨v,ws,e,q,t⟩:=h
  exact ⟨v,ws,e,q.view.rep0,t.reps0⟩
noncomputable def vo (K:W.Frag) (H₀:Hp) (t:TD):TE:=fun σ H Q=>∃ ρ o,REnv K H₀ H σ ρ o /\ ∃ φ,t ρ φ /\ ∀ v r H',Same H H'->RV K H H' (o.map Prod.snd) r v->φ r->Q v H'
noncomputable def bh (K:W.Frag) (H₀:Hp) (t:TDb):TT:=fun σ H Q=>∃ ρ o,REnv K H₀ H σ ρ o /\ ∃ φ,t ρ φ /\ ∀ b H',Same H H'->φ b->Q b H'
noncomputable def Ng (K:W.Frag) (H₀:Hp) (t:TDs):TA:=fun σ H Q=>∃ ρ o,REnv K H₀ H σ ρ o /\ ∃ φ,t ρ φ /\ ∀ vs rs H',Same H H'->RVs K H H' (o.map Prod.snd) rs vs->φ rs->Q vs H'
noncomputable def Y6 (K:W.Frag) (H₀:Hp) (t:TDS):TS:=fun D σ H=>∃ ρ o,REnv K H₀ H σ ρ o /\ ∃ Z,t ρ Z /\
 (∀ ρ' σ' H' o',Grow (o.map Prod.snd) (o'.map Prod.snd) H H'->REnv K H₀ H' σ' ρ' o'->Z.nx ρ'->D.nx σ' H') /\
 (∀ ρ' σ' H' o',Grow (o.map Prod.snd) (o'.map Prod.snd) H H'->REnv K H₀ H' σ' ρ' o'->Z.bk ρ'->D.bk σ' H') /\
 (∀ ρ' σ' H' o',Grow (o.map Prod.snd) (o'.map Prod.snd) H H'->REnv K H₀ H' σ' ρ' o'->Z.ct ρ'->D.ct σ' H') /\
 (∀ v r H',Same H₀ H'->RV K H₀ H' [] r v->Z.rt r->D.rt v H')
noncomputable def ED (G:Hp->Prop) (X:Cx) (e:Expr) (t:TD):Prop:=∀ H₀:{H:Hp // G H},PE X e (vo X.K H₀.1 t)
noncomputable def ET (G:Hp->Prop) (X:Cx) (e:Expr) (t:TDb):Prop:=∀ H₀:{H:Hp // G H},PT X e (bh X.K H₀.1 t)
noncomputable def EW (G:Hp->Prop) (X:Cx) (e:Expr) (t:TDb):Prop:=∀ H₀:{H:Hp // G H},PW X e (bh X.K H₀.1 t)
noncomputable def EA (G:Hp->Prop) (X:Cx) (es:List Expr) (t:TDs):Prop:=∀ H₀:{H:Hp // G H},PA X es (Ng X.K H₀.1 t)
noncomputable def SD (G:Hp->Prop) (X:Cx) (st:Stmt) (t:TDS):Prop:=∀ H₀:{H:Hp // G H},PS X st (Y6 X.K H₀.1 t)
noncomputable def SDs (G:Hp->Prop) (X:Cx) (st:List Stmt) (t:TDS):Prop:=∀ H₀:{H:Hp // G H},PSs X st (Y6 X.K H₀.1 t)
theorem impE {X:Cx} {e:Expr} {t t':TE} (h:PE X e t) (i:∀ σ H Q,t' σ H Q->t σ H Q):PE X e t':=fun pn s σ H Q I q=>h pn s σ H Q I (i σ H Q q)
theorem impT {X:Cx} {e:Expr} {t t':TT} (h:PT X e t) (i:∀ σ H Q,t' σ H Q->t σ H Q):PT X e t':=fun pn s σ H Q I q=>h pn s σ H Q I (i σ H Q q)
theorem impW {X:Cx} {e:Expr} {t t':TT} (h:PW X e t) (i:∀ σ H Q,t' σ H Q->t σ H Q):PW X e t':=fun wh pn s σ H Q I q=>h wh pn s σ H Q I (i σ H Q q)
theorem impA {X:Cx} {es:List Expr} {t t':TA} (h:PA X es t) (i:∀ σ H Q,t' σ H Q->t σ H Q):PA X es t':=fun pos pn s σ H Q I q=>h pos pn s σ H Q I (i σ H Q q)
theorem impS {X:Cx} {st:Stmt} {t t':TS} (h:PS X st t) (i:∀ D σ H,t' D σ H->t D σ H):PS X st t':=fun pn s σ H D I q=>h pn s σ H D I (i D σ H q)
theorem fq {X:Cx} {st:List Stmt} {t t':TS} (h:PSs X st t) (i:∀ D σ H,t' D σ H->t D σ H):PSs X st t':=fun pn s σ H D I q=>h pn s σ H D I (i D σ H q)
end DL
namespace DL
open PySem PySem.Spec L2 L3
open PyProof.Rows hiding St
variable {Γ:Hp->Prop}
noncomputable def slot:DE->Nat->Option EV
 | [],_=>none
 | x :: _,0=>x
 | _ :: r,i + 1=>slot r i
theorem yw:∀ {ρ:DE} {i:Nat} {r:EV},slot ρ i=some r->ρ[i]?=some (some r)
 | [],_,_,h=>by cases h
 | x :: _,0,_,h=>by cases h; rfl
 | _ :: l,i + 1,r,h=>by rw [List.getElem?_cons_succ]; exact yw (ρ:=l) h
noncomputable def tj (i:Nat):TD:=fun ρ φ=>match slot ρ i with
 | some r=>φ r
 | none=>False
noncomputable def dC (d:D):TD:=fun _ φ=>φ (dv d)
section
variable {X:Cx} {a b c e:Expr} {ta tb tc te:TD} {pos:Pos}
theorem za (i:Nat) {x:Str} (hN:X.N[i]?=some x:=by rfl) (hv:Vis X.env.scope x:=by first | exact Or.inl rfl | exact Or.inr (Or.inl rfl) | exact Or.inr (Or.inr rfl)) (hd:(x == ("__debug__" : Str))=false:=by decide)
  (hcd:(x == ("__classdict__" : Str))=false:=by decide):ED Γ X (.Name x pos) (tj i):=fun H₀=>impE (vf hN hv hd hcd) fun σ H Q h=>by
 obtain ⟨ρ,o,R,φ,hφ,k⟩:=h
 cases e:slot ρ i with
 | none =>
  simp only [tj,e] at hφ
 | some r =>
  simp only [tj,e] at hφ
  obtain ⟨v,ev,h⟩:=R.slots i r (yw e)
  refine ⟨v,ev,k v r H (Same.refl H) ?_ hφ⟩
  obtain ⟨kd,d⟩:=r
  rcases h with ⟨rfl,h⟩ | ⟨rfl,a,e1,m,c⟩
  ·exact h
  ·exact ⟨a,e1,List.mem_map.mpr ⟨_,m,rfl⟩,c⟩
theorem ed_c {x:Expr} {v:V} {d:D} (h:PE X x (tC v)) (hr:∀ H O,Rep X.K H O d v):ED Γ X x (dC d):=fun H₀=>impE h fun σ H Q h=>by
 obtain ⟨ρ,o,R,φ,hφ,k⟩:=h
 exact k v (dv d) H (Same.refl H) (hr H _) hφ
theorem zc {i:Int} {j pos}:ED Γ X (.Constant (.int i) j pos) (dC (.int i)):=ed_c Kh fun _ _=>rfl
theorem xh {b:Bool} {j pos}:ED Γ X (.Constant (.bool b) j pos) (dC (.bl b)):=ed_c Ge fun _ _=>rfl
theorem yy {j pos}:ED Γ X (.Constant .none j pos) (dC .non):=ed_c Kg fun _ _=>rfl
theorem zo {x:Str} {j pos}:ED Γ X (.Constant (.str x) j pos) (dC (.str x)):=ed_c Kb fun _ _=>rfl
structure GC (K:W.Frag) (mg:Str->Option Value) (x:Str) (d:D):Prop where
 ex:∃ u v,mg x=some u /\ RelV v u /\ ∀ H O,Rep K H O d v
theorem M4 {x:Str} {d:D} (G:GC X.K X.mg x d) (hg:Gl X x:=by rfl) (hd:(x == ("__debug__" : Str))=false:=by decide):ED Γ X (.Name x pos) (dC d):=by
 obtain ⟨u,v,hm,r,h⟩:=G.ex
 exact ed_c (Ow hg hm r hd) h
theorem Wy {x:Str} {n:String} (hm:X.mg x=none) (hv:bootBuiltins x=some (.type n)) (hg:Gl X x:=by rfl) (hn:x ≠ "__name__":=by decide) (hd:(x == ("__debug__" : Str))=false:=by decide):ED Γ X (.Name x pos) (dC (.ty n)) :=
 ed_c (Oz hg hm hv (v:=.ty n) rfl hn hd) fun _ _=>rfl
noncomputable def tm (K:W.Frag) (rr:R2) (s:D->D->(EV->Prop)->Prop):Prop :=
 ∀ (H:Hp) (O:List Addr) (x y:D) (vx vy:V) (φ:EV->Prop) (Q:VK),(∀ a,H a=none->a ∉ O)->View K H O x vx->View K H O y vy->s x y φ ->
  (∀ v r H',Same H H'->RV K H H' O r v->φ r->Q v H')->rr vx vy H Q
noncomputable def d2 (s:D->D->(EV->Prop)->Prop) (ta tb:TD):TD:=fun ρ φ=>ta ρ fun x=>tb ρ fun y=>s x.d y.d φ
theorem Rw {rr:R2} {s:D->D->(EV->Prop)->Prop} {H₀:Hp} (hl:tm X.K rr s):∀ σ H Q,vo X.K H₀ (d2 s ta tb) σ H Q->tOp rr (vo X.K H₀ ta) (vo X.K H₀ tb) σ H Q:=fun σ H Q h=>by
 obtain ⟨ρ,o,R,φ,hφ,k⟩:=h
 refine ⟨ρ,o,R,_,hφ,fun v1 r1 H1 s1 rv1 h1=>⟨ρ,o,R.to s1,_,h1,fun v2 r2 H2 s2 rv2 h2=>?_⟩⟩
 exact hl H2 _ r1.d r2.d v1 v2 φ Q (fun a e=>R.ofree ((s1.trans s2).free e)) (rv1.same s2).view rv2.view h2 fun v r H' s3 rv h=>k v r H' (s1.trans (s2.trans s3)) (rv.start (s1.trans s2)) h
theorem jk {op:Operator} {rr:R2} {s:D->D->(EV->Prop)->Prop} (ho:OpR X (binaryOp op) rr) (hl:tm X.K rr s) (ha:ED Γ X a ta) (hb:ED Γ X b tb):ED Γ X (.BinOp a op b pos) (d2 s ta tb):=fun H₀ =>
 impE (Kc ho (ha H₀) (hb H₀)) (Rw hl)
theorem Hk {op:CmpOp} {rr:R2} {s:D->D->(EV->Prop)->Prop} (ho:OpR X (compareOp op) rr) (hl:tm X.K rr s) (ha:ED Γ X a ta) (hb:ED Γ X b tb) (hm:behindInMarks op b=false):ED Γ X (.Compare a [op] [b] pos) (d2 s ta tb):=fun H₀ =>
 impE (Oy ho (ha H₀) (hb H₀) hm) (Rw hl)
theorem N3:OpR X (binaryOp .Mult) (rI IntMulOk fun i j=>.int (i * j)):=opI fun _ _ _ _ _ _ _ hc q=>PyProof.Rows.mul_int q hc
noncomputable def FdOk (i j:Int):Prop:=j ≠ 0 /\ j.natAbs.log2 < 9000
theorem Rj:OpR X (binaryOp .FloorDiv) (rI FdOk fun i j=>.int (i.fdiv j)):=opI fun _ _ _ _ _ _ _ hc q=>floordiv_int hc.1 q (.inl (PyProof.noPylong_of_log2 hc.2))
noncomputable def sI (C:Int->Int->Prop) (g:Int->Int->D):D->D->(EV->Prop)->Prop:=fun x y φ=>match x,y with
 | .int i,.int j=>C i j /\ φ (dv (g i j))
 | _,_=>False
theorem Uc {K:W.Frag} {C:Int->Int->Prop} {g:Int->Int->D} {gv:Int->Int->V} (hg:∀ i j H O,Rep K H O (g i j) (gv i j)):tm K (rI C gv) (sI C g):=by
 intro H O x y vx vy φ Q ho hx hy h k
 unfold sI at h
 split at h
 ·exact ⟨_,_,hx,hy,h.1,k _ _ H (Same.refl H) (by exact hg _ _ H O) h.2⟩
 ·exact h.elim
noncomputable def sI0 (g:Int->Int->D):D->D->(EV->Prop)->Prop:=fun x y φ=>match x,y with
 | .int i,.int j=>φ (dv (g i j))
 | _,_=>False
theorem gq {K:W.Frag} {g:Int->Int->D} {gv:Int->Int->V} (hg:∀ i j H O,Rep K H O (g i j) (gv i j)):tm K (rI0 gv) (sI0 g):=by
 intro H O x y vx vy φ Q ho hx hy h k
 unfold sI0 at h
 split at h
 ·exact ⟨_,_,hx,hy,k _ _ H (Same.refl H) (by exact hg _ _ H O) h⟩
 ·exact h.elim
noncomputable abbrev sSub:=sI0 fun i j=>.int (i - j)
noncomputable abbrev sFd:=sI FdOk fun i j=>.int (i.fdiv j)
noncomputable abbrev sMod:=sI (fun _ j=>j ≠ 0) fun i j=>.int (i.fmod j)
noncomputable abbrev sPow:=sI CPow fun i j=>.int (i ^ j.toNat)
noncomputable abbrev sLt:=sI0 fun i j=>.bl (decide (i < j))
noncomputable abbrev sGt:=sI0 fun i j=>.bl (decide (j < i))
noncomputable abbrev sGe:=sI0 fun i j=>.bl (decide (j <= i))
theorem Po (ha:ED Γ X a ta) (hb:ED Γ X b tb):ED Γ X (.BinOp a .Sub b pos) (d2 sSub ta tb):=jk Kl (gq fun _ _ _ _=>rfl) ha hb
theorem t9 (ha:ED Γ X a ta) (hb:ED Γ X b tb):ED Γ X (.BinOp a .FloorDiv b pos) (d2 sFd ta tb):=jk Rj (Uc fun _ _ _ _=>rfl) ha hb
theorem ye (ha:ED Γ X a ta) (hb:ED Γ X b tb):ED Γ X (.BinOp a .Mod b pos) (d2 sMod ta tb):=jk N4 (Uc fun _ _ _ _=>rfl) ha hb
theorem sf (ha:ED Γ X a ta) (hb:ED Γ X b tb):ED Γ X (.BinOp a .Pow b pos) (d2 sPow ta tb):=jk Kn (Uc fun _ _ _ _=>rfl) ha hb
noncomputable def sAdd:D->D->(EV->Prop)->Prop:=fun x y φ=>match x,y with
 | .int i,.int j=>φ (dv (.int (i + j)))
 | .str p,.str q=>p.length + q.length <= sizeLine /\ φ (dv (.str (p ++ q)))
 | .lst p,.lst q=>p.length + q.length <= sizeLine /\ φ (df (.lst (p ++ q)))
 | .tup p,.tup q=>p ≠ [] /\ q ≠ [] /\ p.length + q.length <= sizeLine /\ φ (dv (.tup (p ++ q)))
 | _,_=>False
theorem zp {H:Hp} {p:Addr} (h:H p=none) (o:HO):Same H (upd H p o):=fun b u q=>by rw [zj (zf q h)]; exact q
theorem Ra {K:W.Frag} {H:Hp} {O:List Addr} {p:Addr} {o:HO} {ds:List D} {xs:List V} (hp:H p=none) (r:Reps K H O ds xs):Reps K (upd H p o) O ds xs:=Reps.grow (Grow.same (zp hp o)) _ _ r
theorem d6 {H:Hp} {O:List Addr} {p:Addr} {o:HO} (hp:H p=none):Grow O (p :: O) H (upd H p o) :=
 ⟨fun b u h n=>⟨zp hp o b u h,fun z=>(List.mem_cons.mp z).elim (fun e=>zf h hp e) n⟩,fun b xs h=>zp hp o b _ h,fun b ob u h=>zp hp o b _ h⟩
theorem tw {K:W.Frag} {H:Hp} {O:List Addr} {p:Addr} {ds:List D} {xs:List V} (ho:∀ a,H a=none->a ∉ O) (hp:H p=none) (r:Reps K H O ds xs):RV K H (upd H p (.lst xs)) O (df (.lst ds)) (.ref p) :=
 ⟨p,rfl,hp,ho p hp,xs,zi,Reps.grow (d6 hp) _ _ r⟩
theorem cu {K:W.Frag} {H:Hp} {O:List Addr} {p:Addr} {ds:List D} {xs:List V} (hp:H p=none) (r:Reps K H O ds xs):RV K H (upd H p (.tup xs)) O (dv (.tup ds)) (.ref p) :=
 ⟨p,xs,rfl,⟨SqT.of zi,zi⟩,Ra hp r⟩
theorem Rv:tm X.K (fun x y H Q=>rI0 (fun i j=>.int (i + j)) x y H Q \/ (∃ i j,x=.str i /\ y=.str j /\ i.length + j.length <= sizeLine /\ Q (.str (i ++ j)) H) \/ rCat x y H Q \/ Lr X.K x y H Q) sAdd:=by
 intro H O x y vx vy φ Q ho hx hy h k
 unfold sAdd at h
 split at h
 ·exact .inl ⟨_,_,hx,hy,k _ _ H (Same.refl H) (by exact rfl) h⟩
 ·exact .inr (.inl ⟨_,_,hx,hy,h.1,k _ _ H (Same.refl H) (by exact rfl) h.2⟩)
 ·obtain ⟨a1,xs,rfl,q1,r1⟩:=hx
  obtain ⟨a2,ys,rfl,q2,r2⟩:=hy
  refine .inr (.inr (.inl ⟨a1,a2,xs,ys,rfl,rfl,q1,q2,by rw [r1.length,r2.length]; exact h.1,fun p hp=>?_⟩))
  exact k _ _ _ (zp hp _) (tw ho hp (r1.append r2)) h.2
 ·obtain ⟨n1,n2,hz,hp⟩:=h
  obtain ⟨a1,xs,rfl,q1,r1⟩:=hx
  obtain ⟨a2,ys,rfl,q2,r2⟩:=hy
  refine .inr (.inr (.inr ⟨a1,a2,xs,ys,rfl,rfl,q1.1,q2.1,?_,by rw [r1.length,r2.length]; exact hz,fun z=>?_,fun _ p hpn=>?_⟩))
  ·intro z
   have e:=r1.length
   rw [z] at e
   exact n1 (List.eq_nil_of_length_eq_zero e.symm)
  ·exfalso
   have e:=r2.length
   rw [z] at e
   exact n2 (List.eq_nil_of_length_eq_zero e.symm)
  ·exact k _ _ _ (zp hpn _) (cu hpn (r1.append r2)) hp
 ·exact h.elim
theorem xl (ha:ED Γ X a ta) (hb:ED Γ X b tb):ED Γ X (.BinOp a .Add b pos) (d2 sAdd ta tb):=jk (Ku.or (Wg.or (Kt.or U0))) Rv ha hb
noncomputable def sMul:D->D->(EV->Prop)->Prop:=fun x y φ=>match x,y with
 | .int i,.int j=>IntMulOk i j /\ φ (dv (.int (i * j)))
 | .lst p,.int k=>-(2 ^ 63) <= k /\ k < 2 ^ 63 /\ p.length * k.toNat <= sizeLine /\ φ (df (.lst (List.replicate k.toNat p).flatten))
 | _,_=>False
end
mutual
noncomputable def eqD:D->D->Bool
 | .non,.non=>true
 | .bl a,.bl b=>a == b
 | .bl a,.int b=>(if a then 1 else 0) == b
 | .int a,.bl b=>a == (if b then 1 else 0)
 | .int a,.int b=>a == b
 | .str a,.str b=>a == b
 | .tup a,.tup b=>eqDs a b
 | .lst a,.lst b=>eqDs a b
 | _,_=>false
noncomputable def eqDs:List D->List D->Bool
 | [],[]=>true
 | a :: as,b :: bs=>eqD a b && eqDs as bs
 | _,_=>false
end
noncomputable def okD:Nat->D->Prop
 | 0,d=>match d with
  | .non=>True
  | .bl _=>True
  | .int _=>True
  | .str _=>True
  | _=>False
 | n + 1,d=>match d with
  | .non=>True
  | .bl _=>True
  | .int _=>True
  | .str _=>True
  | .tup ds=>∀ x ∈ ds,okD n x
  | .lst ds=>∀ x ∈ ds,okD n x
  | _=>False
theorem uo:∀ {ds es:List D},eqDs ds es=true ↔ ds.length=es.length /\ ∀ (j:Nat) (x y:D),ds[j]?=some x->es[j]?=some y->eqD x y=true
 | [],[]=>by simp [eqDs]
 | [],y :: es=>by simp [eqDs]
 | x :: ds,[]=>by simp [eqDs]
 | x :: ds,y :: es=>by
  rw [eqDs,Bool.and_eq_true,uo]
  constructor
  ·rintro ⟨h,hl,q⟩
   refine ⟨by simp [hl],fun j a b ha hb=>?_⟩
   cases j with
   | zero=>simp at ha hb; subst ha hb; exact h
   | succ j=>exact q j a b (by simpa using ha) (by simpa using hb)
  ·rintro ⟨hl,q⟩
   exact ⟨q 0 x y rfl rfl,by simpa using hl,fun j a b ha hb=>q (j + 1) a b (by simpa using ha) (by simpa using hb)⟩
theorem t7 (ds es:List D):eqDs ds es=((List.range (min ds.length es.length)).all (fun j=>eqD (ds.getD j .non) (es.getD j .non)) && ds.length == es.length):=by
 rw [Bool.eq_iff_iff,uo,Bool.and_eq_true,List.all_eq_true]
 constructor
 ·rintro ⟨hl,q⟩
  refine ⟨fun j hj=>?_,by simp [hl]⟩
  have hj':=List.mem_range.mp hj
  have h1:j < ds.length:=by omega
  have h2:j < es.length:=by omega
  have e1:ds[j]?=some ds[j]:=by simp [h1]
  have e2:es[j]?=some es[j]:=by simp [h2]
  have:=q j _ _ e1 e2
  simpa [List.getD,e1,e2] using this
 ·rintro ⟨q,hl⟩
  have hl':ds.length=es.length:=by simpa using hl
  refine ⟨hl',fun j x y hx hy=>?_⟩
  have h1:=(List.getElem?_eq_some_iff.mp hx).1
  have:=q j (List.mem_range.mpr (by omega))
  simpa [List.getD,hx,hy] using this
theorem dq:∀ (n:Nat) (d:D),okD n d->eqD d d=true:=by
 intro n
 induction n with
 | zero=>intro d h; cases d <;> first | exact h.elim | simp [eqD]
 | succ n ih =>
  intro d h
  cases d with
  | tup ds =>
   show eqDs ds ds=true
   refine uo.mpr ⟨rfl,fun j x y hx hy=>?_⟩
   rw [hx] at hy
   cases hy
   exact ih x (h x (List.mem_of_getElem? hx))
  | lst ds =>
   show eqDs ds ds=true
   refine uo.mpr ⟨rfl,fun j x y hx hy=>?_⟩
   rw [hx] at hy
   cases hy
   exact ih x (h x (List.mem_of_getElem? hx))
  | dk _ _=>exact h.elim
  | dt _ _=>exact h.elim
  | ty _=>exact h.elim
  | cn _=>exact h.elim
  | scr _=>exact h.elim
  | dz _=>exact h.elim
  | exc _=>exact h.elim
  | fd _=>exact h.elim
  | ob _ _ _=>exact h.elim
  | _=>simp [eqD]
section
variable {X:Cx} {pn:List (Addr × Obj)} {σ:St} {H:Hp} {s:Shared}
theorem Rep.inj (I:Inv X pn σ H s):∀ (n:Nat) (d e:D) (v:V),okD n d->okD n e->Rep X.K H [] d v->Rep X.K H [] e v->d=e:=by
 intro n
 induction n with
 | zero =>
  intro d e v hd he h1 h2
  cases d <;> first | exact hd.elim | (cases e <;> first | exact he.elim | (have z:=(show v=_ from h1).symm.trans (show v=_ from h2); first | rfl | (injection z with z; rw [z]) | cases z))
 | succ n ih =>
  have lists:∀ (ds es:List D) (xs:List V),(∀ x ∈ ds,okD n x)->(∀ x ∈ es,okD n x)->Reps X.K H [] ds xs->Reps X.K H [] es xs->ds=es:=by
   intro ds
   induction ds with
   | nil =>
    intro es xs _ _ r1 r2
    have:=r1.length
    have h2:=r2.length
    rw [this] at h2
    exact (List.eq_nil_of_length_eq_zero h2.symm).symm
   | cons d ds ih2 =>
    intro es xs h1 h2 r1 r2
    obtain ⟨v,r,rfl,q,t⟩:=r1
    cases es with
    | nil=>cases r2
    | cons e es =>
     obtain ⟨v',r',e1,q',t'⟩:=r2
     cases e1
     rw [ih d e v (h1 d (List.mem_cons_self ..)) (h2 e (List.mem_cons_self ..)) q q',ih2 es r (fun x hx=>h1 x (List.mem_cons_of_mem _ hx)) (fun x hx=>h2 x (List.mem_cons_of_mem _ hx)) t t']
  intro d e v hd he h1 h2
  have noTL:∀ (a:Addr) (xs ys:List V),SqT X.K H a xs->H a=some (.lst ys)->False:=fun a xs ys q1 q2=>by
   obtain ⟨its,_,p1,_⟩:=I.tuple q1
   obtain ⟨its2,_,p2,_⟩:=I.list (SqL.of q2)
   exact SeqAt.ne_of_list_tuple p2.isList (show s.heap.IsTuple a its.toArray from p1) rfl
  cases d with
  | tup ds =>
   obtain ⟨a,xs,rfl,q1,r1⟩:=h1
   cases e with
   | tup es =>
    obtain ⟨a',ys,e1,q2,r2⟩:=h2
    cases e1
    have:=I.tuple_inj q1.1 q2.1
    subst this
    rw [lists ds es xs hd he r1 r2]
   | lst es =>
    obtain ⟨a',ys,e1,q2,_,r2⟩:=h2
    cases e1
    exact (noTL _ _ _ q1.1 q2).elim
   | dk _ _=>exact he.elim
   | dt _ _=>exact he.elim
   | scr _=>exact he.elim
   | dz _=>exact he.elim
   | exc _=>exact he.elim
   | fd _=>exact he.elim
   | ob _ _ _=>exact he.elim
   | ty _=>exact he.elim
   | cn _=>exact he.elim
   | _=>cases (show V.ref a=_ from h2)
  | lst ds =>
   obtain ⟨a,xs,rfl,q1,_,r1⟩:=h1
   cases e with
   | tup es =>
    obtain ⟨a',ys,e1,q2,r2⟩:=h2
    cases e1
    exact (noTL _ _ _ q2.1 q1).elim
   | lst es =>
    obtain ⟨a',ys,e1,q2,_,r2⟩:=h2
    cases e1
    have:=I.list_inj (SqL.of q1) (SqL.of q2)
    subst this
    rw [lists ds es xs hd he r1 r2]
   | dk _ _=>exact he.elim
   | dt _ _=>exact he.elim
   | scr _=>exact he.elim
   | dz _=>exact he.elim
   | exc _=>exact he.elim
   | fd _=>exact he.elim
   | ob _ _ _=>exact he.elim
   | ty _=>exact he.elim
   | cn _=>exact he.elim
   | _=>cases (show V.ref a=_ from h2)
  | dk _ _=>exact hd.elim
  | dt _ _=>exact hd.elim
  | scr _=>exact hd.elim
  | dz _=>exact hd.elim
  | exc _=>exact hd.elim
  | fd _=>exact hd.elim
  | ob _ _ _=>exact hd.elim
  | ty _=>exact hd.elim
  | cn _=>exact hd.elim
  | non =>
   cases e with
   | tup es=>obtain ⟨a',ys,e1,_⟩:=h2; cases (show v=_ from h1); cases e1
   | lst es=>obtain ⟨a',ys,e1,_⟩:=h2; cases (show v=_ from h1); cases e1
   | dk _ _=>exact he.elim
   | dt _ _=>exact he.elim
   | scr _=>exact he.elim
   | dz _=>exact he.elim
   | exc _=>exact he.elim
   | fd _=>exact he.elim
   | ob _ _ _=>exact he.elim
   | ty _=>exact he.elim
   | cn _=>exact he.elim
   | non=>rfl
   | _=>cases (show v=_ from h1); cases (show V.non=_ from h2)
  | bl b =>
   cases e with
   | tup es=>obtain ⟨a',ys,e1,_⟩:=h2; cases (show v=_ from h1); cases e1
   | lst es=>obtain ⟨a',ys,e1,_⟩:=h2; cases (show v=_ from h1); cases e1
   | dk _ _=>exact he.elim
   | dt _ _=>exact he.elim
   | scr _=>exact he.elim
   | dz _=>exact he.elim
   | exc _=>exact he.elim
   | fd _=>exact he.elim
   | ob _ _ _=>exact he.elim
   | ty _=>exact he.elim
   | cn _=>exact he.elim
   | _=>cases (show v=_ from h1); cases (show V.bl b=_ from h2) <;> rfl
  | int b =>
   cases e with
   | tup es=>obtain ⟨a',ys,e1,_⟩:=h2; cases (show v=_ from h1); cases e1
   | lst es=>obtain ⟨a',ys,e1,_⟩:=h2; cases (show v=_ from h1); cases e1
   | dk _ _=>exact he.elim
   | dt _ _=>exact he.elim
   | scr _=>exact he.elim
   | dz _=>exact he.elim
   | exc _=>exact he.elim
   | fd _=>exact he.elim
   | ob _ _ _=>exact he.elim
   | ty _=>exact he.elim
   | cn _=>exact he.elim
   | _=>cases (show v=_ from h1); cases (show V.int b=_ from h2) <;> rfl
  | str b =>
   cases e with
   | tup es=>obtain ⟨a',ys,e1,_⟩:=h2; cases (show v=_ from h1); cases e1
   | lst es=>obtain ⟨a',ys,e1,_⟩:=h2; cases (show v=_ from h1); cases e1
   | dk _ _=>exact he.elim
   | dt _ _=>exact he.elim
   | scr _=>exact he.elim
   | dz _=>exact he.elim
   | exc _=>exact he.elim
   | fd _=>exact he.elim
   | ob _ _ _=>exact he.elim
   | ty _=>exact he.elim
   | cn _=>exact he.elim
   | _=>cases (show v=_ from h1); cases (show V.str b=_ from h2) <;> rfl
inductive Sh (K:W.Frag) (H:Hp) (s:Shared):D->Value->Prop where
 | non:Sh K H s .non .none
 | bl (b:Bool):Sh K H s (.bl b) (.bool b)
 | int (i:Int) (t:Tok):Sh K H s (.int i) (.int i t)
 | str (x:Str) (t:Tok):Sh K H s (.str x) (.str x t)
 | tup {a:Addr} {ds:List D} {xs:List V} {its:List Value} (p:s.heap.IsTuple a its.toArray) (r:Vals xs its) (q:Reps K H [] ds xs):Sh K H s (.tup ds) (.ref a)
 | lst {a:Addr} {ds:List D} {xs:List V} {its:List Value} (p:s.heap.IsList a its.toArray) (r:Vals xs its) (q:Reps K H [] ds xs):Sh K H s (.lst ds) (.ref a)
theorem sk (I:Inv X pn σ H s) {n:Nat} {d:D} {x:V} {u:Value} (hd:okD n d) (h:Rep X.K H [] d x) (r:RelV x u):Sh X.K H s d u:=by
 cases d with
 | non=>cases (show x=_ from h); cases r; exact .non
 | bl b=>cases (show x=_ from h); cases r; exact .bl b
 | int b=>cases (show x=_ from h); obtain ⟨t,rfl⟩:=r; exact .int b t
 | str b=>cases (show x=_ from h); obtain ⟨t,rfl⟩:=r; exact .str b t
 | ty _=>cases n <;> exact hd.elim
 | cn _=>cases n <;> exact hd.elim
 | dk _ _=>cases n <;> exact hd.elim
 | dt _ _=>cases n <;> exact hd.elim
 | scr _=>cases n <;> exact hd.elim
 | dz _=>cases n <;> exact hd.elim
 | exc _=>cases n <;> exact hd.elim
 | fd _=>cases n <;> exact hd.elim
 | ob _ _ _=>cases n <;> exact hd.elim
 | tup ds =>
  obtain ⟨a,xs,rfl,q,t⟩:=h
  cases r
  obtain ⟨its,rv,p,_⟩:=I.tuple q.1
  exact .tup (show s.heap.IsTuple a its.toArray from p) rv t
 | lst ds =>
  obtain ⟨a,xs,rfl,q,_,t⟩:=h
  cases r
  obtain ⟨its,rv,p,_⟩:=I.list (SqL.of q)
  exact .lst p.isList rv t
theorem dj (I:Inv X pn σ H s):∀ (n:Nat) (d e:D) (x y:V) (u v:Value) (A:Around),okD n d->okD n e->Rep X.K H [] d x->Rep X.K H [] e y->RelV x u->RelV y v->A.units + n < cLine ->
  SeqAt.RcAt A s u v (eqD d e) /\ SeqAt.RcNeAt A s u v (!eqD d e) /\ SeqAt.EqAt A s u v (eqD d e):=by
 intro n
 induction n with
 | zero =>
  intro d e x y u v A hd he h1 h2 r1 r2 hu
  have hu':A.units < cLine:=by omega
  cases sk I hd h1 r1 with
  | tup=>exact hd.elim
  | lst=>exact hd.elim
  | non =>
   cases sk I he h2 r2 with
   | non=>exact ⟨SeqAt.RcAt.none_none,SeqAt.RcNeAt.none_none,SeqAt.EqAt.same _⟩
   | bl b=>exact ⟨SeqAt.RcAt.none_bool b,SeqAt.RcNeAt.none_bool b,SeqAt.EqAt.none_bool b⟩
   | int i t=>exact ⟨SeqAt.RcAt.none_int i t,SeqAt.RcNeAt.none_int i t,SeqAt.EqAt.none_int i t⟩
   | str i t=>exact ⟨SeqAt.RcAt.none_str i t,SeqAt.RcNeAt.none_str i t,SeqAt.EqAt.none_str i t⟩
   | tup=>exact he.elim
   | lst=>exact he.elim
  | bl a =>
   cases sk I he h2 r2 with
   | non=>exact ⟨SeqAt.RcAt.bool_none a,SeqAt.RcNeAt.bool_none a,SeqAt.EqAt.bool_none a⟩
   | bl b=>exact ⟨SeqAt.RcAt.bool_bool a b,SeqAt.RcNeAt.bool_bool a b,SeqAt.EqAt.bool_bool a b⟩
   | int i t=>exact ⟨SeqAt.RcAt.bool_int a i t,SeqAt.RcNeAt.bool_int a i t,SeqAt.EqAt.bool_int a i t⟩
   | str i t=>exact ⟨SeqAt.RcAt.bool_str a i t,SeqAt.RcNeAt.bool_str a i t,SeqAt.EqAt.bool_str a i t⟩
   | tup=>exact he.elim
   | lst=>exact he.elim
  | int a t =>
   cases sk I he h2 r2 with
   | non=>exact ⟨SeqAt.RcAt.int_none a t,SeqAt.RcNeAt.int_none a t,SeqAt.EqAt.int_none a t⟩
   | bl b=>exact ⟨SeqAt.RcAt.int_bool a t b,SeqAt.RcNeAt.int_bool a t b,SeqAt.EqAt.int_bool a t b⟩
   | int i t'=>exact ⟨SeqAt.RcAt.int_int a t i t',SeqAt.RcNeAt.int_int a t i t',SeqAt.EqAt.int_int a t i t'⟩
   | str i t'=>exact ⟨SeqAt.RcAt.int_str a t i t',SeqAt.RcNeAt.int_str a t i t',SeqAt.EqAt.int_str a t i t'⟩
   | tup=>exact he.elim
   | lst=>exact he.elim
  | str a t =>
   cases sk I he h2 r2 with
   | non=>exact ⟨SeqAt.RcAt.str_none a t,SeqAt.RcNeAt.str_none a t,SeqAt.EqAt.str_none a t⟩
   | bl b=>exact ⟨SeqAt.RcAt.str_bool a t b,SeqAt.RcNeAt.str_bool a t b,SeqAt.EqAt.str_bool a t b⟩
   | int i t'=>exact ⟨SeqAt.RcAt.str_int a t i t',SeqAt.RcNeAt.str_int a t i t',SeqAt.EqAt.str_int a t i t'⟩
   | str i t'=>exact ⟨SeqAt.RcAt.str_str a t i t',SeqAt.RcNeAt.str_str a t i t',SeqAt.EqAt.str_str a t i t'⟩
   | tup=>exact he.elim
   | lst=>exact he.elim
 | succ n ih =>
  intro d e x y u v A hd he h1 h2 r1 r2 hu
  have hu':A.units < cLine:=by omega
  have hin:A.in1.units + n < cLine:=by
   have:A.in1.units=A.units + 1:=rfl
   omega
  have refs:∀ {l b:Addr} {k:Bool},u=.ref l->v=.ref b->k=eqD d e->SeqAt.RcAt A s (.ref l) (.ref b) k->SeqAt.EqAt A s (.ref l) (.ref b) k:=fun {l b k} e1 e2 ek h=>by
   by_cases hlb:l=b
   ·subst hlb
    have hv:x=y:=by
     have z1:x=.ref l:=by
      cases x <;> subst e1 <;> first | (have:=(show Value.ref l=Value.ref _ from r1); cases this; rfl) | (obtain ⟨t,z⟩:=r1; cases z) | cases r1
     have z2:y=.ref l:=by
      cases y <;> subst e2 <;> first | (have:=(show Value.ref l=Value.ref _ from r2); cases this; rfl) | (obtain ⟨t,z⟩:=r2; cases z) | cases r2
     rw [z1,z2]
    subst hv
    have hde:=Rep.inj I (n + 1) d e x hd he h1 h2
    subst hde
    rw [ek,dq (n + 1) d hd]
    exact SeqAt.EqAt.same _
   ·exact SeqAt.EqAt.of_refs hlb h
  have items:∀ {ds es:List D} {xs ys:List V} {its its2:List Value},(∀ z ∈ ds,okD n z)->(∀ z ∈ es,okD n z)->Reps X.K H [] ds xs->Reps X.K H [] es ys->Vals xs its->Vals ys its2 ->
    ∀ j (h1:j < its.toArray.size) (h2:j < its2.toArray.size),SeqAt.EqAt A.in1 s its.toArray[j] its2.toArray[j] (eqD (ds.getD j .non) (es.getD j .non)):=fun {ds es xs ys its its2} o1 o2 q1 q2 w1 w2 j h1 h2=>by
   have l1:=w1.length
   have l2:=w2.length
   have k1:=q1.length
   have k2:=q2.length
   have g1:j < ds.length:=by simp at h1; omega
   have g2:j < es.length:=by simp at h2; omega
   have e1:ds[j]?=some ds[j]:=by simp [g1]
   have e2:es[j]?=some es[j]:=by simp [g2]
   obtain ⟨x',ex,rx⟩:=q1.get e1
   obtain ⟨y',ey,ry⟩:=q2.get e2
   obtain ⟨u',eu,ru⟩:=w1.get ex
   obtain ⟨v',ev,rv⟩:=w2.get ey
   have f1:its.toArray[j]=u':=by
    have:=(List.getElem?_eq_some_iff.mp eu).2
    simpa using this
   have f2:its2.toArray[j]=v':=by
    have:=(List.getElem?_eq_some_iff.mp ev).2
    simpa using this
   rw [f1,f2,show ds.getD j .non=ds[j] by simp [List.getD,e1],show es.getD j .non=es[j] by simp [List.getD,e2]]
   exact (ih ds[j] es[j] x' y' u' v' A.in1 (o1 _ (List.getElem_mem g1)) (o2 _ (List.getElem_mem g2)) rx ry ru rv hin).2.2
  cases sk I hd h1 r1 with
  | non =>
   cases sk I he h2 r2 with
   | non=>exact ⟨SeqAt.RcAt.none_none,SeqAt.RcNeAt.none_none,SeqAt.EqAt.same _⟩
   | bl b=>exact ⟨SeqAt.RcAt.none_bool b,SeqAt.RcNeAt.none_bool b,SeqAt.EqAt.none_bool b⟩
   | int i t=>exact ⟨SeqAt.RcAt.none_int i t,SeqAt.RcNeAt.none_int i t,SeqAt.EqAt.none_int i t⟩
   | str i t=>exact ⟨SeqAt.RcAt.none_str i t,SeqAt.RcNeAt.none_str i t,SeqAt.EqAt.none_str i t⟩
   | tup p _ _=>exact ⟨SeqAt.RcAt.none_tuple p hu',SeqAt.RcNeAt.none_tuple p hu',SeqAt.EqAt.none_tuple p hu'⟩
   | lst p _ _=>exact ⟨SeqAt.RcAt.none_list p hu',SeqAt.RcNeAt.none_list p hu',SeqAt.EqAt.none_list p hu'⟩
  | bl a =>
   cases sk I he h2 r2 with
   | non=>exact ⟨SeqAt.RcAt.bool_none a,SeqAt.RcNeAt.bool_none a,SeqAt.EqAt.bool_none a⟩
   | bl b=>exact ⟨SeqAt.RcAt.bool_bool a b,SeqAt.RcNeAt.bool_bool a b,SeqAt.EqAt.bool_bool a b⟩
   | int i t=>exact ⟨SeqAt.RcAt.bool_int a i t,SeqAt.RcNeAt.bool_int a i t,SeqAt.EqAt.bool_int a i t⟩
   | str i t=>exact ⟨SeqAt.RcAt.bool_str a i t,SeqAt.RcNeAt.bool_str a i t,SeqAt.EqAt.bool_str a i t⟩
   | tup p _ _=>exact ⟨SeqAt.RcAt.bool_tuple a p hu',SeqAt.RcNeAt.bool_tuple a p hu',SeqAt.EqAt.bool_tuple a p hu'⟩
   | lst p _ _=>exact ⟨SeqAt.RcAt.bool_list a p hu',SeqAt.RcNeAt.bool_list a p hu',SeqAt.EqAt.bool_list a p hu'⟩
  | int a t =>
   cases sk I he h2 r2 with
   | non=>exact ⟨SeqAt.RcAt.int_none a t,SeqAt.RcNeAt.int_none a t,SeqAt.EqAt.int_none a t⟩
   | bl b=>exact ⟨SeqAt.RcAt.int_bool a t b,SeqAt.RcNeAt.int_bool a t b,SeqAt.EqAt.int_bool a t b⟩
   | int i t'=>exact ⟨SeqAt.RcAt.int_int a t i t',SeqAt.RcNeAt.int_int a t i t',SeqAt.EqAt.int_int a t i t'⟩
   | str i t'=>exact ⟨SeqAt.RcAt.int_str a t i t',SeqAt.RcNeAt.int_str a t i t',SeqAt.EqAt.int_str a t i t'⟩
   | tup p _ _=>exact ⟨SeqAt.RcAt.int_tuple a t p hu',SeqAt.RcNeAt.int_tuple a t p hu',SeqAt.EqAt.int_tuple a t p hu'⟩
   | lst p _ _=>exact ⟨SeqAt.RcAt.int_list a t p hu',SeqAt.RcNeAt.int_list a t p hu',SeqAt.EqAt.int_list a t p hu'⟩
  | str a t =>
   cases sk I he h2 r2 with
   | non=>exact ⟨SeqAt.RcAt.str_none a t,SeqAt.RcNeAt.str_none a t,SeqAt.EqAt.str_none a t⟩
   | bl b=>exact ⟨SeqAt.RcAt.str_bool a t b,SeqAt.RcNeAt.str_bool a t b,SeqAt.EqAt.str_bool a t b⟩
   | int i t'=>exact ⟨SeqAt.RcAt.str_int a t i t',SeqAt.RcNeAt.str_int a t i t',SeqAt.EqAt.str_int a t i t'⟩
   | str i t'=>exact ⟨SeqAt.RcAt.str_str a t i t',SeqAt.RcNeAt.str_str a t i t',SeqAt.EqAt.str_str a t i t'⟩
   | tup p _ _=>exact ⟨SeqAt.RcAt.str_tuple a t p hu',SeqAt.RcNeAt.str_tuple a t p hu',SeqAt.EqAt.str_tuple a t p hu'⟩
   | lst p _ _=>exact ⟨SeqAt.RcAt.str_list a t p hu',SeqAt.RcNeAt.str_list a t p hu',SeqAt.EqAt.str_list a t p hu'⟩
  | @tup l ds xs its p r q =>
   cases sk I he h2 r2 with
   | non=>exact ⟨SeqAt.RcAt.tuple_none p hu',SeqAt.RcNeAt.tuple_none p hu',SeqAt.EqAt.tuple_none p hu'⟩
   | bl b=>exact ⟨SeqAt.RcAt.tuple_bool b p hu',SeqAt.RcNeAt.tuple_bool b p hu',SeqAt.EqAt.tuple_bool b p hu'⟩
   | int i t=>exact ⟨SeqAt.RcAt.tuple_int i t p hu',SeqAt.RcNeAt.tuple_int i t p hu',SeqAt.EqAt.tuple_int i t p hu'⟩
   | str i t=>exact ⟨SeqAt.RcAt.tuple_str i t p hu',SeqAt.RcNeAt.tuple_str i t p hu',SeqAt.EqAt.tuple_str i t p hu'⟩
   | lst p2 _ _=>exact ⟨SeqAt.RcAt.tuple_list p p2 hu',SeqAt.RcNeAt.tuple_list p p2 hu',SeqAt.EqAt.tuple_list p p2 hu'⟩
   | @tup b es ys its2 p2 r' q' =>
    have e1:its.toArray.size=ds.length:=by rw [List.size_toArray,<- r.length,q.length]
    have e2:its2.toArray.size=es.length:=by rw [List.size_toArray,<- r'.length,q'.length]
    have ek:eqD (.tup ds) (.tup es)=((List.range (min its.toArray.size its2.toArray.size)).all (fun j=>eqD (ds.getD j .non) (es.getD j .non)) && its.toArray.size == its2.toArray.size):=by
     rw [e1,e2]
     exact t7 ds es
    rw [ek]
    have hrc:=SeqAt.RcAt.tuples p p2 hu' (items hd he q q' r r')
    exact ⟨hrc,SeqAt.RcNeAt.tuples p p2 hu' (items hd he q q' r r'),refs rfl rfl ek.symm hrc⟩
  | @lst l ds xs its p r q =>
   cases sk I he h2 r2 with
   | non=>exact ⟨SeqAt.RcAt.list_none p hu',SeqAt.RcNeAt.list_none p hu',SeqAt.EqAt.list_none p hu'⟩
   | bl b=>exact ⟨SeqAt.RcAt.list_bool b p hu',SeqAt.RcNeAt.list_bool b p hu',SeqAt.EqAt.list_bool b p hu'⟩
   | int i t=>exact ⟨SeqAt.RcAt.list_int i t p hu',SeqAt.RcNeAt.list_int i t p hu',SeqAt.EqAt.list_int i t p hu'⟩
   | str i t=>exact ⟨SeqAt.RcAt.list_str i t p hu',SeqAt.RcNeAt.list_str i t p hu',SeqAt.EqAt.list_str i t p hu'⟩
   | tup p2 _ _=>exact ⟨SeqAt.RcAt.list_tuple p p2 hu',SeqAt.RcNeAt.list_tuple p p2 hu',SeqAt.EqAt.list_tuple p p2 hu'⟩
   | @lst b es ys its2 p2 r' q' =>
    have e1:its.toArray.size=ds.length:=by rw [List.size_toArray,<- r.length,q.length]
    have e2:its2.toArray.size=es.length:=by rw [List.size_toArray,<- r'.length,q'.length]
    by_cases hsz:its.toArray.size=its2.toArray.size
    ·have ek:eqD (.lst ds) (.lst es)=(List.range its.toArray.size).all (fun j=>eqD (ds.getD j .non) (es.getD j .non)):=by
      show eqDs ds es=_
      rw [t7,<- e1,<- e2,<- hsz]
      simp
     rw [ek]
     have hrc:=SeqAt.RcAt.lists p p2 hsz hu' (items hd he q q' r r')
     exact ⟨hrc,SeqAt.RcNeAt.lists p p2 hsz hu' (items hd he q q' r r'),refs rfl rfl ek.symm hrc⟩
    ·have ek:eqD (.lst ds) (.lst es)=false:=by
      show eqDs ds es=_
      have hb:(its.toArray.size == its2.toArray.size)=false:=beq_eq_false_iff_ne.mpr hsz
      rw [t7,<- e1,<- e2,hb,Bool.and_false]
     rw [ek]
     have hne:(its.toArray.size != its2.toArray.size)=true:=by simpa using hsz
     have hrc:=SeqAt.RcAt.lists_lengths p p2 hne hu'
     exact ⟨hrc,SeqAt.RcNeAt.lists_lengths p p2 hne hu',refs rfl rfl ek.symm hrc⟩
end
section
variable {X:Cx} {a b:Expr} {ta tb:TD} {pos:Pos}
noncomputable def rEqD (K:W.Frag) (neg:Bool):R2:=fun x y H Q=>∃ d e,Rep K H [] d x /\ Rep K H [] e y /\ okD 40 d /\ okD 40 e /\ Q (.bl (if neg then !eqD d e else eqD d e)) H
theorem Ks (hu:X.A.units + 64 < cLine):OpR X (compareOp .Eq) (rEqD X.K false):=by
 intro pn s σ H x y v u Q I rx ry h
 obtain ⟨d,e,h1,h2,o1,o2,q⟩:=h
 exact (dj I 40 d e x y v u X.A o1 o2 h1 h2 rx ry (by omega)).1 X.prog X.w X.xe _ ⟨.bl _,H,I,rfl,q⟩
theorem Kp (hu:X.A.units + 64 < cLine):OpR X (compareOp .NotEq) (rEqD X.K true):=by
 intro pn s σ H x y v u Q I rx ry h
 obtain ⟨d,e,h1,h2,o1,o2,q⟩:=h
 exact (dj I 40 d e x y v u X.A o1 o2 h1 h2 rx ry (by omega)).2.1 X.prog X.w X.xe _ ⟨.bl _,H,I,rfl,q⟩
noncomputable def sEq:D->D->(EV->Prop)->Prop:=fun x y φ=>okD 40 x /\ okD 40 y /\ φ (dv (.bl (eqD x y)))
noncomputable def sNe:D->D->(EV->Prop)->Prop:=fun x y φ=>okD 40 x /\ okD 40 y /\ φ (dv (.bl (!eqD x y)))
end
section
variable {X:Cx} {a b c e:Expr} {es:List Expr} {ta tb tc te:TD} {t:TDs} {pos:Pos}
theorem Rr:tm X.K (fun x y H Q=>rI IntMulOk (fun i j=>.int (i * j)) x y H Q \/ rRep x y H Q) sMul:=by
 intro H O x y vx vy φ Q ho hx hy h k
 unfold sMul at h
 split at h
 ·exact .inl ⟨_,_,hx,hy,h.1,k _ _ H (Same.refl H) (by exact rfl) h.2⟩
 ·obtain ⟨h1,h2,h3,h4⟩:=h
  obtain ⟨a1,xs,rfl,q1,r1⟩:=hx
  refine .inr ⟨a1,_,xs,rfl,hy,q1,h1,h2,by rw [r1.length]; exact h3,fun p hp=>?_⟩
  exact k _ _ _ (zp hp _) (tw ho hp (r1.rep _)) h4
 ·exact h.elim
theorem Te (ha:ED Γ X a ta) (hb:ED Γ X b tb):ED Γ X (.BinOp a .Mult b pos) (d2 sMul ta tb):=jk (N3.or Km) Rr ha hb
noncomputable def sNeg:D->(EV->Prop)->Prop:=fun x φ=>match x with
 | .int i=>φ (dv (.int (-i)))
 | _=>False
noncomputable def d1 (s:D->(EV->Prop)->Prop) (ta:TD):TD:=fun ρ φ=>ta ρ fun x=>s x.d φ
theorem Td (ha:ED Γ X a ta):ED Γ X (.UnaryOp .USub a pos) (d1 sNeg ta):=fun H₀=>impE (Gd Mr (ha H₀)) fun σ H Q h=>by
 obtain ⟨ρ,o,R,φ,hφ,k⟩:=h
 refine ⟨ρ,o,R,_,hφ,fun v1 r1 H1 s1 rv1 h1=>?_⟩
 obtain ⟨kd,d⟩:=r1
 have hv:=rv1.view
 cases d with
 | int i=>exact ⟨i,hv,k _ _ H1 s1 (by exact rfl) h1⟩
 | _=>exact h1.elim
noncomputable def truD:D->Option Bool
 | .non=>some false
 | .bl b=>some b
 | .int i=>some (i != 0)
 | .str x=>if x.length <= sizeLine then some ((x.length:Int) != 0) else none
 | .lst ds=>some (!ds.isEmpty)
 | .scr ns=>some (!ns.isEmpty)
 | .dz _=>none
 | .tup ds=>some (!ds.isEmpty)
 | .dk _ ds=>some (!ds.isEmpty)
 | .dt _ _=>none
 | .ty _=>none
 | .cn _=>none
 | .exc _=>none
 | .fd _=>none
 | .ob _ _ _=>none
theorem se {K:W.Frag} {H:Hp} {O:List Addr} {ds:List D} {xs:List V} (r:Reps K H O ds xs):xs.isEmpty=ds.isEmpty:=by
 have:=r.length
 cases xs <;> cases ds <;> simp_all
theorem Sk {K:W.Frag} {H:Hp} {O:List Addr} {d:D} {v:V} {b:Bool} (h:View K H O d v) (e:truD d=some b):TruV K v H b:=by
 cases d with
 | non=>cases (show v=_ from h); cases e; rfl
 | bl i=>cases (show v=_ from h); cases e; rfl
 | int i=>cases (show v=_ from h); cases e; rfl
 | str x =>
  cases (show v=_ from h)
  have e':(if x.length <= sizeLine then some ((x.length:Int) != 0) else none)=some b:=e
  split at e'
  ·rename_i hz
   cases e'
   exact ⟨hz,rfl⟩
  ·cases e'
 | ty _=>cases e
 | cn _=>cases e
 | exc _=>cases e
 | fd _=>cases e
 | ob _ _ _=>cases e
 | lst ds =>
  obtain ⟨a,xs,rfl,q,r⟩:=h
  cases e
  exact .inl ⟨xs,SqL.of q,by rw [se r]⟩
 | scr ns =>
  obtain ⟨a,rfl,q⟩:=h
  cases e
  exact .inl ⟨_,q.seq,by cases ns <;> rfl⟩
 | dz _=>cases e
 | tup ds =>
  obtain ⟨a,xs,rfl,q,r⟩:=h
  cases e
  exact .inr (.inl ⟨xs,q.1,by rw [se r]⟩)
 | dk ks ds =>
  obtain ⟨a,xs,rfl,q,l,_,r⟩:=h
  cases e
  refine .inr (.inr ⟨_,q,?_⟩)
  have:=r.length
  cases ks <;> cases ds <;> cases xs <;> simp_all
 | dt ks ds=>cases e
noncomputable def tTru (t:TD):TDb:=fun ρ φ=>t ρ fun r=>match truD r.d with
 | some b=>φ b
 | none=>False
theorem vg (h:ED Γ X a ta) (he:∀ whole,isTrue a X.env whole=(do let v <- whole; standAt a.pos; holding [v] (truthy v)):=by intro _; rfl):ET Γ X a (tTru ta):=fun H₀=>impT (Rf (h H₀) he) fun σ H Q q=>by
 obtain ⟨ρ,o,R,φ,hφ,k⟩:=q
 refine ⟨ρ,o,R,_,hφ,fun v1 r1 H1 s1 rv1 h1=>?_⟩
 cases e:truD r1.d with
 | none=>simp only [e] at h1
 | some b =>
  simp only [e] at h1
  exact ⟨b,Sk rv1.view e,k b H1 s1 h1⟩
noncomputable def tBo (t:TD):TDb:=fun ρ φ=>t ρ fun r=>match r.d with
 | .bl b=>φ b
 | _=>False
theorem um {op:CmpOp} {rr:R2} {s:D->D->(EV->Prop)->Prop} (ho:OpR X (compareOp op) rr) (hl:tm X.K rr s) (ha:ED Γ X a ta) (hb:ED Γ X b tb) (hm:behindInMarks op b=false):ET Γ X (.Compare a [op] [b] pos) (tBo (d2 s ta tb)):=fun H₀ =>
 impT (Ol ho (ha H₀) (hb H₀) hm) fun σ H Q h=>by
  obtain ⟨ρ,o,R,φ,hφ,k⟩:=h
  refine Rw (ta:=ta) (tb:=tb) (H₀:=H₀.1) hl σ H _ ⟨ρ,o,R,_,hφ,fun v r H' s1 rv h1=>?_⟩
  obtain ⟨kd,d⟩:=r
  cases d with
  | bl b=>exact ⟨b,rv.view,k b H' s1 h1⟩
  | _=>exact h1.elim
theorem Gx (ha:ED Γ X a ta) (hb:ED Γ X b tb):ET Γ X (.Compare a [.Lt] [b] pos) (tBo (d2 sLt ta tb)):=um Gg (gq fun _ _ _ _=>rfl) ha hb (uh _)
theorem Qg (ha:ED Γ X a ta) (hb:ED Γ X b tb):ET Γ X (.Compare a [.Gt] [b] pos) (tBo (d2 sGt ta tb)):=um Gh (gq fun _ _ _ _=>rfl) ha hb (uh _)
theorem Hd (ha:ED Γ X a ta) (hb:ED Γ X b tb):ET Γ X (.Compare a [.GtE] [b] pos) (tBo (d2 sGe ta tb)):=um Gi (gq fun _ _ _ _=>rfl) ha hb (uh _)
theorem we (hu:X.A.units + 64 < cLine) (ha:ED Γ X a ta) (hb:ED Γ X b tb):ET Γ X (.Compare a [.Eq] [b] pos) (tBo (d2 sEq ta tb)) :=
 um (Ks hu) (fun H O x y vx vy φ Q ho hx hy h k=>⟨x,y,hx.rep0,hy.rep0,h.1,h.2.1,k _ _ H (Same.refl H) (by exact rfl) h.2.2⟩) ha hb (uh _)
theorem dh (hu:X.A.units + 64 < cLine) (ha:ED Γ X a ta) (hb:ED Γ X b tb):ET Γ X (.Compare a [.NotEq] [b] pos) (tBo (d2 sNe ta tb)) :=
 um (Kp hu) (fun H O x y vx vy φ Q ho hx hy h k=>⟨x,y,hx.rep0,hy.rep0,h.1,h.2.1,k _ _ H (Same.refl H) (by exact rfl) h.2.2⟩) ha hb (uh _)
noncomputable def Nn:D->Bool
 | .non=>true
 | _=>false
noncomputable def sIs:D->D->(EV->Prop)->Prop:=fun x y φ=>match y with
 | .non=>φ (dv (.bl (Nn x)))
 | _=>False
theorem Sb {K:W.Frag} {H:Hp} {O:List Addr} {d:D} {v:V} (h:View K H O d v):decide (v=.non)=Nn d:=by
 cases d with
 | tup ds=>obtain ⟨a,xs,rfl,_⟩:=h; rfl
 | lst ds=>obtain ⟨a,xs,rfl,_⟩:=h; rfl
 | scr ns=>obtain ⟨a,rfl,_⟩:=h; rfl
 | dz _=>obtain ⟨a,rfl,_⟩:=h; rfl
 | exc _=>obtain ⟨a,rfl,_⟩:=h; rfl
 | fd _=>obtain ⟨a,rfl,_⟩:=h; rfl
 | ob _ _ _=>obtain ⟨a,dx,xs,rfl,_⟩:=h; rfl
 | dk ks ds=>obtain ⟨a,xs,rfl,_⟩:=h; rfl
 | dt ks ds=>obtain ⟨a,xs,rfl,_⟩:=h; rfl
 | cn c =>
  cases c with
  | int i=>cases (show v=_ from h); rfl
  | str x=>cases (show v=_ from h); rfl
  | tup cs=>obtain ⟨a,o,its,n,xs,rfl,_⟩:=(show CRep K (.tup cs) v from h); rfl
 | _=>cases (show v=_ from h); rfl
theorem Nb {K:W.Frag}:tm K (fun x y H Q=>y=.non /\ Q (.bl (decide (x=.non))) H) sIs:=by
 intro H O x y vx vy φ Q ho hx hy h k
 unfold sIs at h
 split at h
 ·refine ⟨hy,?_⟩
  rw [Sb hx]
  exact k _ _ H (Same.refl H) (by exact rfl) h
 ·exact h.elim
theorem Gy (ha:ED Γ X a ta) (hb:ED Γ X b tb):ET Γ X (.Compare a [.Is] [b] pos) (tBo (d2 sIs ta tb)):=um Kq Nb ha hb (uh _)
variable {tA tB':TDb} {rest:List Expr}
noncomputable def bAnd (t u:TDb):TDb:=fun ρ φ=>t ρ fun c=>(c=true->u ρ φ) /\ (c=false->φ false)
noncomputable def bOr (t u:TDb):TDb:=fun ρ φ=>t ρ fun c=>(c=true->φ true) /\ (c=false->u ρ φ)
noncomputable def bNot (t:TDb):TDb:=fun ρ φ=>t ρ fun c=>φ (!c)
theorem qw (ha:ET Γ X a tA):EW Γ X (.BoolOp .And [a] pos) tA:=fun H₀=>Oi (ha H₀)
theorem Xv (ha:ET Γ X a tA):EW Γ X (.BoolOp .Or [a] pos) tA:=fun H₀=>Lz (ha H₀)
theorem Zc (ha:ET Γ X a tA) (hb:EW Γ X (.BoolOp .And (b :: rest) pos) tB'):EW Γ X (.BoolOp .And (a :: b :: rest) pos) (bAnd tA tB'):=fun H₀=>impW (K1 (ha H₀) (hb H₀)) fun σ H Q h=>by
 obtain ⟨ρ,o,R,φ,hφ,k⟩:=h
 refine ⟨ρ,o,R,_,hφ,fun c H1 s1 h1=>?_⟩
 cases c with
 | true=>exact iteT ⟨ρ,o,R.to s1,φ,h1.1 rfl,fun b H2 s2 q=>k b H2 (s1.trans s2) q⟩
 | false=>exact iteF (k false H1 s1 (h1.2 rfl))
theorem Yr (ha:ET Γ X a tA) (hb:EW Γ X (.BoolOp .Or (b :: rest) pos) tB'):EW Γ X (.BoolOp .Or (a :: b :: rest) pos) (bOr tA tB'):=fun H₀=>impW (Gb (ha H₀) (hb H₀)) fun σ H Q h=>by
 obtain ⟨ρ,o,R,φ,hφ,k⟩:=h
 refine ⟨ρ,o,R,_,hφ,fun c H1 s1 h1=>?_⟩
 cases c with
 | true=>exact iteT (k true H1 s1 (h1.1 rfl))
 | false=>exact iteF ⟨ρ,o,R.to s1,φ,h1.2 rfl,fun b H2 s2 q=>k b H2 (s1.trans s2) q⟩
theorem EW.et (h:EW Γ X a tA):ET Γ X a tA:=fun H₀=>PW.pt (h H₀)
theorem jj (ha:ET Γ X a tA):ET Γ X (.UnaryOp .Not a pos) (bNot tA):=fun H₀=>impT (K5 (ha H₀)) fun σ H Q h=>by
 obtain ⟨ρ,o,R,φ,hφ,k⟩:=h
 exact ⟨ρ,o,R,_,hφ,fun c H1 s1 h1=>k _ H1 s1 h1⟩
noncomputable def vAnd (ta tb:TD):TD:=fun ρ φ=>ta ρ fun x=>match x.d with
 | .bl c=>(c=true->tb ρ φ) /\ (c=false->φ (dv (.bl false)))
 | _=>False
noncomputable def vNot (ta:TD):TD:=fun ρ φ=>ta ρ fun x=>match x.d with
 | .bl c=>φ (dv (.bl (!c)))
 | _=>False
theorem Pp {op} (h:ED Γ X a ta):ED Γ X (.BoolOp op [a] pos) ta:=fun H₀=>Ke (h H₀)
theorem Pq (ha:ED Γ X a ta) (hb:ED Γ X (.BoolOp .And (b :: rest) pos) tb):ED Γ X (.BoolOp .And (a :: b :: rest) pos) (vAnd ta tb):=fun H₀=>impE (Kj (ha H₀) (hb H₀)) fun σ H Q h=>by
 obtain ⟨ρ,o,R,φ,hφ,k⟩:=h
 refine ⟨ρ,o,R,_,hφ,fun v r H1 s1 rv h1=>?_⟩
 obtain ⟨kd,d⟩:=r
 cases d with
 | bl c =>
  refine ⟨c,rv.view,?_⟩
  cases c with
  | true=>exact iteT ⟨ρ,o,R.to s1,φ,h1.1 rfl,fun v2 r2 H2 s2 rv2 q=>k v2 r2 H2 (s1.trans s2) (rv2.start s1) q⟩
  | false=>exact iteF (k _ _ H1 s1 (by exact rfl) (h1.2 rfl))
 | _=>exact h1.elim
theorem Hi (ha:ED Γ X a ta):ED Γ X (.UnaryOp .Not a pos) (vNot ta):=fun H₀=>impE (Kf (ha H₀)) fun σ H Q h=>by
 obtain ⟨ρ,o,R,φ,hφ,k⟩:=h
 refine ⟨ρ,o,R,_,hφ,fun v r H1 s1 rv h1=>?_⟩
 obtain ⟨kd,d⟩:=r
 cases d with
 | bl c=>exact ⟨c,rv.view,k _ _ H1 s1 (by exact rfl) h1⟩
 | _=>exact h1.elim
noncomputable def vIf (t:TDb) (ta tb:TD):TD:=fun ρ φ=>t ρ fun c=>(c=true->ta ρ φ) /\ (c=false->tb ρ φ)
theorem Qk (hc:ET Γ X c tA) (ha:ED Γ X a ta) (hb:ED Γ X b tb):ED Γ X (.IfExp c a b pos) (vIf tA ta tb):=fun H₀=>impE (Rh (hc H₀) (ha H₀) (hb H₀)) fun σ H Q h=>by
 obtain ⟨ρ,o,R,φ,hφ,k⟩:=h
 refine ⟨ρ,o,R,_,hφ,fun c H1 s1 h1=>?_⟩
 cases c with
 | true=>exact iteT ⟨ρ,o,R.to s1,φ,h1.1 rfl,fun v2 r2 H2 s2 rv2 q=>k v2 r2 H2 (s1.trans s2) (rv2.start s1) q⟩
 | false=>exact iteF ⟨ρ,o,R.to s1,φ,h1.2 rfl,fun v2 r2 H2 s2 rv2 q=>k v2 r2 H2 (s1.trans s2) (rv2.start s1) q⟩
noncomputable def aNil:TDs:=fun _ φ=>φ []
noncomputable def u0 (te:TD) (t:TDs):TDs:=fun ρ φ=>te ρ fun r=>t ρ fun rs=>φ (r :: rs)
theorem zd:EA Γ X [] aNil:=fun H₀=>impA u9 fun σ H Q h=>by
 obtain ⟨ρ,o,R,φ,hφ,k⟩:=h
 exact k [] [] H (Same.refl H) (by exact rfl) hφ
theorem z9 (ha:ED Γ X e te) (hr:EA Γ X es t) (hs:starEach (e :: es) X.env=(false,eval e X.env) :: starEach es X.env:=by rfl):EA Γ X (e :: es) (u0 te t):=fun H₀=>impA (w8 (ha H₀) (hr H₀) hs) fun σ H Q h=>by
 obtain ⟨ρ,o,R,φ,hφ,k⟩:=h
 refine ⟨ρ,o,R,_,hφ,fun v r H1 s1 rv h1=>⟨ρ,o,R.to s1,_,h1,fun vs rs H2 s2 rvs h2=>?_⟩⟩
 exact k (v :: vs) (r :: rs) H2 (s1.trans s2) ⟨v,vs,rfl,rv.same s2,rvs.start s1⟩ h2
noncomputable def wr:List EV->Bool
 | []=>true
 | r :: rs=>(match r.k with | .own=>false | _=>true) && wr rs
theorem wy:∀ {rs:List EV},wr rs=true->∀ r ∈ rs,r.k ≠ .own
 | [],_=>fun r h=>nomatch h
 | ⟨k,d⟩ :: rs,h=>fun r hr=>by
  rw [wr,Bool.and_eq_true] at h
  rcases List.mem_cons.mp hr with rfl | hr
  ·intro z
   have z':k=.own:=z
   subst z'
   exact absurd h.1 (by simp)
  ·exact wy h.2 r hr
noncomputable def dTup (t:TDs):TD:=fun ρ φ=>t ρ fun rs=>wr rs=true /\ Nat.ble rs.length 1000=true /\ φ (dv (.tup (rs.map EV.d)))
noncomputable def dLst (t:TDs):TD:=fun ρ φ=>t ρ fun rs=>wr rs=true /\ Nat.ble rs.length 1000=true /\ φ (df (.lst (rs.map EV.d)))
theorem uz {n:Nat} (h:Nat.ble n 1000=true):n <= sizeLine:=Nat.le_trans (Nat.le_of_ble_eq_true h) (by decide)
theorem RVs.length {K:W.Frag} {H0 H:Hp} {O:List Addr}:∀ {rs:List EV} {vs:List V},RVs K H0 H O rs vs->vs.length=rs.length
 | [],_,h=>by cases h; rfl
 | r :: rs,vs,h=>by
  obtain ⟨v,ws,rfl,_,t⟩:=h
  simp [RVs.length t]
theorem yp {x1} (h:EA Γ X es t):ED Γ X (.Tuple es x1 pos) (dTup t):=fun H₀=>impE (Xg (h H₀)) fun σ H Q q=>by
 obtain ⟨ρ,o,R,φ,hφ,k⟩:=q
 refine ⟨ρ,o,R,_,hφ,fun vs rs H1 s1 rvs h1=>⟨by rw [rvs.length]; exact uz h1.2.1,fun p hp=>?_⟩⟩
 exact k _ _ _ (s1.trans (zp hp _)) (RV.start (cu hp (rvs.reps (wy h1.1))) s1) h1.2.2
theorem yi (h:EA Γ X es t):ED Γ X (.List es pos) (dLst t):=fun H₀=>impE (Xi (h H₀)) fun σ H Q q=>by
 obtain ⟨ρ,o,R,φ,hφ,k⟩:=q
 refine ⟨ρ,o,R,_,hφ,fun vs rs H1 s1 rvs h1=>⟨by rw [rvs.length]; exact uz h1.2.1,fun p hp=>?_⟩⟩
 exact k _ _ _ (s1.trans (zp hp _)) (RV.start (tw (fun a e=>R.ofree (s1.free e)) hp (rvs.reps (wy h1.1))) s1) h1.2.2
noncomputable def sIx:D->D->(EV->Prop)->Prop:=fun x y φ=>match x,y with
 | .lst ds,.int i=>match atI ds i with
  | some d=>φ (dv d)
  | none=>False
 | .tup ds,.int i=>match atI ds i with
  | some d=>φ (dv d)
  | none=>False
 | .scr ns,.int i=>match atI ns i with
  | some n=>φ (dv (.int n))
  | none=>False
 | .str z,.int i=>z.length <= sizeLine /\ match atI z.cps.toList i with
  | some c=>φ (dv (.str ⟨#[c]⟩))
  | none=>False
 | _,_=>False
theorem W4 {K:W.Frag} {H:Hp} {O:List Addr} {ds:List D} {xs:List V} {i:Int} {d:D} (r:Reps K H O ds xs) (h:atI ds i=some d):∃ v,atI xs i=some v /\ Rep K H O d v:=by
 unfold atI at h ⊢
 rw [r.length]
 cases e:ixN ds.length i with
 | none=>rw [e] at h; cases h
 | some j =>
  rw [e] at h
  exact r.get h
theorem Na:tm X.K (rIx X.K) sIx:=by
 intro H O x y vx vy φ Q ho hx hy h k
 unfold sIx at h
 split at h
 ·obtain ⟨a,xs,rfl,q,r⟩:=hx
  split at h
  ·rename_i d e
   obtain ⟨v,ev,rv⟩:=W4 r e
   exact .inl ⟨a,xs,_,v,rfl,hy,SqL.of q,ev,k _ _ H (Same.refl H) (RV.val rv) h⟩
  ·exact h.elim
 ·obtain ⟨a,xs,rfl,q,r⟩:=hx
  split at h
  ·rename_i d e
   obtain ⟨v,ev,rv⟩:=W4 r e
   exact .inr (.inl ⟨a,xs,_,v,rfl,hy,q.1,ev,k _ _ H (Same.refl H) (RV.val rv) h⟩)
  ·exact h.elim
 ·obtain ⟨a,rfl,q⟩:=hx
  split at h
  ·rename_i n e
   refine .inl ⟨a,_,_,.int n,rfl,hy,q.seq,?_,k _ _ H (Same.refl H) (by exact rfl) h⟩
   unfold atI at e ⊢
   rw [zLm]
   cases e2:ixN _ _ with
   | none=>rw [e2] at e; cases e
   | some j =>
    rw [e2] at e
    exact (List.getElem?_map ..).trans (congrArg (Option.map V.int) e)
  ·exact h.elim
 ·obtain ⟨hz,h⟩:=h
  split at h
  ·rename_i c e
   exact .inr (.inr ⟨_,_,c,hx,hy,hz,e,k _ _ H (Same.refl H) (by exact rfl) h⟩)
  ·exact h.elim
 ·exact h.elim
noncomputable abbrev TDo:=DE->(Option Int->Prop)->Prop
noncomputable def Gk (K:W.Frag) (H₀:Hp) (t:TDo):TO:=fun σ H Q=>∃ ρ o,REnv K H₀ H σ ρ o /\ ∃ φ,t ρ φ /\ ∀ b H',Same H H'->φ b->Q b H'
noncomputable def EO (G:Hp->Prop) (X:Cx) (e:Option Expr) (t:TDo):Prop:=∀ H₀:{H:Hp // G H},PO X e (Gk X.K H₀.1 t)
noncomputable def Ky:TDo:=fun _ φ=>φ none
noncomputable def Kx (t:TD):TDo:=fun ρ φ=>t ρ fun r=>match r.d with
 | .int i=>φ (some i)
 | _=>False
theorem impO {e:Option Expr} {t t':TO} (h:PO X e t) (i:∀ σ H Q,t' σ H Q->t σ H Q):PO X e t':=fun pn s σ H Q I q=>h pn s σ H Q I (i σ H Q q)
theorem qy:EO Γ X none Ky:=fun H₀=>impO Oq fun σ H Q h=>by
 obtain ⟨ρ,o,R,φ,hφ,k⟩:=h
 exact k none H (Same.refl H) hφ
theorem vc (h:ED Γ X e te):EO Γ X (some e) (Kx te):=fun H₀=>impO (Oo (h H₀)) fun σ H Q q=>by
 obtain ⟨ρ,o,R,φ,hφ,k⟩:=q
 refine ⟨ρ,o,R,_,hφ,fun v r H1 s1 rv h1=>?_⟩
 obtain ⟨kd,d⟩:=r
 cases d with
 | int i=>exact ⟨i,rv.view,k _ H1 s1 h1⟩
 | _=>exact h1.elim
noncomputable def cutD (xs:List D) (lo hi:Option Int):List D:=(xs.drop (HT.sIx xs.length 0 lo)).take (HT.sIx xs.length xs.length hi - HT.sIx xs.length 0 lo)
theorem rb {K:W.Frag} {H:Hp} {O:List Addr} {ds:List D} {xs:List V} (r:Reps K H O ds xs) (lo hi:Option Int):Reps K H O (cutD ds lo hi) (cutV xs lo hi):=by
 unfold cutD cutV
 rw [r.length]
 exact (r.drop _).take _
noncomputable def sSl:D->Option Int->Option Int->(EV->Prop)->Prop:=fun x lo hi φ=>match x with
 | .lst ds=>φ (df (.lst (cutD ds lo hi)))
 | .scr ns=>φ (df (.lst (cutD (ns.map D.int) lo hi)))
 | .tup ds=>¬ (HT.sIx ds.length 0 lo=0 /\ HT.sIx ds.length ds.length hi=ds.length) /\ φ (dv (.tup (cutD ds lo hi)))
 | _=>False
noncomputable def dSl (te:TD) (tl th:TDo):TD:=fun ρ φ=>te ρ fun x=>tl ρ fun l=>th ρ fun u=>sSl x.d l u φ
theorem rh {lo hi:Option Expr} {tl th:TDo} {p2:Pos} (he:ED Γ X e te) (hl:EO Γ X lo tl) (hu:EO Γ X hi th):ED Γ X (.Subscript e (.Slice lo hi none p2) pos) (dSl te tl th):=fun H₀ =>
 impE (gf (O7.or P5) (he H₀) (hl H₀) (hu H₀)) fun σ H Q q=>by
  obtain ⟨ρ,o,R,φ,hφ,k⟩:=q
  refine ⟨ρ,o,R,_,hφ,fun v r H1 s1 rv h1=>⟨ρ,o,R.to s1,_,h1,fun l H2 s2 h2=>⟨ρ,o,R.to (s1.trans s2),_,h2,fun u H3 s3 h3=>?_⟩⟩⟩
  have s12:=s1.trans s2
  have s13:=s12.trans s3
  have vw:=(rv.same (s2.trans s3)).view
  obtain ⟨kd,d⟩:=r
  cases d with
  | lst ds =>
   obtain ⟨a,xs,rfl,q,r⟩:=vw
   refine .inl ⟨a,xs,rfl,SqL.of q,fun p hp=>?_⟩
   exact k _ _ _ (s13.trans (zp hp _)) (RV.start (tw (fun a e=>R.ofree (s13.free e)) hp (rb r l u)) s13) h3
  | scr ns =>
   obtain ⟨a,rfl,q⟩:=vw
   refine .inl ⟨a,_,rfl,q.seq,fun p hp=>?_⟩
   exact k _ _ _ (s13.trans (zp hp _)) (RV.start (tw (fun a e=>R.ofree (s13.free e)) hp (rb (Reps.ints ns) l u)) s13) h3
  | tup ds =>
   obtain ⟨a,xs,rfl,q,r⟩:=vw
   refine .inr ⟨a,xs,rfl,q.1,by rw [r.length]; exact h3.1,fun p hp=>?_⟩
   exact k _ _ _ (s13.trans (zp hp _)) (RV.start (cu hp (rb r l u)) s13) h3.2
  | _=>exact h3.elim
end
noncomputable def xf (r:EV):Prop:=match r.k with
 | .val=>ym r.d
 | .own=>False
 | .fre=>match r.d with
  | .lst ds=>y7 ds
  | .dk _ ds=>y7 ds
  | .dt _ ds=>y7 ds
  | _=>False
 | .new=>True
theorem RV.lift {K:W.Frag} {H0 H:Hp} {O:List Addr} {r:EV} {v:V} (h:RV K H0 H [] r v) (p:xf r) (ho:∀ a,H0 a=none->a ∉ O):RV K H0 H O r v:=by
 obtain ⟨k,d⟩:=r
 cases k with
 | val=>exact Rep.pure _ _ p h
 | own=>exact p.elim
 | fre =>
  obtain ⟨a,e,m,n,c⟩:=h
  refine ⟨a,e,m,ho a m,?_⟩
  cases d with
  | lst ds=>obtain ⟨xs,q,r⟩:=c; exact ⟨xs,q,Reps.pure _ _ p r⟩
  | dk ks ds=>obtain ⟨xs,q,l,nd,r⟩:=c; exact ⟨xs,q,l,nd,Reps.pure _ _ p r⟩
  | dt ks ds=>obtain ⟨xs,q,l,nd,r⟩:=c; exact ⟨xs,q,l,nd,Reps.pure _ _ p r⟩
  | _=>exact c.elim
 | new=>exact RepN.to (Same.refl H) (fun a z=>⟨ho a z.2,z.2⟩) _ _ h
noncomputable abbrev FT:=List D->(EV->Prop)->Prop
noncomputable def spD (K:W.Frag) (n:Nat) (T:FT):Sp:=fun vs H Q _=>∃ ds φ,ds.length=n /\ Reps K H [] ds vs /\ T ds φ /\ ∀ v r H',Same H H'->RV K H H' [] r v->xf r->φ r->Q v H'
structure FD (P:Program) (w:World) (K:W.Frag) (mg:Str->Option Value) (base:Heap) (k:Nat) (x:Str) (ps:List Str) (T:FT):Prop where
 ex:∃ f fd,FnOk P w K mg base CX0 k f fd ps (spD K ps.length T) /\ xw K fd ps [] /\ W.keepIn K (.ref f)=true /\ mg x=some (.ref f)
noncomputable def Qp (n:Nat) (T:FT) (t:TDs):TD:=fun ρ φ=>t ρ fun rs=>Nat.beq rs.length n=true /\ T (rs.map EV.d) φ
section
variable {X:Cx} {x:Str} {ps:List Str} {T:FT} {k:Nat} {e:Expr} {es:List Expr} {t:TDs} {p pos:Pos}
theorem Ue {H₀:Hp}:∀ σ H Q,vo X.K H₀ (Qp ps.length T t) σ H Q->Lb (spD X.K ps.length T) [] E0 (Ng X.K H₀ t) σ H Q:=fun σ H Q q=>by
 obtain ⟨ρ,o,R,φ,hφ,kk⟩:=q
 refine ⟨ρ,o,R,_,hφ,fun vs rs H1 s1 rvs h1=>?_⟩
 show spD X.K ps.length T (vs ++ []) H1 Q E0
 rw [List.append_nil]
 refine ⟨rs.map EV.d,φ,by rw [zLm]; exact Nat.eq_of_beq_eq_true h1.1,rvs.reps0,h1.2,fun v r H2 s2 rv pr h2=>?_⟩
 exact kk v r H2 (s1.trans s2) (RV.start (rv.lift pr fun a e=>R.ofree (s1.free e)) s1) h2
theorem zx (F:FD X.prog X.w X.K X.mg X.base k x ps T) (hr:Room k X.A) (ha:EA Γ X (e :: es) t) (hg:Gl X x:=by rfl) (hdb:(x == ("__debug__" : Str))=false:=by decide)
  (he:starEach (e :: es) X.env=(false,eval e X.env) :: starEach es X.env:=by rfl) (hpl:(backTo pos (starEach es X.env)).any (·.1)=false:=by rfl):ED Γ X (.Call (.Name x p) (e :: es) [] pos) (Qp ps.length T t):=fun H₀=>by
 obtain ⟨f,fd,ok,b,kp,m⟩:=F.ex
 exact impE (gi ok hr hg m kp b .nil gj (ha H₀) hdb he hpl) Ue
noncomputable def Mn (K:W.Frag) (H:Hp) (O:List Addr):List D->List V->Prop
 | [],vs=>vs=[]
 | d :: ds,vs=>∃ v ws,vs=v :: ws /\ View K H O d v /\ Mn K H O ds ws
theorem RVs.views {K:W.Frag} {H0 H:Hp} {O:List Addr}:∀ {rs:List EV} {vs:List V},RVs K H0 H O rs vs->Mn K H O (rs.map EV.d) vs
 | [],_,h=>h
 | r :: rs,vs,h=>by
  obtain ⟨v,ws,e,q,t⟩:=h
  exact ⟨v,ws,e,q.view,t.views⟩
noncomputable def S7 (K:W.Frag) (r:List V->Hp->VK->Prop) (s:FT):Prop :=
 ∀ (H:Hp) (O:List Addr) (ds:List D) (vs:List V) (φ:EV->Prop) (Q:VK),(∀ a,H a=none->a ∉ O)->Mn K H O ds vs->s ds φ->(∀ v r H',Same H H'->RV K H H' O r v->φ r->Q v H')->r vs H Q
noncomputable def dCB (s:FT) (t:TDs):TD:=fun ρ φ=>t ρ fun rs=>s (rs.map EV.d) φ
theorem Ud {r:List V->Hp->VK->Prop} {s:FT} (hl:S7 X.K r s) {H₀:Hp}:∀ σ H Q,vo X.K H₀ (dCB s t) σ H Q->tCB r (Ng X.K H₀ t) σ H Q:=fun σ H Q q=>by
 obtain ⟨ρ,o,R,φ,hφ,kk⟩:=q
 refine ⟨ρ,o,R,_,hφ,fun vs rs H1 s1 rvs h1=>?_⟩
 exact hl H1 _ _ vs φ Q (fun a e=>R.ofree (s1.free e)) rvs.views h1 fun v r H2 s2 rv h2=>kk v r H2 (s1.trans s2) (rv.start s1) h2
theorem rk {id:String} {r:List V->Hp->VK->Prop} {s:FT} (hc:u1 X (.builtin id) r) (hl:S7 X.K r s) (hm:X.mg x=none) (hv:bootBuiltins x=some (.builtin id)) (ha:EA Γ X (e :: es) t) (hg:Gl X x:=by rfl) (hn:x ≠ "__name__":=by decide) (hdb:(x == ("__debug__" : Str))=false:=by decide)
  (he:starEach (e :: es) X.env=(false,eval e X.env) :: starEach es X.env:=by rfl) (hpl:(backTo pos (starEach es X.env)).any (·.1)=false:=by rfl):ED Γ X (.Call (.Name x p) (e :: es) [] pos) (dCB s t):=fun H₀ =>
 impE (gh hc hg hm hv (ha H₀) hn hdb he hpl) (Ud hl)
theorem k7 {T:String} {r:List V->Hp->VK->Prop} {s:FT} (hc:u1 X (.type T) r) (hl:S7 X.K r s) (hm:X.mg x=none) (hv:bootBuiltins x=some (.type T)) (ha:EA Γ X (e :: es) t) (hg:Gl X x:=by rfl) (hn:x ≠ "__name__":=by decide) (hdb:(x == ("__debug__" : Str))=false:=by decide)
  (he:starEach (e :: es) X.env=(false,eval e X.env) :: starEach es X.env:=by rfl) (hpl:(backTo pos (starEach es X.env)).any (·.1)=false:=by rfl):ED Γ X (.Call (.Name x p) (e :: es) [] pos) (dCB s t):=fun H₀ =>
 impE (Vv hc hg hm hv (ha H₀) hn hdb he hpl) (Ud hl)
noncomputable def sLen:FT:=fun ds φ=>match ds with
 | [.lst l]=>φ (dv (.int l.length))
 | [.tup l]=>φ (dv (.int l.length))
 | [.scr l]=>φ (dv (.int l.length))
 | [.str z]=>z.length <= sizeLine /\ φ (dv (.int z.length))
 | _=>False
theorem Rt:S7 X.K (fun xs H Q=>(∃ p ys,xs=[.ref p] /\ (SqL X.K H p ys \/ SqT X.K H p ys) /\ Q (.int ys.length) H) \/ ∃ z,xs=[.str z] /\ z.length <= sizeLine /\ Q (.int z.length) H) sLen:=by
 intro H O ds vs φ Q ho hv h k
 unfold sLen at h
 split at h
 ·obtain ⟨v,ws,rfl,⟨a,xs,rfl,q,r⟩,rfl⟩:=hv
  refine .inl ⟨a,xs,rfl,.inl (SqL.of q),?_⟩
  rw [r.length]
  exact k _ _ H (Same.refl H) (by exact rfl) h
 ·obtain ⟨v,ws,rfl,⟨a,xs,rfl,q,r⟩,rfl⟩:=hv
  refine .inl ⟨a,xs,rfl,.inr q.1,?_⟩
  rw [r.length]
  exact k _ _ H (Same.refl H) (by exact rfl) h
 ·obtain ⟨v,ws,rfl,⟨a,rfl,q⟩,rfl⟩:=hv
  refine .inl ⟨a,_,rfl,.inl q.seq,?_⟩
  rw [zLm]
  exact k _ _ H (Same.refl H) (by exact rfl) h
 ·obtain ⟨v,ws,rfl,hz,rfl⟩:=hv
  cases (show v=_ from hz)
  exact .inr ⟨_,rfl,h.1,k _ _ H (Same.refl H) (by exact rfl) h.2⟩
 ·exact h.elim
theorem vh (hm:X.mg "len" = none) (ha:EA Γ X (e :: es) t) (hg:Gl X "len":=by rfl) (he:starEach (e :: es) X.env=(false,eval e X.env) :: starEach es X.env:=by rfl) (hpl:(backTo pos (starEach es X.env)).any (·.1)=false:=by rfl):ED Γ X (.Call (.Name "len" p) (e :: es) [] pos) (dCB sLen t) :=
 rk (Zh.or Zg) Rt hm PySem.boot_len ha hg (by decide) (by decide) he hpl
end
noncomputable def EV.sto (r:EV):EV:=⟨match r.k with
 | .fre=>.own
 | .new=>.val
 | k=>k,r.d⟩
noncomputable def EV.ret (r:EV):EV:=⟨match r.k with
 | .own=>.fre
 | k=>k,r.d⟩
noncomputable def setS:DE->Nat->EV->DE
 | [],_,_=>[]
 | _ :: r,0,v=>some v :: r
 | x :: r,i + 1,v=>x :: setS r i v
theorem xa:∀ (ρ:DE) (i:Nat) (v:EV),setS ρ i v=ρ.set i (some v)
 | [],_,_=>rfl
 | _ :: _,0,_=>rfl
 | x :: r,i + 1,v=>by rw [setS,xa r i v,List.set_cons_succ]
theorem Con.grow {K:W.Frag} {H H':Hp} {O O':List Addr} {d:D} {a:Addr} (h:Con K H O d a) (s:∀ u,H a=some u->H' a=some u) (g:Grow O O' H H'):Con K H' O' d a:=by
 cases d with
 | lst ds=>obtain ⟨xs,q,r⟩:=h; exact ⟨xs,s _ q,Reps.grow g _ _ r⟩
 | dk ks ds=>obtain ⟨xs,q,l,n,r⟩:=h; exact ⟨xs,s _ q,l,n,Reps.grow g _ _ r⟩
 | dt ks ds=>obtain ⟨xs,q,l,n,r⟩:=h; exact ⟨xs,s _ q,l,n,Reps.grow g _ _ r⟩
 | _=>exact h.elim
theorem Con.mtb {K:W.Frag} {H:Hp} {O:List Addr} {d:D} {a:Addr} (h:Con K H O d a):(∃ u,H a=some u) /\ (∀ xs,H a ≠ some (.tup xs)) /\ ∀ ob u,H a ≠ some (.frz ob u):=by
 cases d with
 | lst ds=>obtain ⟨xs,q,r⟩:=h; exact ⟨⟨_,q⟩,(fun xs z=>by rw [q] at z; cases z),(fun ob u z=>by rw [q] at z; cases z)⟩
 | dk ks ds=>obtain ⟨xs,q,r⟩:=h; exact ⟨⟨_,q⟩,(fun xs z=>by rw [q] at z; cases z),(fun ob u z=>by rw [q] at z; cases z)⟩
 | dt ks ds=>obtain ⟨xs,q,r⟩:=h; exact ⟨⟨_,q⟩,(fun xs z=>by rw [q] at z; cases z),(fun ob u z=>by rw [q] at z; cases z)⟩
 | _=>exact h.elim
section
variable {K:W.Frag} {H₀ H H':Hp} {σ:St} {ρ:DE} {o:List (Nat × Addr)}
theorem REnv.setV (R:REnv K H₀ H σ ρ o) (i:Nat) {d:D} {v:V} (h:Rep K H (o.map Prod.snd) d v):REnv K H₀ H (σ.set i (some v)) (setS ρ i (dv d)) o where
 same:=R.same
 fresh:=R.fresh
 trk:=R.trk
 mtb:=R.mtb
 nda:=R.nda
 len:=by rw [xa,List.length_set,List.length_set]; exact R.len
 slots:=fun j r e=>by
  rw [xa] at e
  by_cases hj:j=i
  ·subst hj
   have hl:j < ρ.length:=by
    rcases Nat.lt_or_ge j ρ.length with z | z
    ·exact z
    ·rw [List.getElem?_eq_none (by rw [List.length_set]; exact z)] at e
     cases e
   rw [List.getElem?_set_self hl] at e
   cases e
   exact ⟨v,List.getElem?_set_self (by rw [R.len]; exact hl),.inl ⟨rfl,h⟩⟩
  ·rw [List.getElem?_set_ne (Ne.symm hj)] at e
   obtain ⟨w,ew,q⟩:=R.slots j r e
   exact ⟨w,by rw [List.getElem?_set_ne (Ne.symm hj)]; exact ew,q⟩
theorem REnv.setO (R:REnv K H₀ H σ ρ o) (s:Same H H') (i:Nat) {d:D} {a:Addr} (ha:H a=none) (c:Con K H' (a :: o.map Prod.snd) d a) :
  REnv K H₀ H' (σ.set i (some (.ref a))) (setS ρ i (dO d)) ((i,a) :: o) /\ Grow (o.map Prod.snd) (((i,a) :: o).map Prod.snd) H H':=by
 have g:Grow (o.map Prod.snd) (((i,a) :: o).map Prod.snd) H H':=by
  refine ⟨fun b u h n=>⟨s b u h,fun z=>?_⟩,fun b xs h=>s b _ h,fun b ob u h=>s b _ h⟩
  rw [List.map_cons] at z
  rcases List.mem_cons.mp z with z | z
  ·exact zf h ha z
  ·exact n z
 refine ⟨?_,g⟩
 have R':=R.to s
 exact {
  same:=R'.same
  fresh:=fun p hp=>by
   rcases List.mem_cons.mp hp with rfl | hp
   ·exact R.same.free ha
   ·exact R.fresh p hp
  trk:=fun p hp=>by
   rcases List.mem_cons.mp hp with rfl | hp
   ·exact c.mtb.1
   ·exact R'.trk p hp
  mtb:=fun p hp=>by
   rcases List.mem_cons.mp hp with rfl | hp
   ·exact c.mtb.2
   ·exact R'.mtb p hp
  nda:=by
   rw [List.map_cons,List.nodup_cons]
   exact ⟨fun z=>R.ofree ha z,R.nda⟩
  len:=by rw [xa,List.length_set,List.length_set]; exact R.len
  slots:=fun j r e=>by
   rw [xa] at e
   by_cases hj:j=i
   ·subst hj
    have hl:j < ρ.length:=by
     rcases Nat.lt_or_ge j ρ.length with z | z
     ·exact z
     ·rw [List.getElem?_eq_none (by rw [List.length_set]; exact z)] at e
      cases e
    rw [List.getElem?_set_self hl] at e
    cases e
    exact ⟨_,List.getElem?_set_self (by rw [R.len]; exact hl),.inr ⟨rfl,a,rfl,List.mem_cons_self ..,c⟩⟩
   ·rw [List.getElem?_set_ne (Ne.symm hj)] at e
    obtain ⟨w,ew,q⟩:=R.slots j r e
    refine ⟨w,by rw [List.getElem?_set_ne (Ne.symm hj)]; exact ew,?_⟩
    rcases q with ⟨k,q⟩ | ⟨k,a',e1,m,c'⟩
    ·exact .inl ⟨k,Rep.grow g _ _ q⟩
    ·exact .inr ⟨k,a',e1,List.mem_cons_of_mem _ m,c'.grow (fun u q=>s _ _ q) g⟩ }
theorem REnv.put (R:REnv K H₀ H σ ρ o) (s:Same H H') (i:Nat) {r:EV} {v:V} (h:RV K H H' (o.map Prod.snd) r v) (hk:r.k ≠ .own) :
  ∃ o',REnv K H₀ H' (σ.set i (some v)) (setS ρ i r.sto) o' /\ Grow (o.map Prod.snd) (o'.map Prod.snd) H H':=by
 obtain ⟨k,d⟩:=r
 cases k with
 | val=>exact ⟨_,(R.to s).setV i h,Grow.same s⟩
 | own=>exact absurd rfl hk
 | fre =>
  obtain ⟨a,rfl,m,n,c⟩:=h
  exact ⟨_,R.setO s i m c⟩
 | new=>exact ⟨_,(R.to s).setV i (RepN.rep (fun a z=>z.1) _ _ h),Grow.same s⟩
theorem Yk:∀ {o:List (Nat × Addr)},(o.map Prod.snd).Nodup->∀ {p q:Nat × Addr},p ∈ o->q ∈ o->p.2=q.2->p=q
 | [],_,_,_,h,_,_=>nomatch h
 | x :: o,nd,p,q,hp,hq,e=>by
  rw [List.map_cons,List.nodup_cons] at nd
  rcases List.mem_cons.mp hp with h1 | hp
  ·rcases List.mem_cons.mp hq with h2 | hq
   ·rw [h1,h2]
   ·exact absurd (List.mem_map.mpr ⟨q,hq,by rw [<- e,h1]⟩) nd.1
  ·rcases List.mem_cons.mp hq with h2 | hq
   ·exact absurd (List.mem_map.mpr ⟨p,hp,by rw [e,h2]⟩) nd.1
   ·exact Yk nd.2 hp hq e
theorem REnv.chg (R:REnv K H₀ H σ ρ o) {i:Nat} {a:Addr} {d d':D} {ho:HO} (hs:ρ[i]?=some (some (dO d))) (hσ:σ[i]?=some (some (.ref a))) (hm:(i,a) ∈ o) (hho:(∀ xs,ho ≠ .tup xs) /\ ∀ ob u,ho ≠ .frz ob u)
  (c:(∀ ds xs,Reps K H (o.map Prod.snd) ds xs->Reps K (upd H a ho) (o.map Prod.snd) ds xs)->Con K (upd H a ho) (o.map Prod.snd) d' a) :
  REnv K H₀ (upd H a ho) σ (setS ρ i (dO d')) o /\ Grow (o.map Prod.snd) (o.map Prod.snd) H (upd H a ho):=by
 have ha:a ∈ o.map Prod.snd:=List.mem_map.mpr ⟨_,hm,rfl⟩
 obtain ⟨m1,m2⟩:=R.mtb _ hm
 have g:Grow (o.map Prod.snd) (o.map Prod.snd) H (upd H a ho) :=
  ⟨fun b u h n=>⟨by rw [zj (show b ≠ a from fun z=>n (by rw [z]; exact ha))]; exact h,n⟩,fun b xs h=>by rw [zj (show b ≠ a from fun z=>m1 xs (by rw [<- z]; exact h))]; exact h,fun b ob u h=>by rw [zj (show b ≠ a from fun z=>m2 ob u (by rw [<- z]; exact h))]; exact h⟩
 refine ⟨?_,g⟩
 exact {
  same:=fun b u h=>by
   have:b ≠ a:=fun z=>by
    have:=R.fresh _ hm
    rw [<- z,h] at this
    cases this
   rw [zj this]
   exact R.same b u h
  fresh:=R.fresh
  trk:=fun p hp=>by
   by_cases e:p.2=a
   ·exact ⟨ho,by rw [e]; exact zi⟩
   ·rw [zj e]
    exact R.trk p hp
  mtb:=fun p hp=>by
   by_cases e:p.2=a
   ·rw [e,zi]
    exact ⟨fun xs z=>hho.1 xs (Option.some.inj z),fun ob u z=>hho.2 ob u (Option.some.inj z)⟩
   ·rw [zj e]
    exact R.mtb p hp
  nda:=R.nda
  len:=by rw [xa,List.length_set]; exact R.len
  slots:=fun j r e=>by
   rw [xa] at e
   by_cases hj:j=i
   ·subst hj
    have hl:j < ρ.length:=(List.getElem?_eq_some_iff.mp hs).1
    rw [List.getElem?_set_self hl] at e
    cases e
    obtain ⟨v,ev,q⟩:=R.slots j _ hs
    rcases q with ⟨k,_⟩ | ⟨_,a',e1,m',_⟩
    ·cases k
    ·have haa:a'=a:=by
      rw [hσ] at ev
      cases ev
      cases e1
      rfl
     subst haa
     exact ⟨v,ev,.inr ⟨rfl,a',e1,hm,c fun ds xs q=>Reps.grow g _ _ q⟩⟩
   ·rw [List.getElem?_set_ne (Ne.symm hj)] at e
    obtain ⟨w,ew,q⟩:=R.slots j r e
    refine ⟨w,ew,?_⟩
    rcases q with ⟨k,q⟩ | ⟨k,a',e1,m',c'⟩
    ·exact .inl ⟨k,Rep.grow g _ _ q⟩
    ·refine .inr ⟨k,a',e1,m',c'.grow (fun u q=>?_) g⟩
     have hne:a' ≠ a:=fun z=>by
      exact hj (congrArg Prod.fst (Yk R.nda m' hm z))
     rw [zj hne]
     exact q }
end
section
variable {X:Cx} {st:Stmt} {rest:List Stmt} {t u:TDS} {e:Expr} {te:TD} {tc:TDb} {pos:Pos}
noncomputable def sNil:TDS:=fun ρ Z=>Z.nx ρ
noncomputable def sSeq (t u:TDS):TDS:=fun ρ Z=>t ρ { Z with nx:=fun ρ'=>u ρ' Z }
theorem y9:SDs Γ X [] sNil:=fun H₀=>fq qe fun D σ H h=>by
 obtain ⟨ρ,o,R,Z,hZ,k1,_⟩:=h
 exact k1 ρ σ H o Grow.refl R hZ
theorem ze (h1:SD Γ X st t) (h2:SDs Γ X rest u):SDs Γ X (st :: rest) (sSeq t u):=fun H₀=>fq (wt (h1 H₀) (h2 H₀)) fun D σ H h=>by
 obtain ⟨ρ,o,R,Z,hZ,k1,k2,k3,k4⟩:=h
 refine ⟨ρ,o,R,_,hZ,fun ρ' σ' H' o' g R' q=>?_,k2,k3,k4⟩
 exact ⟨ρ',o',R',Z,q,fun ρ2 σ2 H2 o2 g2 R2 q2=>k1 ρ2 σ2 H2 o2 (g.trans g2) R2 q2,fun ρ2 σ2 H2 o2 g2 R2 q2=>k2 ρ2 σ2 H2 o2 (g.trans g2) R2 q2,fun ρ2 σ2 H2 o2 g2 R2 q2=>k3 ρ2 σ2 H2 o2 (g.trans g2) R2 q2,k4⟩
theorem zl (h1:SD Γ X st t):SDs Γ X [st] t:=fun H₀=>qc (h1 H₀)
theorem Zu:SD Γ X (.Continue pos) (fun ρ Z=>Z.ct ρ):=fun H₀=>impS Y0 fun D σ H h=>by
 obtain ⟨ρ,o,R,Z,hZ,_,_,k3,_⟩:=h
 exact k3 ρ σ H o Grow.refl R hZ
theorem Sv {sts:List Stmt}:SDs Γ X sts (fun _ _=>False):=fun H₀=>fq cy fun D σ H h=>by
 obtain ⟨_,_,_,_,hZ,_⟩:=h
 exact hZ.elim
noncomputable def sRet (te:TD):TDS:=fun ρ Z=>te ρ fun r=>Z.rt r.ret
theorem RV.ret {K:W.Frag} {H₀ H H':Hp} {σ:St} {ρ:DE} {o:List (Nat × Addr)} (R:REnv K H₀ H σ ρ o) {r:EV} {v:V} (h:RV K H H' (o.map Prod.snd) r v):RV K H₀ H' [] r.ret v:=by
 obtain ⟨k,d⟩:=r
 cases k with
 | val=>exact Rep.sub (O':=[]) (fun _ z=>absurd z (by simp)) _ _ h
 | own =>
  obtain ⟨a,e,m,c⟩:=h
  obtain ⟨p,hp,ep⟩:=List.mem_map.mp m
  subst ep
  exact ⟨p.2,e,R.fresh p hp,by simp,c.sub fun b hb=>by
   have:b=p.2:=by simpa using hb
   rw [this]
   exact m⟩
 | fre =>
  obtain ⟨a,e,m,n,c⟩:=h
  exact ⟨a,e,R.same.free m,by simp,c.sub fun b hb=>by
   have:b=a:=by simpa using hb
   rw [this]
   exact List.mem_cons_self ..⟩
 | new=>exact RepN.to (Same.refl H') (fun a z=>⟨by simp,R.same.free z.2⟩) _ _ h
theorem y3 (he:ED Γ X e te):SD Γ X (.Return (some e) pos) (sRet te):=fun H₀=>impS (cz (he H₀)) fun D σ H h=>by
 obtain ⟨ρ,o,R,Z,hZ,k1,k2,k3,k4⟩:=h
 refine ⟨ρ,o,R,_,hZ,fun v r H1 s1 rv h1=>?_⟩
 exact k4 v r.ret H1 (R.same.trans s1) (RV.ret R rv) h1
noncomputable def sIf (tc:TDb) (t u:TDS):TDS:=fun ρ Z=>tc ρ fun c=>(c=true->t ρ Z) /\ (c=false->u ρ Z)
theorem xg {c:Expr} {a b:List Stmt} (hc:ET Γ X c tc) (ha:SDs Γ X a t) (hb:SDs Γ X b u):SD Γ X (.If c a b pos) (sIf tc t u):=fun H₀=>impS (Om (hc H₀) (ha H₀) (hb H₀)) fun D σ H h=>by
 obtain ⟨ρ,o,R,Z,hZ,k1,k2,k3,k4⟩:=h
 refine ⟨ρ,o,R,_,hZ,fun c H1 s1 h1=>?_⟩
 have g:Grow (o.map Prod.snd) (o.map Prod.snd) H H1:=Grow.same s1
 have kk:∀ {v:TDS},v ρ Z->Y6 X.K H₀.1 v D σ H1:=fun hv=>⟨ρ,o,R.to s1,Z,hv,fun ρ2 σ2 H2 o2 g2 R2 q2=>k1 ρ2 σ2 H2 o2 (g.trans g2) R2 q2,fun ρ2 σ2 H2 o2 g2 R2 q2=>k2 ρ2 σ2 H2 o2 (g.trans g2) R2 q2,fun ρ2 σ2 H2 o2 g2 R2 q2=>k3 ρ2 σ2 H2 o2 (g.trans g2) R2 q2,k4⟩
 cases c with
 | true=>exact iteT (kk (h1.1 rfl))
 | false=>exact iteF (kk (h1.2 rfl))
noncomputable def sCut (t:TDS):TDS:=fun ρ Z=>∃ J:DE->Prop,t ρ { Z with nx:=J } /\ ∀ ρ',J ρ'->Z.nx ρ'
theorem zk (h:SD Γ X st t):SD Γ X st (sCut t):=fun H₀=>impS (h H₀) fun D σ H h=>by
 obtain ⟨ρ,o,R,Z,⟨J,hZ,hJ⟩,k1,k2,k3,k4⟩:=h
 exact ⟨ρ,o,R,_,hZ,fun ρ2 σ2 H2 o2 g2 R2 q2=>k1 ρ2 σ2 H2 o2 g2 R2 (hJ ρ2 q2),k2,k3,k4⟩
noncomputable def Lk (te:TD):TDS:=fun ρ Z=>te ρ fun _=>Z.nx ρ
theorem Zt (he:ED Γ X e te) (hs:swapsWith e none pos.line X.env=pure false:=by rfl):SD Γ X (.Expr e pos) (Lk te):=fun H₀=>impS (ue (he H₀) hs) fun D σ H h=>by
 obtain ⟨ρ,o,R,Z,hZ,k1,k2,k3,k4⟩:=h
 exact ⟨ρ,o,R,_,hZ,fun v r H1 s1 rv h1=>k1 ρ σ H1 o (Grow.same s1) (R.to s1) h1⟩
noncomputable def sSet (i:Nat) (te:TD):TDS:=fun ρ Z=>te ρ fun r=>(match r.k with | .own=>False | _=>True) /\ Z.nx (setS ρ i r.sto)
theorem v3 {r:EV} (h:match r.k with | .own=>False | _=>True):r.k ≠ .own:=by
 obtain ⟨k,d⟩:=r
 cases k with
 | own=>exact h.elim
 | val=>exact fun z=>nomatch z
 | fre=>exact fun z=>nomatch z
 | new=>exact fun z=>nomatch z
theorem zy (i:Nat) {x:Str} {pos':Pos} (hN:X.N.Nodup) (he:ED Γ X e te) (hi:X.N[i]?=some x:=by rfl) (hx:Loc X.env.scope x:=by first | exact Or.inl rfl | exact Or.inr rfl) (hs:swapsWith e (some (.Name x pos')) pos.line X.env=pure false:=by rfl)
  (hf:X.fn x=true \/ X.env.scope.names.lookup x=some .local:=by first | exact .inl rfl | exact .inr rfl | assumption):SD Γ X (.Assign [.Name x pos'] e pos) (sSet i te):=fun H₀=>impS (qf hN hi hx (he H₀) hs hf) fun D σ H h=>by
 obtain ⟨ρ,o,R,Z,hZ,k1,k2,k3,k4⟩:=h
 refine ⟨ρ,o,R,_,hZ,fun v r H1 s1 rv h1=>?_⟩
 obtain ⟨o',R',g⟩:=R.put s1 i rv (v3 h1.1)
 exact k1 _ _ H1 o' g R' h1.2
noncomputable abbrev TGD:=D->DE->(DE->Prop)->Prop
noncomputable def c9 (K:W.Frag) (g2:TG) (g:TGD):Prop:=∀ (H₀ H:Hp) (σ:St) (ρ:DE) (o:List (Nat × Addr)) (d:D) (v:V) (ψ:DE->Prop) (Q:St->Hp->Prop),REnv K H₀ H σ ρ o->Rep K H (o.map Prod.snd) d v->g d ρ ψ ->
 (∀ ρ' σ',REnv K H₀ H σ' ρ' o->ψ ρ'->Q σ' H)->g2 v σ H Q
noncomputable def gN (i:Nat):TGD:=fun d ρ ψ=>ψ (setS ρ i (dv d))
theorem xm {K:W.Frag} (i:Nat):c9 K (kz i) (gN i):=fun H₀ H σ ρ o d v ψ Q R h hg k=>k _ _ (R.setV i h) hg
noncomputable def gT2 (i j:Nat):TGD:=fun d ρ ψ=>match d with
 | .tup [a,b]=>ψ (setS (setS ρ i (dv a)) j (dv b))
 | _=>False
theorem d8 {K:W.Frag} (i j:Nat):c9 K (gTup K 2 (Wu (kz i) (Wu (kz j) gNil))) (gT2 i j):=fun H₀ H σ ρ o d v ψ Q R h hg k=>by
 unfold gT2 at hg
 split at hg
 ·rename_i a b
  obtain ⟨p,xs,rfl,q,r⟩:=h
  obtain ⟨v1,r1,rfl,h1,v2,r2,rfl,h2,rfl⟩:=r
  refine ⟨p,_,rfl,q.1,rfl,v1,_,rfl,v2,_,rfl,rfl,?_⟩
  have R1:=R.setV i h1
  have R2:=R1.setV j h2
  exact k _ _ R2 hg
 ·exact hg.elim
noncomputable def sWh (tc:TDb) (tb:TDS):TDS:=fun ρ Z=>∃ (P:DE->Prop) (μ:DE->Nat),P ρ /\ ∀ ρ,P ρ->tc ρ fun c =>
 (c=true->tb ρ { Z with nx:=fun ρ'=>P ρ' /\ μ ρ' < μ ρ,ct:=fun ρ'=>P ρ' /\ μ ρ' < μ ρ,bk:=Z.nx }) /\ (c=false->Z.nx ρ)
theorem R5 {c:Expr} {body:List Stmt} {tb:TDS} (hc:ET Γ X c tc) (hb:SDs Γ X body tb) (hp:PassesOwn (model X.prog X.w) X.A X.env X.xe:=by exact PassesOwn.never):SD Γ X (.While c body [] pos) (sWh tc tb):=fun H₀=>impS (Xd hp (hc H₀) (hb H₀)) fun D σ H h=>by
 obtain ⟨ρ,o,R,Z,⟨P,μ,hP,turn⟩,k1,k2,k3,k4⟩:=h
 refine ⟨fun m σ' H'=>∃ ρ' o',Grow (o.map Prod.snd) (o'.map Prod.snd) H H' /\ REnv X.K H₀ H' σ' ρ' o' /\ P ρ' /\ μ ρ'=m,⟨_,ρ,o,Grow.refl,R,hP,rfl⟩,?_⟩
 rintro m σ1 H1 ⟨ρ1,o1,g1,R1,p1,rfl⟩
 refine ⟨ρ1,o1,R1,_,turn ρ1 p1,fun c H2 s2 h2=>?_⟩
 have g2:=g1.trans (Grow.same (O:=o1.map Prod.snd) s2)
 cases c with
 | true =>
  refine iteT ⟨fun σ' H'=>∃ ρ' o',Grow (o.map Prod.snd) (o'.map Prod.snd) H H' /\ REnv X.K H₀ H' σ' ρ' o' /\ P ρ' /\ μ ρ' < μ ρ1,fun σ' H' ⟨ρ',o',g,R',p,l⟩=>⟨_,l,ρ',o',g,R',p,rfl⟩,?_⟩
  exact ⟨ρ1,o1,R1.to s2,_,h2.1 rfl,fun ρ' σ' H' o' g R' q=>⟨ρ',o',g2.trans g,R',q.1,q.2⟩,fun ρ' σ' H' o' g R' q=>k1 ρ' σ' H' o' (g2.trans g) R' q,fun ρ' σ' H' o' g R' q=>⟨ρ',o',g2.trans g,R',q.1,q.2⟩,k4⟩
 | false=>exact iteF (k1 ρ1 σ1 H2 o1 g2 (R1.to s2) (h2.2 rfl))
structure ItD (K:W.Frag) (J:It) (ds:List D) (P:Hp->List Addr->Prop):Prop where
 go:∀ (H:Hp) (O:List Addr) (i:Nat) (d:D),P H O->ds[i]?=some d->J.go i H /\ ∀ x H',J.yld i H x H'->Same H H' /\ Rep K H' O d x
 stop:∀ (H:Hp) (O:List Addr),P H O->J.stop ds.length H
 keep:∀ (O O':List Addr) (H H':Hp),P H O->Grow O O' H H'->P H' O'
noncomputable abbrev TID:=DE->(List D->Prop)->Prop
noncomputable def Nd (K:W.Frag) (H₀:Hp) (t:TID):TI:=fun σ H R=>∃ ρ o,REnv K H₀ H σ ρ o /\ ∃ φ,t ρ φ /\ ∀ J ds P H',Same H H'->ItD K J ds P->P H' (o.map Prod.snd)->φ ds->R J H'
noncomputable def EI (G:Hp->Prop) (X:Cx) (tg iter:Expr) (t:TID):Prop:=∀ H₀:{H:Hp // G H},PI X tg iter (Nd X.K H₀.1 t)
noncomputable def sFor (ti:TID) (g:TGD) (tb:TDS):TDS:=fun ρ Z=>ti ρ fun ds=>∃ P:Nat->DE->Prop,P 0 ρ /\ (∀ i d ρ,ds[i]?=some d->P i ρ->g d ρ fun ρ'=>tb ρ' { Z with nx:=P (i + 1),ct:=P (i + 1),bk:=Z.nx }) /\ ∀ ρ,P ds.length ρ->Z.nx ρ
theorem cq {tg iter:Expr} {body:List Stmt} {ti:TID} {g2:TG} {g:TGD} {tb:TDS} (hi:EI Γ X tg iter ti) (hg:PG X tg g2) (hl:c9 X.K g2 g) (hb:SDs Γ X body tb) (hc:X.calm=true:=by rfl) (hp:PassesOwn (model X.prog X.w) X.A X.env X.xe:=by exact PassesOwn.never)
  (hs:∀ x,foldedSetIterable iter X.env x=pure x:=by intro _; rfl):SD Γ X (.For tg iter body [] pos) (sFor ti g tb):=fun H₀=>impS (K6 hp hc (hi H₀) hg (hb H₀) hs) fun D σ H h=>by
 obtain ⟨ρ,o,R,Z,hZ,k1,k2,k3,k4⟩:=h
 refine ⟨ρ,o,R,_,hZ,fun J ds PJ H1 s1 I hP ⟨P,p0,turn,fin⟩=>?_⟩
 refine ⟨fun i m σ' H'=>m=ds.length - i /\ i <= ds.length /\ ∃ ρ' o',Grow (o.map Prod.snd) (o'.map Prod.snd) H1 H' /\ REnv X.K H₀ H' σ' ρ' o' /\ P i ρ',⟨_,rfl,Nat.zero_le _,ρ,o,Grow.refl,R.to s1,p0⟩,?_⟩
 rintro i m σ' H' ⟨rfl,hi',ρ',o',g',R',p'⟩
 have hP':=I.keep _ _ _ _ hP g'
 have gg:Grow (o.map Prod.snd) (o'.map Prod.snd) H H':=(Grow.same s1).trans g'
 by_cases hlt:i < ds.length
 ·have ed:ds[i]?=some ds[i]:=by simp [hlt]
  obtain ⟨j1,j2⟩:=I.go H' _ i _ hP' ed
  refine .inr ⟨j1,fun σ2 H2=>∃ ρ2 o2,Grow (o.map Prod.snd) (o2.map Prod.snd) H1 H2 /\ REnv X.K H₀ H2 σ2 ρ2 o2 /\ P (i + 1) ρ2,fun σ2 H2 ⟨ρ2,o2,g2,R2,p2⟩=>⟨_,(by omega:ds.length - (i + 1) < ds.length - i),rfl,hlt,ρ2,o2,g2,R2,p2⟩,fun x H2 y=>?_⟩
  obtain ⟨s2,rp⟩:=j2 x H2 y
  refine hl H₀.1 H2 σ' ρ' o' _ x _ _ (R'.to s2) rp (turn i _ ρ' ed p') fun ρ3 σ3 R3 q3=>?_
  have g13:Grow (o.map Prod.snd) (o'.map Prod.snd) H1 H2:=g'.trans (Grow.same s2)
  have gg3:Grow (o.map Prod.snd) (o'.map Prod.snd) H H2:=gg.trans (Grow.same s2)
  exact ⟨ρ3,o',R3,_,q3,fun ρ4 σ4 H4 o4 g4 R4 q4=>⟨ρ4,o4,g13.trans g4,R4,q4⟩,fun ρ4 σ4 H4 o4 g4 R4 q4=>k1 ρ4 σ4 H4 o4 (gg3.trans g4) R4 q4,fun ρ4 σ4 H4 o4 g4 R4 q4=>⟨ρ4,o4,g13.trans g4,R4,q4⟩,k4⟩
 ·have e:i=ds.length:=by omega
  subst e
  exact .inl ⟨I.stop H' _ hP',k1 ρ' σ' H' o' gg R' (fin ρ' p')⟩
end
section
variable {X:Cx} {tg e:Expr} {te:TD} {t:TDs} {pos:Pos}
theorem impI {iter:Expr} {t t':TI} (h:PI X tg iter t) (i:∀ σ H R,t' σ H R->t σ H R):PI X tg iter t':=fun pn s σ H R I q=>h pn s σ H R I (i σ H R q)
noncomputable def PV (X:Cx) (tg:Expr) (r:V->Hp->(It->Hp->Prop)->Prop):Prop :=
 ∀ (pn:List (Addr × Obj)) (s:Shared) (σ:St) (H:Hp) (x:V) (v:Value) (R:It->Hp->Prop),Inv X pn σ H s->RelV x v->r x H R->wpAny (model X.prog X.w) X.A (pyIter v) (PIE X pn σ tg R) X.xe s
theorem Gc {l:Expr} {tl:TE} {r:V->Hp->(It->Hp->Prop)->Prop} (hl:PE X l tl) (hv:PV X tg r):PI X tg l (fun σ H R=>tl σ H fun x H1=>r x H1 R):=fun pn s σ H R I h =>
 thn (hl pn s σ H _ I h) fun v s1 ⟨x,H1,I1,r1,q1⟩=>hv pn s1 σ H1 x v R I1 r1 q1
theorem Oj:PV X tg (fun x H R=>∃ a,x=.ref a /\ (∃ xs,SqL X.K H a xs) /\ R (Itl X.K a) H):=by
 intro pn s1 σ H1 x v R I1 r1 q1
 obtain ⟨a,e,⟨xs,hq⟩,q⟩:=q1
 subst e
 cases r1
 obtain ⟨its,rv,p,hz⟩:=I1.list hq
 refine wpAny_pyIter_list p.isList ?_
 refine ⟨s1.heap.objs.size,[s1.heap.objs.size],_,_,H1,rfl,I1.kept (t':=s1.toks) fun b o e=>Heap.get?_push_of_some _ e,V8 a _,⟨_,Heap.get?_push_size _ rfl,rfl,rfl⟩,fun b hb=>?_,q⟩
 have e:b=s1.heap.objs.size:=by simpa using hb
 subst e
 exact I1.fpOk (Nat.le_refl _) (I1.hok.fresh (Nat.le_refl _))
theorem K2:PV X tg (fun x H R=>∃ a,x=.ref a /\ (∃ xs,SqT X.K H a xs) /\ R (Itt X.K a) H):=by
 intro pn s1 σ H1 x v R I1 r1 q1
 obtain ⟨a,e,⟨xs,hq⟩,q⟩:=q1
 subst e
 cases r1
 obtain ⟨its,rv,p,hz⟩:=I1.tuple hq
 refine wpAny_pyIter_tuple (show s1.heap.IsTuple a its.toArray from p) ?_
 refine ⟨s1.heap.objs.size,[s1.heap.objs.size],_,_,H1,rfl,I1.kept (t':=s1.toks) fun b o e=>Heap.get?_push_of_some _ e,W8 a _,⟨_,Heap.get?_push_size _ rfl,rfl,rfl⟩,fun b hb=>?_,q⟩
 have e:b=s1.heap.objs.size:=by simpa using hb
 subst e
 exact I1.fpOk (Nat.le_refl _) (I1.hok.fresh (Nat.le_refl _))
theorem K3:PV X tg (fun x H R=>∃ z,x=.str z /\ R (Itv z.cps.size (Mo z)) H):=by
 intro pn s1 σ H1 x v R I1 r1 q1
 obtain ⟨z,e,q⟩:=q1
 subst e
 obtain ⟨t,rfl⟩:=r1
 have lay:∀ (T:String),(∀ A:Around,A.handled=none->Walks X.prog X.w A s1.heap.objs.size [s1.heap.objs.size] [s1.heap.objs.size] z.cps.size (SignAt z) (fun i h=>h.IsStrIter s1.heap.objs.size T z t i)) ->
   (∀ (A:Around) (i:Nat) (s:Shared) (Q:Value->Shared->Prop) (E:Value->Shared->Prop),s.heap.IsStrIter s1.heap.objs.size T z t i->Q (.ref s1.heap.objs.size) s->wpAny (model X.prog X.w) A (pyIter (.ref s1.heap.objs.size)) Q E s) ->
   ["enumerate", "zip", "dict_itemiterator", "dict_reverseitemiterator", "odict_iterator", "itertools.zip_longest", "itertools.pairwise"].contains T=false ->
   PIE X pn σ tg R (.ref s1.heap.objs.size) { s1 with heap:=s1.heap.push { cls:=.type T,data:=.fields #[.str z t,.int 0 0] } }:=fun T W hs hT=>by
  have I2:Inv X pn σ H1 { s1 with heap:=s1.heap.push { cls:=.type T,data:=.fields #[.str z t,.int 0 0] } }:=I1.kept (t':=s1.toks) fun b u e=>Heap.get?_push_of_some _ e
  refine ⟨s1.heap.objs.size,[s1.heap.objs.size],_,_,H1,rfl,I2,Sj W hs hT,⟨_,Heap.get?_push_size _ rfl,rfl,rfl⟩,fun b hb=>?_,q⟩
  have e:b=s1.heap.objs.size:=by simpa using hb
  subst e
  exact I1.fpOk (Nat.le_refl _) I1.fresh
 cases ha:z.cps.all (· < 128)
 ·exact wpAny_pyIter_wide ha (lay "str_iterator" (fun A hA=>Walks.strWide hA _ z t) (fun A i s Q E st q=>wpAny_pyIter_striter_wide st q) (by decide))
 ·exact wpAny_pyIter_ascii ha (lay "str_ascii_iterator" (fun A hA=>Walks.strAscii hA _ z t) (fun A i s Q E st q=>wpAny_pyIter_striter_ascii st q) (by decide))
noncomputable def Pi:D->Option (List D)
 | .lst ds=>some ds
 | .tup ds=>some ds
 | .scr ns=>some (ns.map D.int)
 | .str z=>some (z.cps.toList.map fun c=>D.str ⟨#[c]⟩)
 | _=>none
noncomputable def iSeq (te:TD):TID:=fun ρ φ=>te ρ fun r=>(match r.k with | .own=>False | _=>True) /\ match Pi r.d with
 | some ds=>φ ds
 | none=>False
theorem Jm {K:W.Frag} {a:Addr} {ds:List D}:ItD K (Itl K a) ds (fun H O=>∃ xs,H a=some (.lst xs) /\ a ∉ O /\ Reps K H O ds xs) where
 go:=fun H O i d ⟨xs,q,n,r⟩ e=>by
  obtain ⟨v,ev,rv⟩:=r.get e
  refine ⟨⟨xs,v,SqL.of q,ev⟩,fun x H' y=>?_⟩
  obtain ⟨e1,y⟩:=y
  subst e1
  have:=y xs (SqL.of q)
  rw [ev] at this
  cases this
  exact ⟨Same.refl _,rv⟩
 stop:=fun H O ⟨xs,q,n,r⟩=>⟨xs,SqL.of q,by rw [r.length]; exact Nat.le_refl _⟩
 keep:=fun O O' H H' ⟨xs,q,n,r⟩ g=>⟨xs,(g.keep _ _ q n).1,(g.keep _ _ q n).2,Reps.grow g _ _ r⟩
theorem Ji {K:W.Frag} {a:Addr} {ds:List D}:ItD K (Itt K a) ds (fun H O=>∃ xs,SqT K H a xs /\ Reps K H O ds xs) where
 go:=fun H O i d ⟨xs,q,r⟩ e=>by
  obtain ⟨v,ev,rv⟩:=r.get e
  refine ⟨⟨xs,v,q,ev⟩,fun x H' y=>?_⟩
  obtain ⟨e1,y⟩:=y
  subst e1
  have:=y xs q
  rw [ev] at this
  cases this
  exact ⟨Same.refl _,rv⟩
 stop:=fun H O ⟨xs,q,r⟩=>⟨xs,q,by rw [r.length]; exact Nat.le_refl _⟩
 keep:=fun O O' H H' ⟨xs,q,r⟩ g=>⟨xs,jx g q,Reps.grow g _ _ r⟩
theorem Jk {K:W.Frag} {a:Addr} {ns:List Int}:ItD K (Itl K a) (ns.map D.int) (fun H _=>Scr K H a ns) where
 go:=fun H O i d q e=>by
  rw [List.getElem?_map] at e
  cases en:ns[i]? with
  | none=>rw [en] at e; cases e
  | some n =>
   rw [en] at e
   cases e
   have ev:(ns.map V.int)[i]?=some (.int n):=by rw [List.getElem?_map,en]; rfl
   refine ⟨⟨_,_,q.seq,ev⟩,fun x H' y=>?_⟩
   obtain ⟨e1,y⟩:=y
   subst e1
   have:=y _ q.seq
   rw [ev] at this
   cases this
   exact ⟨Same.refl _,rfl⟩
 stop:=fun H O q=>⟨_,q.seq,by rw [zLm,zLm]; exact Nat.le_refl _⟩
 keep:=fun O O' H H' q g=>ra g q
theorem Jj {K:W.Frag} {z:Str}:ItD K (Itv z.cps.size (Mo z)) (z.cps.toList.map fun c=>D.str ⟨#[c]⟩) (fun _ _=>True) where
 go:=fun H O i d _ e=>by
  rw [List.getElem?_map] at e
  cases en:z.cps.toList[i]? with
  | none=>rw [en] at e; cases e
  | some n =>
   rw [en] at e
   cases e
   have hl:=(List.getElem?_eq_some_iff.mp en).1
   refine ⟨(show i < z.cps.size by simpa using hl),fun x H' y=>?_⟩
   obtain ⟨e1,c,hc,ex⟩:=y
   subst e1 ex
   have:z.cps.toList[i]?=some c:=by rw [Array.getElem?_toList]; exact hc
   rw [en] at this
   cases this
   exact ⟨Same.refl _,rfl⟩
 stop:=fun H O _=>by show _=_; simp
 keep:=fun _ _ _ _ _ _=>trivial
noncomputable def rngD (lo:Int) (n:Nat):List D:=(List.range n).map fun (i:Nat)=>D.int (lo + (i:Int))
theorem Jl {K:W.Frag} {lo:Int} {n:Nat}:ItD K (Itr lo n) (rngD lo n) (fun _ _=>True) where
 go:=fun H O i d _ e=>by
  unfold rngD at e
  rw [List.getElem?_map] at e
  cases en:(List.range n)[i]? with
  | none=>rw [en] at e; cases e
  | some m =>
   rw [en] at e
   cases e
   have hl:=(List.getElem?_eq_some_iff.mp en).1
   rw [List.length_range] at hl
   have:m=i:=by
    rw [List.getElem?_range hl] at en
    exact (Option.some.inj en).symm
   subst this
   refine ⟨hl,fun x H' y=>?_⟩
   obtain ⟨e1,ex⟩:=y
   subst e1 ex
   exact ⟨Same.refl _,rfl⟩
 stop:=fun H O _=>by show n <= _; unfold rngD; simp
 keep:=fun _ _ _ _ _ _=>trivial
theorem PV.or {r r':V->Hp->(It->Hp->Prop)->Prop} (h:PV X tg r) (h':PV X tg r'):PV X tg (fun x H R=>r x H R \/ r' x H R):=fun pn s σ H x v R I rx q=>q.elim (h pn s σ H x v R I rx) (h' pn s σ H x v R I rx)
theorem ub (he:ED Γ X e te):EI Γ X tg e (iSeq te):=fun H₀=>impI (Gc (he H₀) (Oj.or (K2.or K3))) fun σ H R q=>by
 obtain ⟨ρ,o,RE,φ,hφ,k⟩:=q
 refine ⟨ρ,o,RE,_,hφ,fun v r H1 s1 rv h1=>?_⟩
 obtain ⟨h0,h1⟩:=h1
 have rp:=rv.solid (v3 h0)
 obtain ⟨kd,d⟩:=r
 cases d with
 | lst ds =>
  obtain ⟨a,xs,rfl,q,n,r⟩:=rp
  exact .inl ⟨a,rfl,⟨xs,SqL.of q⟩,k _ _ _ H1 s1 Jm ⟨xs,q,n,r⟩ h1⟩
 | tup ds =>
  obtain ⟨a,xs,rfl,q,r⟩:=rp
  exact .inr (.inl ⟨a,rfl,⟨xs,q.1⟩,k _ _ _ H1 s1 Ji ⟨xs,q.1,r⟩ h1⟩)
 | scr ns =>
  obtain ⟨a,rfl,q⟩:=rp
  exact .inl ⟨a,rfl,⟨_,q.seq⟩,k _ _ _ H1 s1 Jk q h1⟩
 | str z =>
  cases (show v=_ from rp)
  exact .inr (.inr ⟨z,rfl,k _ _ _ H1 s1 Jj trivial h1⟩)
 | _=>exact h1.elim
noncomputable def iR1 (t:TDs):TID:=fun ρ φ=>t ρ fun rs=>match rs with
 | [⟨_,.int j⟩]=>-(2 ^ 62) <= j /\ j < 2 ^ 62 /\ φ (rngD 0 j.toNat)
 | _=>False
theorem vv {a:Expr} {p:Pos} (hm:X.mg "range" = none) (ha:EA Γ X [a] t) (hg:Gl X "range":=by rfl) (hs:starEach [a] X.env=[(false,eval a X.env)]:=by rfl):EI Γ X tg (.Call (.Name "range" p) [a] [] pos) (iR1 t):=fun H₀=>impI (Vs hg hm (ha H₀) hs) fun σ H R q=>by
 obtain ⟨ρ,o,RE,φ,hφ,k⟩:=q
 refine ⟨ρ,o,RE,_,hφ,fun vs rs H1 s1 rvs h1=>?_⟩
 split at h1
 ·rename_i kd j
  obtain ⟨v,ws,rfl,rv,rfl⟩:=rvs
  cases (show v=_ from rv.view)
  exact ⟨j,rfl,h1.1,h1.2.1,k _ _ _ H1 s1 Jl trivial h1.2.2⟩
 ·exact h1.elim
end
section
variable {X:Cx} {σ:St} {scope:Scope} {T F:List Str} {js:List Nat} {tg iter elt:Expr} {ifs:List Expr} {pos:Pos} {ti:TID} {g2:TG} {g:TGD} {tc:TDb} {te:TD}
noncomputable def ρ0 (n:Nat) (js:List Nat) (ρ:DE):DE:=List.replicate n none ++ js.map fun j=>slot ρ j
noncomputable def ixO (n:Nat) (js:List Nat) (j:Nat):Nat:=if j ∈ js then n + js.idxOf j else n + js.length + 1 + j
theorem je {K:W.Frag} {H₀ H H':Hp} {σ:St} {ρ:DE} {o:List (Nat × Addr)} {n:Nat} {js:List Nat} {D:Addr} {ys:List V} (R:REnv K H₀ H σ ρ o) (nd:js.Nodup) (hD:H D=none) (s:Same H H') (hD':H' D=some (.lst ys)) (Tn:List Str) (hT:Tn.length=n) :
  REnv K H₀ H' (st0 Tn js σ) (ρ0 n js ρ) ((n + js.length,D) :: o.map fun p=>(ixO n js p.1,p.2)):=by
 have hO:((n + js.length,D) :: o.map fun p=>(ixO n js p.1,p.2)).map Prod.snd=D :: o.map Prod.snd:=by
  rw [List.map_cons,List.map_map]
  rfl
 have g:Grow (o.map Prod.snd) (D :: o.map Prod.snd) H H':=⟨fun b u h nb=>⟨s b u h,fun z=>(List.mem_cons.mp z).elim (fun e=>zf h hD e) nb⟩,fun b xs h=>s b _ h,fun b ob u h=>s b _ h⟩
 have R':=R.to s
 exact {
  same:=R'.same
  fresh:=fun p hp=>by
   rcases List.mem_cons.mp hp with rfl | hp
   ·exact R.same.free hD
   ·obtain ⟨q,hq,rfl⟩:=List.mem_map.mp hp
    exact R.fresh q hq
  trk:=fun p hp=>by
   rcases List.mem_cons.mp hp with rfl | hp
   ·exact ⟨_,hD'⟩
   ·obtain ⟨q,hq,rfl⟩:=List.mem_map.mp hp
    exact R'.trk q hq
  mtb:=fun p hp=>by
   rcases List.mem_cons.mp hp with rfl | hp
   ·exact ⟨(fun xs z=>by rw [hD'] at z; cases z),(fun ob u z=>by rw [hD'] at z; cases z)⟩
   ·obtain ⟨q,hq,rfl⟩:=List.mem_map.mp hp
    exact R'.mtb q hq
  nda:=by
   rw [hO,List.nodup_cons]
   exact ⟨R.ofree hD,R.nda⟩
  len:=by
   unfold st0 ρ0
   simp [hT]
  slots:=fun i r e=>by
   rw [hO]
   unfold ρ0 at e
   have hi:n <= i:=by
    rcases Nat.lt_or_ge i n with z | z
    ·rw [List.getElem?_append_left (by simpa using z),List.getElem?_replicate] at e
     split at e <;> cases e
    ·exact z
   rw [List.getElem?_append_right (by simpa using hi),List.length_replicate,List.getElem?_map] at e
   cases ej:js[i - n]? with
   | none=>rw [ej] at e; cases e
   | some j =>
    rw [ej] at e
    have e':slot ρ j=some r:=Option.some.inj e
    obtain ⟨v,ev,q⟩:=R.slots j r (yw e')
    refine ⟨v,?_,?_⟩
    ·unfold st0
     rw [List.getElem?_append_right (by simpa [hT] using hi),List.length_replicate,List.getElem?_map,hT,ej]
     show some ((σ[j]?).join)=_
     rw [ev]
     rfl
    ·rcases q with ⟨k,q⟩ | ⟨k,a,e1,m,c⟩
     ·exact .inl ⟨k,Rep.grow g _ _ q⟩
     ·refine .inr ⟨k,a,e1,List.mem_cons_of_mem _ (List.mem_map.mpr ⟨_,m,?_⟩),c.grow (fun u q=>s _ _ q) g⟩
      have hmem:j ∈ js:=List.mem_of_getElem? ej
      have hidx:js.idxOf j=i - n:=by
       have h1:=(List.getElem?_eq_some_iff.mp ej)
       have h2:=List.getElem_idxOf (List.idxOf_lt_length_iff.mpr hmem)
       exact (List.getElem_inj nd).mp (h2.trans h1.2.symm)
      show (ixO n js j,a)=(i,a)
      unfold ixO
      rw [if_pos hmem,hidx]
      congr 1
      omega }
noncomputable def bYes:TDb:=fun _ φ=>φ true
noncomputable def Qo (ti:TID) (n:Nat) (js:List Nat) (g:TGD) (tc:TDb) (te:TD):TD:=fun ρ φ=>ti ρ fun ds=>∃ f:D->Option D,ds.length <= 100000 /\
 (∀ d ∈ ds,g d (ρ0 n js ρ) fun ρ'=>tc ρ' fun c=>(c=true->te ρ' fun r=>(match r.k with | .own=>False | _=>True) /\ f d=some r.d) /\ (c=false->f d=none)) /\ φ (df (.lst (ds.filterMap f)))
noncomputable def EIf (G:Hp->Prop) (X:Cx) (ifs:List Expr) (t:TDb):Prop:=∀ H₀:{H:Hp // G H},PIf X ifs (bh X.K H₀.1 t)
theorem wo:EIf Γ X [] bYes:=fun H₀ pn s σ H Q I h=>by
 obtain ⟨ρ,o,R,φ,hφ,k⟩:=h
 exact Ot pn s σ H Q I (k true H (Same.refl H) hφ)
theorem bg {H₀:Hp} (nd:js.Nodup) (hl:c9 X.K g2 g):∀ σ H Q,vo X.K H₀ (Qo ti T.length js g tc te) σ H Q->Sq (Nd X.K H₀ ti) T js g2 (bh X.K H₀ tc) (vo X.K H₀ te) σ H Q:=fun σ H Q q=>by
  obtain ⟨ρ,o,R,φ,hφ,k⟩:=q
  refine ⟨ρ,o,R,_,hφ,fun J ds P H1 s1 I hP ⟨f,hlen,turn,fin⟩ Da hDa=>?_⟩
  have R1:=R.to s1
  have gD:∀ {H':Hp},Same H1 H'->Grow (o.map Prod.snd) (Da :: o.map Prod.snd) H1 H':=fun s=>⟨fun b u h nb=>⟨s b u h,fun z=>(List.mem_cons.mp z).elim (fun e=>zf h hDa e) nb⟩,fun b xs h=>s b _ h,fun b ob u h=>s b _ h⟩
  refine ⟨fun i m ys H'=>m=ds.length - i /\ i <= ds.length /\ Same H1 H' /\ H' Da=some (.lst ys) /\ Reps X.K H' (Da :: o.map Prod.snd) ((ds.take i).filterMap f) ys,
   ⟨_,rfl,Nat.zero_le _,zp hDa _,zi,rfl⟩,?_⟩
  rintro i m ys H' ⟨rfl,hi',s2,hD',rp⟩
  refine ⟨hD',?_⟩
  have hP':=I.keep _ _ _ _ hP (gD s2)
  by_cases hlt:i < ds.length
  ·have ed:ds[i]?=some ds[i]:=by simp [hlt]
   obtain ⟨j1,j2⟩:=I.go H' _ i _ hP' ed
   refine .inr ⟨j1,fun zs H2=>Same H1 H2 /\ H2 Da=some (.lst zs) /\ Reps X.K H2 (Da :: o.map Prod.snd) ((ds.take (i + 1)).filterMap f) zs,fun zs H2 ⟨a1,a2,a3⟩=>⟨_,(by omega:ds.length - (i + 1) < ds.length - i),rfl,hlt,a1,a2,a3⟩,fun x H2 y=>?_⟩
   obtain ⟨s3,rx⟩:=j2 x H2 y
   have s13:=s2.trans s3
   have hD2:=s3 _ _ hD'
   have RB:=je (n:=T.length) R1 nd hDa s13 hD2 T rfl
   have hO:((T.length + js.length,Da) :: o.map fun p=>(ixO T.length js p.1,p.2)).map Prod.snd=Da :: o.map Prod.snd:=by
    rw [List.map_cons,List.map_map]
    rfl
   have tk:(ds.take (i + 1)).filterMap f=(ds.take i).filterMap f ++ (f ds[i]).toList:=by
    rw [List.take_succ,ed,List.filterMap_append]
    cases e:f ds[i] <;> simp [e]
   have rpl:ys.length <= 100000:=by
    rw [rp.length]
    refine Nat.le_trans (List.length_filterMap_le _ _) ?_
    rw [List.length_take]
    omega
   refine hl H₀ H2 (st0 T js σ) (ρ0 T.length js ρ) _ _ x _ _ RB (by rw [hO]; exact rx) (turn _ (List.getElem_mem hlt)) fun ρ' σ' R' q'=>?_
   refine ⟨ρ',_,R',_,q',fun c H3 s4 h4=>?_⟩
   have hD3:=s4 _ _ hD2
   cases c with
   | false =>
    refine iteF ⟨s13.trans s4,hD3,?_⟩
    rw [tk,h4.2 rfl]
    simpa using Reps.grow (Grow.same (s3.trans s4)) _ _ rp
   | true =>
    refine iteT ⟨ρ',_,R'.to s4,_,h4.1 rfl,fun v r H4 s5 rv h5=>?_⟩
    have hD4:=s5 _ _ hD3
    have rd:=rv.solid (v3 h5.1)
    rw [hO] at rd
    have ne:∀ b u,H1 b=some u->b ≠ Da:=fun b u h=>zf h hDa
    have gu:Grow (Da :: o.map Prod.snd) (Da :: o.map Prod.snd) H4 (upd H4 Da (.lst (ys ++ [v]))) :=
     ⟨fun b u h n=>⟨by rw [zj (fun z=>n (List.mem_cons.mpr (.inl z)))]; exact h,n⟩,fun b xs h=>by rw [zj (fun z=>by rw [z,hD4] at h; cases h)]; exact h,fun b ob u h=>by rw [zj (fun z=>by rw [z,hD4] at h; cases h)]; exact h⟩
    refine ⟨hD4,Nat.lt_of_le_of_lt rpl (by decide),⟨fun b u h=>?_,zi,?_⟩⟩
    ·rw [zj (ne b u h)]
     exact s5 _ _ (s4 _ _ (s13 b u h))
    ·rw [tk,h5.2]
     exact Reps.grow gu _ _ ((Reps.grow (Grow.same (s3.trans (s4.trans s5))) _ _ rp).append (Reps.one rd))
  ·have e:i=ds.length:=by omega
   subst e
   rw [List.take_length] at rp
   refine .inl ⟨I.stop H' _ hP',?_⟩
   exact k (.ref Da) (df (.lst (ds.filterMap f))) H' (s1.trans s2) ⟨Da,rfl,s1.free hDa,R.ofree (s1.free hDa),ys,hD',rp⟩ fin
theorem qz (hi:EI Γ X tg iter ti) (S:zw X.env.scope scope T F) (hjs:Paired (fun x j=>X.N[j]?=some x) F js) (nd:js.Nodup)
  (hg:∀ cl C fp s H,PG (yf X (T ++ F) scope cl C fp s H) tg g2) (hk:cf T.length g2) (hl:c9 X.K g2 g)
  (ht:∀ cl C fp s H,EIf Γ (yf X (T ++ F) scope cl C fp s H) ifs tc) (he:∀ cl C fp s H,ED Γ (yf X (T ++ F) scope cl C fp s H) elt te)
  (hc:X.calm=true:=by rfl) (hs:∀ x,foldedSetIterable iter X.env x=pure x:=by intro _; rfl):ED Γ X (.ListComp elt [⟨tg,iter,ifs,0⟩] scope pos) (Qo ti T.length js g tc te):=fun H₀ =>
 impE (Vu (tc:=bh X.K H₀.1 tc) (te:=vo X.K H₀.1 te) hc (hi H₀) S hjs hg hk (fun cl C fp s H=>ht cl C fp s H H₀) (fun cl C fp s H=>he cl C fp s H H₀) hs) (bg nd hl)
theorem u3 (i:Nat) {y:Str} {py spos:Pos} (hN:X.N.Nodup) (hi:EI Γ X tg iter ti) (S:zw X.env.scope scope T F) (hjs:Paired (fun x j=>X.N[j]?=some x) F js) (nd:js.Nodup)
  (hg:∀ cl C fp s H,PG (yf X (T ++ F) scope cl C fp s H) tg g2) (hk:cf T.length g2) (hl:c9 X.K g2 g)
  (ht:∀ cl C fp s H,EIf Γ (yf X (T ++ F) scope cl C fp s H) ifs tc) (he:∀ cl C fp s H,ED Γ (yf X (T ++ F) scope cl C fp s H) elt te)
  (hc:X.calm=true:=by rfl) (hs:∀ x,foldedSetIterable iter X.env x=pure x:=by intro _; rfl) (hy:X.N[i]?=some y:=by rfl) (hlo:X.env.scope.names.lookup y=some .local:=by rfl) (hsw:swapsWith (.ListComp elt [⟨tg,iter,ifs,0⟩] scope pos) (some (.Name y py)) spos.line X.env=pure true:=by rfl):SD Γ X (.Assign [.Name y py] (.ListComp elt [⟨tg,iter,ifs,0⟩] scope pos) spos) (sSet i (Qo ti T.length js g tc te)):=fun H₀ =>
 impS (Wd (tc:=bh X.K H₀.1 tc) (te:=vo X.K H₀.1 te) hc hN hy (.inl hlo) (hi H₀) S hjs hg hk (fun cl C fp s H=>ht cl C fp s H H₀) (fun cl C fp s H=>he cl C fp s H H₀) hsw hs (.inr hlo)) fun D σ H h=>by
  obtain ⟨ρ,o,R,Z,hZ,k1,k2,k3,k4⟩:=h
  refine bg nd hl σ H _ ⟨ρ,o,R,_,hZ,fun v r H1 s1 rv h1=>?_⟩
  obtain ⟨o',R',g'⟩:=R.put s1 i rv (v3 h1.1)
  exact k1 _ _ H1 o' g' R' h1.2
end
section
variable {X:Cx} {x:Str} {e a b:Expr} {es:List Expr} {t:TDs} {ta tb:TD} {p pos:Pos}
structure Kit (K:W.Frag):Prop where
 ne:∀ q ∈ ([("NoneType", "int"),("NoneType", "bool"),("NoneType", "str"),("NoneType", "tuple"),("NoneType", "list"),("NoneType", "dict"),("bool", "str"),("bool", "tuple"),("bool", "list"),("bool", "dict"),
  ("int", "bool"),("int", "str"),("int", "tuple"),("int", "list"),("int", "dict"),("str", "int"),("str", "bool"),("str", "tuple"),("str", "list"),("str", "dict"),
  ("tuple", "int"),("tuple", "bool"),("tuple", "str"),("tuple", "list"),("tuple", "dict"),("list", "int"),("list", "bool"),("list", "str"),("list", "tuple"),("list", "dict"),
  ("dict", "int"),("dict", "bool"),("dict", "str"),("dict", "tuple"),("dict", "list")]:List (String × String)),W.kitOne K (.type q.1) (.type q.2)=some false
 bi:W.kitOne K (.type "bool") (.type "int")=some true
theorem Uj {K:W.Frag}:Kit K:=by
 constructor
 ·intro q hq
  simp only [List.mem_cons,List.not_mem_nil,or_false] at hq
  rcases hq with rfl | rfl | rfl | rfl | rfl | rfl | rfl | rfl | rfl | rfl | rfl | rfl | rfl | rfl | rfl | rfl | rfl | rfl | rfl | rfl | rfl | rfl | rfl | rfl | rfl | rfl | rfl | rfl | rfl | rfl | rfl | rfl | rfl | rfl | rfl <;> kernel_rfl
 ·kernel_rfl
theorem Q1 {K:W.Frag} {T:String}:W.kitOne K (.type T) (.type T)=some true:=by
 unfold W.kitOne
 rw [if_pos (by simp)]
theorem Tu:bootBuiltins "int" = some (.type "int"):=by decide +kernel
theorem jn:bootBuiltins "bool" = some (.type "bool"):=by decide +kernel
theorem vd:bootBuiltins "tuple" = some (.type "tuple"):=by decide +kernel
theorem V4:bootBuiltins "list" = some (.type "list"):=by decide +kernel
theorem boot_dict':bootBuiltins "dict" = some (.type "dict"):=by decide +kernel
theorem wb:bootBuiltins "isinstance" = some (.builtin "isinstance"):=by decide +kernel
theorem Ja {K:W.Frag} (a T:String) (h:(a,T) ∈ ([("NoneType", "int"),("NoneType", "bool"),("NoneType", "str"),("NoneType", "tuple"),("NoneType", "list"),("NoneType", "dict"),("bool", "str"),("bool", "tuple"),("bool", "list"),("bool", "dict"),
  ("int", "bool"),("int", "str"),("int", "tuple"),("int", "list"),("int", "dict"),("str", "int"),("str", "bool"),("str", "tuple"),("str", "list"),("str", "dict"),
  ("tuple", "int"),("tuple", "bool"),("tuple", "str"),("tuple", "list"),("tuple", "dict"),("list", "int"),("list", "bool"),("list", "str"),("list", "tuple"),("list", "dict"),
  ("dict", "int"),("dict", "bool"),("dict", "str"),("dict", "tuple"),("dict", "list")]:List (String × String))):W.kitOne K (.type a) (.type T)=some false:=Uj.ne (a,T) h
noncomputable def Qx:D->String
 | .non=>"NoneType"
 | .bl _=>"bool"
 | .int _=>"int"
 | .str _=>"str"
 | .tup _=>"tuple"
 | .lst _=>"list"
 | .dk _ _=>"dict"
 | .dt _ _=>"dict"
 | .ty _=>"type"
 | .cn _=>"tuple"
 | .scr _=>"list"
 | .dz _=>"exc"
 | .exc _=>"exc"
 | .fd _=>"exc"
 | .ob _ _ _=>"exc"
noncomputable def Q2:List (String × String):=[("NoneType", "int"),("NoneType", "bool"),("NoneType", "str"),("NoneType", "tuple"),("NoneType", "list"),("NoneType", "dict"),("bool", "str"),("bool", "tuple"),("bool", "list"),("bool", "dict"),
  ("int", "bool"),("int", "str"),("int", "tuple"),("int", "list"),("int", "dict"),("str", "int"),("str", "bool"),("str", "tuple"),("str", "list"),("str", "dict"),
  ("tuple", "int"),("tuple", "bool"),("tuple", "str"),("tuple", "list"),("tuple", "dict"),("list", "int"),("list", "bool"),("list", "str"),("list", "tuple"),("list", "dict"),
  ("dict", "int"),("dict", "bool"),("dict", "str"),("dict", "tuple"),("dict", "list")]
noncomputable def isN (a T:String):Option Bool:=if a=T then some true else if a = "bool" /\ T = "int" then some true else if (a,T) ∈ Q2 then some false else none
noncomputable def isT (d:D) (T:String):Option Bool:=match d with
 | .ty _=>none
 | .cn _=>none
 | .scr _=>none
 | .dz _=>none
 | .exc _=>none
 | .fd _=>none
 | .ob _ _ _=>none
 | d=>isN (Qx d) T
theorem Np {K:W.Frag} {a T:String} {b:Bool} (h:isN a T=some b):W.kitOne K (.type a) (.type T)=some b:=by
 unfold isN at h
 split at h
 ·rename_i q
  cases h
  subst q
  exact Q1
 ·split at h
  ·rename_i q
   cases h
   obtain ⟨rfl,rfl⟩:=q
   exact Uj.bi
  ·split at h
   ·rename_i q
    cases h
    exact Ja a T q
   ·cases h
theorem Nm {K:W.Frag} {d:D} {T:String} {b:Bool} (h:isT d T=some b):W.kitOne K (.type (Qx d)) (.type T)=some b:=by
 cases d with
 | ty _=>cases h
 | cn _=>cases h
 | scr _=>cases h
 | dz _=>cases h
 | exc _=>cases h
 | fd _=>cases h
 | ob _ _ _=>cases h
 | _=>exact Np h
theorem Yb:isT .non "int" = some false:=(by decide:isN "NoneType" "int" = some false)
theorem bv:isT .non "bool" = some false:=(by decide:isN "NoneType" "bool" = some false)
theorem fi:isT .non "tuple" = some false:=(by decide:isN "NoneType" "tuple" = some false)
theorem Wr (b:Bool):isT (.bl b) "int" = some true:=(by decide:isN "bool" "int" = some true)
theorem Yi (b:Bool):isT (.bl b) "bool" = some true:=(by decide:isN "bool" "bool" = some true)
theorem Z3 (b:Bool):isT (.bl b) "tuple" = some false:=(by decide:isN "bool" "tuple" = some false)
theorem Ye (i:Int):isT (.int i) "int" = some true:=(by decide:isN "int" "int" = some true)
theorem Z0 (i:Int):isT (.int i) "bool" = some false:=(by decide:isN "int" "bool" = some false)
theorem Yd (i:Int):isT (.int i) "str" = some false:=(by decide:isN "int" "str" = some false)
theorem fk (i:Int):isT (.int i) "tuple" = some false:=(by decide:isN "int" "tuple" = some false)
theorem Y9 (x:Str):isT (.str x) "int" = some false:=(by decide:isN "str" "int" = some false)
theorem bu (x:Str):isT (.str x) "bool" = some false:=(by decide:isN "str" "bool" = some false)
theorem Y8 (x:Str):isT (.str x) "str" = some true:=(by decide:isN "str" "str" = some true)
theorem fh (x:Str):isT (.str x) "tuple" = some false:=(by decide:isN "str" "tuple" = some false)
theorem Y7 (l:List D):isT (.tup l) "int" = some false:=(by decide:isN "tuple" "int" = some false)
theorem bt (l:List D):isT (.tup l) "bool" = some false:=(by decide:isN "tuple" "bool" = some false)
theorem fg (l:List D):isT (.tup l) "tuple" = some true:=(by decide:isN "tuple" "tuple" = some true)
theorem br (l:List D):isT (.tup l) "list" = some false:=(by decide:isN "tuple" "list" = some false)
theorem Yc (l:List D):isT (.lst l) "int" = some false:=(by decide:isN "list" "int" = some false)
theorem bz (l:List D):isT (.lst l) "bool" = some false:=(by decide:isN "list" "bool" = some false)
theorem fj (l:List D):isT (.lst l) "tuple" = some false:=(by decide:isN "list" "tuple" = some false)
theorem bw (l:List D):isT (.lst l) "list" = some true:=(by decide:isN "list" "list" = some true)
theorem Wq (k:List Key) (l:List D):isT (.dk k l) "int" = some false:=(by decide:isN "dict" "int" = some false)
theorem Yh (k:List Key) (l:List D):isT (.dk k l) "bool" = some false:=(by decide:isN "dict" "bool" = some false)
theorem Z1 (k:List Key) (l:List D):isT (.dk k l) "tuple" = some false:=(by decide:isN "dict" "tuple" = some false)
theorem Yg (k:List Key) (l:List D):isT (.dk k l) "dict" = some true:=(by decide:isN "dict" "dict" = some true)
theorem Qr:u1 X (.builtin "isinstance") (fun xs H Q=>∃ d x T b,xs=[x,.ty T] /\ Rep X.K H [] d x /\ isT d T=some b /\ Q (.bl b) H):=by
 intro pn s σ H xs us Q I r h
 obtain ⟨d,x,T,b,rfl,rp,e,q⟩:=h
 obtain ⟨u,v,rfl,ru,rv⟩:=Sd r
 cases rv
 have ek:=Nm (K:=X.K) e
 have fin:∀ tk,EP X pn σ Q (.bool b) { s with toks:=tk }:=fun tk=>⟨.bl b,H,I.tok tk,rfl,q⟩
 cases d with
 | non=>cases (show x=_ from rp); exact wn I ru .non ek fin
 | bl c=>cases (show x=_ from rp); exact wn I ru (.bl c) ek fin
 | int c=>cases (show x=_ from rp); exact wn I ru (.int c) ek fin
 | str c=>cases (show x=_ from rp); exact wn I ru (.str c) ek fin
 | ty _=>cases e
 | cn _=>cases e
 | scr _=>cases e
 | dz _=>cases e
 | exc _=>cases e
 | fd _=>cases e
 | ob _ _ _=>cases e
 | lst ds=>obtain ⟨a,xs,rfl,q1,_⟩:=rp; exact wn I ru (.lst q1) ek fin
 | dk ks ds=>obtain ⟨a,xs,rfl,q1,_⟩:=rp; exact wn I ru (.dK q1) ek fin
 | dt ks ds=>obtain ⟨a,xs,rfl,q1,_⟩:=rp; exact wn I ru (.dT q1) ek fin
 | tup ds =>
  obtain ⟨a,xs,rfl,q1,_⟩:=rp
  cases (show u=Value.ref a from ru)
  obtain ⟨its,_,p,_⟩:=I.tuple q1.1
  obtain ⟨o,h1,h2,_⟩:=p
  exact W.kia_one W.kitx_tuple I.kIn ⟨o,h1,h2⟩ ek (fun z=>nomatch z) fin
noncomputable def sIsI:FT:=fun ds φ=>match ds with
 | [d,.ty T]=>match isT d T with
  | some b=>φ (dv (.bl b))
  | none=>False
 | _=>False
theorem v7 (hm:X.mg "isinstance" = none) (ha:EA Γ X (e :: es) t) (hg:Gl X "isinstance":=by rfl) (he:starEach (e :: es) X.env=(false,eval e X.env) :: starEach es X.env:=by rfl) (hpl:(backTo pos (starEach es X.env)).any (·.1)=false:=by rfl):ED Γ X (.Call (.Name "isinstance" p) (e :: es) [] pos) (dCB sIsI t) :=
 rk Qr (fun H O ds vs φ Q ho hv h k=>by
  unfold sIsI at h
  split at h
  ·split at h
   ·rename_i d T b eb
    obtain ⟨v,ws,rfl,h1,v2,ws2,rfl,h2,rfl⟩:=hv
    cases (show v2=_ from h2)
    exact ⟨_,v,_,_,rfl,h1.rep0,eb,k _ _ H (Same.refl H) (by exact rfl) h⟩
   ·exact h.elim
  ·exact h.elim) hm wb ha hg (by decide) (by decide) he hpl
noncomputable def sTupC:FT:=fun ds φ=>match ds with
 | [.lst l]=>φ (dv (.tup l))
 | [.tup l]=>φ (dv (.tup l))
 | _=>False
theorem v6 (hm:X.mg "tuple" = none) (ha:EA Γ X (e :: es) t) (hg:Gl X "tuple":=by rfl) (he:starEach (e :: es) X.env=(false,eval e X.env) :: starEach es X.env:=by rfl) (hpl:(backTo pos (starEach es X.env)).any (·.1)=false:=by rfl):ED Γ X (.Call (.Name "tuple" p) (e :: es) [] pos) (dCB sTupC t) :=
 k7 dy (fun H O ds vs φ Q ho hv h k=>by
  unfold sTupC at h
  split at h
  ·obtain ⟨v,ws,rfl,⟨a,xs,rfl,q,r⟩,rfl⟩:=hv
   exact ⟨a,xs,rfl,.inl ⟨SqL.of q,fun l hl=>k _ _ _ (zp hl _) (cu hl r) h⟩⟩
  ·obtain ⟨v,ws,rfl,⟨a,xs,rfl,q,r⟩,rfl⟩:=hv
   exact ⟨a,xs,rfl,.inr ⟨q.1,k (.ref a) (dv (.tup _)) H (Same.refl H) ⟨a,xs,rfl,q,r⟩ h⟩⟩
  ·exact h.elim) hm vd ha hg (by decide) (by decide) he hpl
noncomputable def sListC:FT:=fun ds φ=>match ds with
 | [.lst l]=>φ (df (.lst l))
 | [.tup l]=>φ (df (.lst l))
 | _=>False
theorem rj (hm:X.mg "list" = none) (ha:EA Γ X (e :: es) t) (hg:Gl X "list":=by rfl) (he:starEach (e :: es) X.env=(false,eval e X.env) :: starEach es X.env:=by rfl) (hpl:(backTo pos (starEach es X.env)).any (·.1)=false:=by rfl):ED Γ X (.Call (.Name "list" p) (e :: es) [] pos) (dCB sListC t) :=
 k7 Zf (fun H O ds vs φ Q ho hv h k=>by
  unfold sListC at h
  split at h
  ·obtain ⟨v,ws,rfl,⟨a,xs,rfl,q,r⟩,rfl⟩:=hv
   exact ⟨a,xs,rfl,.inl (SqL.of q),fun l hl=>k _ _ _ (zp hl _) (tw ho hl r) h⟩
  ·obtain ⟨v,ws,rfl,⟨a,xs,rfl,q,r⟩,rfl⟩:=hv
   exact ⟨a,xs,rfl,.inr q.1,fun l hl=>k _ _ _ (zp hl _) (tw ho hl r) h⟩
  ·exact h.elim) hm V4 ha hg (by decide) (by decide) he hpl
end
section
variable {X:Cx} {x:Str} {e:Expr} {te:TD} {apos np cpos pos:Pos}
noncomputable def sApp (i:Nat) (te:TD):TDS:=fun ρ Z=>match slot ρ i with
 | some ⟨.own,.lst ds⟩=>te ρ fun r=>(match r.k with | .own=>False | _=>True) /\ ds.length <= 100000 /\ Z.nx (setS ρ i (dO (.lst (ds ++ [r.d]))))
 | _=>False
theorem vi (i:Nat) (he:ED Γ X e te) (hN:X.N[i]?=some x:=by rfl) (hv:Vis X.env.scope x:=by first | exact Or.inl rfl | exact Or.inr (Or.inl rfl) | exact Or.inr (Or.inr rfl)) (hd:(x == ("__debug__" : Str))=false:=by decide)
  (hcd:(x == ("__classdict__" : Str))=false:=by decide)
  (hp:∀ {ta tb:TE},PE X (.Name x np) ta->PE X e tb->PS X (.Expr (.Call (.Attribute (.Name x np) "append" apos) [e] [] cpos) pos) (Wa (tBM X.K "list" Zy ta (So tb tNil))):=by
   intro ta tb h1 h2
   exact ue (Ri PySem.F.plainAttrs_list PySem.F.slot_list_append PySem.F.type_list_append qi h1 (w8 h2 u9))) :
  SD Γ X (.Expr (.Call (.Attribute (.Name x np) "append" apos) [e] [] cpos) pos) (sApp i te):=fun H₀=>impS (hp (vf hN hv hd hcd) (he H₀)) fun D σ H h=>by
 obtain ⟨ρ,o,R,Z,hZ,k1,k2,k3,k4⟩:=h
 unfold sApp at hZ
 split at hZ
 ·rename_i ds es
  obtain ⟨v0,ev0,q0⟩:=R.slots i _ (yw es)
  rcases q0 with ⟨k,_⟩ | ⟨_,a,rfl,m,c⟩
  ·cases k
  obtain ⟨xs,hx,rx⟩:=c
  refine ⟨.ref a,ev0,.inl ⟨rfl,xs,SqL.of hx⟩,?_⟩
  refine ⟨ρ,o,R,_,hZ,fun v r H1 s1 rv h1=>?_⟩
  obtain ⟨h0,hl,hn⟩:=h1
  have hx1:=s1 _ _ hx
  have R1:=R.to s1
  have rx1:=Reps.grow (Grow.same s1) _ _ rx
  refine ⟨a,xs,v,rfl,rfl,hx1,?_,?_⟩
  ·rw [rx.length]
   exact Nat.lt_of_le_of_lt hl (by decide)
  ·obtain ⟨R2,g2⟩:=R1.chg (d':=.lst (ds ++ [r.d])) (ho:=.lst (xs ++ [v])) (yw es) ev0 m ⟨fun _ z=>(by cases z),fun _ _ z=>(by cases z)⟩ fun gr=>⟨xs ++ [v],zi,gr _ _ (rx1.append (Reps.one (rv.solid (v3 h0))))⟩
   exact k1 _ σ _ o ((Grow.same s1).trans g2) R2 hn
 ·exact hZ.elim
end
section
variable {P:Program} {w:World} {K:W.Frag} {mg:Str->Option Value} {base:Heap}
noncomputable def yb (n:Nat) (ds:List D):DE:=ds.map (fun d=>some (dv d)) ++ List.replicate (n - ds.length) none
theorem T7 {x qual:Str} {st:Stmt} {f:Addr} {fd:FuncData} {N ps:List Str} {k:Nat} {T:FT} (F:Fun K x qual st f fd) (S:zn N ps (zb st))
  (qY:∀ (qZ:Value) (A:Around) (outer:List Env) (s:Shared) (H:Hp) (E:XK) (ds:List D) (φ:EV->Prop),Room k (A.deeper (envOfC qual (zb st) s.heap.objs.size f qZ))->ds.length=ps.length->T ds φ ->
   ∃ t,SDs (fun _=>True) (cxOf CX0 P w K mg base N qual (zb st) f qZ A outer s H E).nox (y0 st) t /\ t (yb N.length ds) { nx:=fun _=>φ (dv .non),rt:=fun r=>xf r /\ φ r }):FnOk P w K mg base CX0 (k + 1) f fd ps (spD K ps.length T):=by
 refine F.ok S (fun vs H Q E h=>?_) (fun qZ A outer s H vs Q E hr h=>?_)
 ·obtain ⟨ds,φ,hl,r,_⟩:=h
  rw [r.length,hl]
 ·obtain ⟨ds,φ,hl,r,hT,kk⟩:=h
  obtain ⟨t,ht,hq⟩:=qY qZ A outer s H E ds φ hr hl hT
  have rl:=r.length
  refine ⟨Y6 K H t,ht ⟨H,trivial⟩,yb N.length ds,[],⟨Same.refl H,(fun _ z=>absurd z (by simp)),(fun _ z=>absurd z (by simp)),(fun _ z=>absurd z (by simp)),List.nodup_nil,fun i r' e=>?_,?_⟩,_,hq,fun ρ' σ' H' o' g R' q=>?_,fun _ _ _ _ _ _ q=>q.elim,fun _ _ _ _ _ _ q=>q.elim,fun v r' H' s' rv q=>kk v r' H' s' rv q.1 q.2⟩
  ·unfold yb at e
   rcases Nat.lt_or_ge i ds.length with hi | hi
   ·rw [List.getElem?_append_left (by simpa using hi),List.getElem?_map] at e
    have ed:ds[i]?=some ds[i]:=by simp [hi]
    rw [ed] at e
    have e':some (dv ds[i])=some r':=Option.some.inj e
    cases e'
    obtain ⟨v,ev,rv⟩:=r.get ed
    refine ⟨v,?_,.inl ⟨rfl,rv⟩⟩
    unfold L2.start
    rw [List.getElem?_append_left (by rw [zLm,rl]; exact hi),List.getElem?_map,ev]
    rfl
   ·rw [List.getElem?_append_right (by simpa using hi),List.getElem?_replicate] at e
    split at e <;> cases e
  ·unfold L2.start yb
   simp [rl]
  ·exact kk .non (dv .non) H' R'.same rfl trivial q
theorem su {x qual:Str} {st:Stmt} {f:Addr} {fd:FuncData} {N ps:List Str} {k:Nat} {T:FT} (F:Fun K x qual st f fd) (S:zn N ps (zb st)) (b:xw K fd ps []) (m:mg x=some (.ref f))
  (qY:∀ (qZ:Value) (A:Around) (outer:List Env) (s:Shared) (H:Hp) (E:XK) (ds:List D) (φ:EV->Prop),Room k (A.deeper (envOfC qual (zb st) s.heap.objs.size f qZ))->ds.length=ps.length->T ds φ ->
   ∃ t,SDs (fun _=>True) (cxOf CX0 P w K mg base N qual (zb st) f qZ A outer s H E).nox (y0 st) t /\ t (yb N.length ds) { nx:=fun _=>φ (dv .non),rt:=fun r=>xf r /\ φ r }):FD P w K mg base (k + 1) x ps T:=⟨f,fd,T7 F S qY,b,F.kp,m⟩
end
noncomputable def lawT:FT:=fun ds φ=>∃ ns:List Int,ds=[.scr ns] /\ ns.length <= 63 /\ φ (dv (.bl true))
theorem walkD {l:W.OpenLaw} {q:Program} {loose:List Str} {XP:(Str->Option Value)->Heap->Prop} {YP:World->Heap->Prop} {d:DefRec} {K:Params->W.Frag} {x:Str} {k:Nat} (hn:l.most=some 63) (hdf:d.params.defaults=[]) (hr:Room k callerA)
  (hY:∀ (w:World) (h:Heap),YP w h->(K w.params).In h)
  (F:∀ (w:World) (mg:Str->Option Value) (fa:Addr) (h:Heap),(K w.params).In h->h.Ns mainGlobals mg->mg d.name=some (.ref fa) ->
   ∃ fd:FuncData,(∀ (s:Shared) (u:Value),BindsTo s fd ⟨[u],[]⟩ [(x,u)]) /\ ∀ base:Heap,(K w.params).In base->base.Ns mainGlobals mg->FnOk l.prog w (K w.params) mg base CX0 k fa fd [x] (spD (K w.params) 1 lawT)) :
  W.WalkO q loose XP YP l.row.toRowW d [] (fun f vs=>PySem.call f vs) :=
 L2.walk_of (n:=63) (k:=k) (x:=x) (CX:=fun _=>CX0) (sp:=fun w=>spD (K w.params) 1 lawT) hn (by decide) hdf hr hY F (fun w H a ns hl ho hS=>by
  refine ⟨[.scr ns],fun r=>r=dv (.bl true),rfl,⟨.ref a,[],rfl,⟨a,rfl,?_⟩,rfl⟩,⟨ns,rfl,hl,rfl⟩,fun v r H' s rv p e=>by subst e; exact rv⟩
  rcases hS with (h | ⟨o,h⟩) | h
  ·rcases ho a with z | ⟨o,xs,z⟩
   ·rw [z] at h; cases h
   ·rw [z] at h; cases h
  ·exact .inl ⟨o,h⟩
  ·exact .inr h) fun _ _ _ _ _ z=>z
end DL
namespace L3
open PySem PySem.Spec PyProof.Rows
section
variable {P:Program} {w:World} {A:Around} {E:Value->Shared->Prop} {s:Shared}
theorem Wh {it l:Addr} {i:Nat} {xs:Array Value} {x:Value} {Q:Value->Shared->Prop} (hi:s.heap.IsTupleIter it l i) (hl:s.heap.IsTuple l xs) (hx:xs[i]?=some x)
  (hQ:∀ g,g.IsTupleIter it l (i + 1)->Heap.SameBut it s.heap g->Q x { s with heap:=g }):wpAny (model P w) A (Builtin.SmallTypes.nextOf (.ref it)) Q E s:=by
 obtain ⟨o,ho,hc,hd⟩:=id hi
 obtain ⟨ol,hol,_,nl,hdl⟩:=hl
 unfold Builtin.SmallTypes.nextOf
 refine wpAny_bind (wpAny_callSpecial?_slot (name:=Str.ofString "__next__") hi.typeIs F.slot_tuple_iterator_next (wpAny_call_entry F.slot_tuple_iterator_next hi.typeIs F.entry_tuple_iterator_next ?_ (F.args_tuple_iterator_next_1 _)))
 show wpAny _ _ (field (.ref it) 0 >>= _) _ _ s
 refine wpAny_bind (wpAny_field ho hd (x:=.ref l) rfl ?_)
 show wpAny _ _ (if (Value.ref l == Value.none)=true then _ else _) _ _ s
 rw [if_neg (show ¬ ((Value.ref l == Value.none)=true) from Bool.false_ne_true)]
 show wpAny _ _ (field (.ref it) 1 >>= _) _ _ s
 refine wpAny_bind (wpAny_field ho hd (x:=.int i 0) rfl ?_)
 show wpAny _ _ (seqItems? (.ref l) >>= _) _ _ s
 refine wpAny_bind (wpAny_seqItems hol hdl ?_)
 simp only [Int.toNat_natCast,hx]
 refine wpAny_bind (wpAny_setField ho hd (by simp) (wpAny_pure ⟨x,rfl,wpAny_pure (hQ _ ⟨_,Heap.get?_update_self _ ho (Obj.isFreed_of_fields (Obj.data_mapFields hd _)),(Obj.cls_mapFields ..).trans hc,?_⟩ (Heap.SameBut.update ..))⟩))
 rw [Obj.data_mapFields hd]
 simp [rawInt]
theorem U4 {it l:Addr} {i:Nat} {xs:Array Value} {Q:Value->Shared->Prop} (hh:A.handled=none) (hi:s.heap.IsTupleIter it l i) (hl:s.heap.IsTuple l xs) (hx:xs[i]?=none)
  (hE:∀ g e,Heap.ExtBut it s.heap g->(∃ o,g.get? e=some o /\ o.cls=.type "StopIteration")->E (.ref e) { s with heap:=g }):wpAny (model P w) A (Builtin.SmallTypes.nextOf (.ref it)) Q E s:=by
 obtain ⟨o,ho,hc,hd⟩:=id hi
 obtain ⟨ol,hol,_,nl,hdl⟩:=hl
 unfold Builtin.SmallTypes.nextOf
 refine wpAny_bind (wpAny_callSpecial?_slot (name:=Str.ofString "__next__") hi.typeIs F.slot_tuple_iterator_next (wpAny_call_entry F.slot_tuple_iterator_next hi.typeIs F.entry_tuple_iterator_next ?_ (F.args_tuple_iterator_next_1 _)))
 show wpAny _ _ (field (.ref it) 0 >>= _) _ _ s
 refine wpAny_bind (wpAny_field ho hd (x:=.ref l) rfl ?_)
 show wpAny _ _ (if (Value.ref l == Value.none)=true then _ else _) _ _ s
 rw [if_neg (show ¬ ((Value.ref l == Value.none)=true) from Bool.false_ne_true)]
 show wpAny _ _ (field (.ref it) 1 >>= _) _ _ s
 refine wpAny_bind (wpAny_field ho hd (x:=.int i 0) rfl ?_)
 show wpAny _ _ (seqItems? (.ref l) >>= _) _ _ s
 refine wpAny_bind (wpAny_seqItems hol hdl ?_)
 simp only [Int.toNat_natCast,hx]
 refine wpAny_bind (wpAny_rule (wpAny_bind (wpAny_setField ho hd (by simp) ?_)))
 show wpAny _ _ (newExc (.type "StopIteration") [] >>= _) _ _ _
 refine wpAny_bind ?_
 simp only [newExc,newTuple]
 refine wpAny_bind (wpAny_newObj_type ?_ (by size_fits))
 refine wpAny_bind (m:=firstArgMember _ _) (wpAny_of_eq (a:=Value.none) (by first | rfl | (simp only [firstArgMember]; rfl)) ?_)
 refine wpAny_newObj_type ?_ (by size_fits)
 simp only [raiseNew]
 refine wpAny_bind (wpAny_handled ?_)
 first | rw [show A.in1.handled=none from hh] | rw [hh]
 exact wpAny_bind (wpAny_pure (wpAny_throw (hE _ _ (((Heap.SameBut.update ..).extBut.push _).push _) ⟨_,Heap.get?_push_size _ rfl,rfl⟩)))
noncomputable def SqAt (b:Bool) (h:Heap) (l:Addr) (xs:Array Value):Prop:=match b with
 | true=>h.IsTuple l xs
 | false=>h.IsList l xs
noncomputable def ItAt (b:Bool) (h:Heap) (it l:Addr) (i:Nat):Prop:=match b with
 | true=>h.IsTupleIter it l i
 | false=>h.IsListIter it l i
theorem SqAt.at {b:Bool} {h g:Heap} {l:Addr} {xs:Array Value} (x:SqAt b h l xs) (k:∀ o,h.get? l=some o->g.get? l=some o):SqAt b g l xs:=by
 cases b with
 | true=>exact Heap.IsTuple.at (show h.IsTuple l xs from x) k
 | false=>exact Heap.IsList.at (show h.IsList l xs from x) k
theorem ItAt.at {b:Bool} {h g:Heap} {it l:Addr} {i:Nat} (x:ItAt b h it l i) (k:∀ o,h.get? it=some o->g.get? it=some o):ItAt b g it l i:=by
 cases b with
 | true=>exact Heap.IsTupleIter.at (show h.IsTupleIter it l i from x) k
 | false=>exact Heap.IsListIter.at (show h.IsListIter it l i from x) k
theorem v4 {b:Bool} {it l:Addr} {i:Nat} {xs:Array Value} {x:Value} {Q:Value->Shared->Prop} (hi:ItAt b s.heap it l i) (hl:SqAt b s.heap l xs) (hx:xs[i]?=some x)
  (hQ:∀ g,ItAt b g it l (i + 1)->Heap.SameBut it s.heap g->Q x { s with heap:=g }):wpAny (model P w) A (Builtin.SmallTypes.nextOf (.ref it)) Q E s:=by
 cases b with
 | true=>exact Wh hi hl hx hQ
 | false=>exact wpAny_nextOf_list_item hi hl hx hQ
theorem qh {b:Bool} {it l:Addr} {i:Nat} {xs:Array Value} {Q:Value->Shared->Prop} (hh:A.handled=none) (hi:ItAt b s.heap it l i) (hl:SqAt b s.heap l xs) (hx:xs[i]?=none)
  (hE:∀ g e,Heap.ExtBut it s.heap g->(∃ o,g.get? e=some o /\ o.cls=.type "StopIteration")->E (.ref e) { s with heap:=g }):wpAny (model P w) A (Builtin.SmallTypes.nextOf (.ref it)) Q E s:=by
 cases b with
 | true=>exact U4 hh hi hl hx hE
 | false=>exact wpAny_nextOf_list_end hh hi hl hx hE
structure ZAt (b1 b2:Bool) (g:Heap) (z ti to i1 i2 l1 l2:Addr) (f:Value) (k:Nat):Prop where
 zz:IsZip g z ti to f
 its:IsPair g ti (.ref i1) (.ref i2)
 out:∃ a b,IsPair g to a b
 one:ItAt b1 g i1 l1 k
 two:ItAt b2 g i2 l2 k
structure ZNe (z ti to i1 i2:Addr):Prop where
 ab:ti ≠ z
 ac:to ≠ z
 ad:i1 ≠ z
 ae:i2 ≠ z
 bc:ti ≠ to
 bd:ti ≠ i1
 be:ti ≠ i2
 cd:to ≠ i1
 ce:to ≠ i2
 de:i1 ≠ i2
noncomputable def ZOff (z to i1 i2 c:Addr):Prop:=c ≠ z /\ c ≠ to /\ c ≠ i1 /\ c ≠ i2
theorem S8 {b1 b2:Bool} {z ti to i1 i2 l1 l2:Addr} {k:Nat} {xs ys:Array Value} {x y:Value} {Q:Value->Shared->Prop} (D:ZNe z ti to i1 i2) (d1:ZOff z to i1 i2 l1) (d2:ZOff z to i1 i2 l2) (Z:ZAt b1 b2 s.heap z ti to i1 i2 l1 l2 .none k)
  (t1:SqAt b1 s.heap l1 xs) (t2:SqAt b2 s.heap l2 ys) (hx:xs[k]?=some x) (hy:ys[k]?=some y)
  (hQ:∀ g,ZAt b1 b2 g z ti to i1 i2 l1 l2 (rawInt s.heap.objs.size) (k + 1)->IsPair g s.heap.objs.size x y->(∀ c o,ZOff z to i1 i2 c->s.heap.get? c=some o->g.get? c=some o)->Q (.ref s.heap.objs.size) { s with heap:=g }) :
  wpAny (model P w) A (Builtin.«zip.__next__» ⟨[.ref z],[]⟩) (fun fin s'=>∃ v,fin=.done (.ret v) /\ Q v s') E s:=by
 obtain ⟨hz,hti,⟨a,b,hto⟩,h1,h2⟩:=Z
 show wpAny _ _ (field (.ref z) 2 >>= _) _ _ _
 refine wpAny_bind (wpAny_field hz rfl (x:=.bool false) rfl ?_)
 show wpAny _ _ (field (.ref z) 3 >>= _) _ _ _
 refine wpAny_bind (wpAny_field hz rfl (x:=.ref ti) rfl ?_)
 refine wpAny_bind (wpAny_seqItems hti rfl ?_)
 show wpAny _ _ (Builtin.SmallTypes.ownedTupleIsFree (.ref z) >>= _) _ _ _
 refine wpAny_bind ?_
 unfold Builtin.SmallTypes.ownedTupleIsFree
 refine wpAny_bind (wpAny_field hz rfl (x:=.none) rfl (wpAny_pure ?_))
 simp only [if_true]
 refine wpAny_bind (wpAny_rule ?_)
 refine wpAny_bind (wpAny_field hz rfl (x:=.ref to) rfl ?_)
 refine wpAny_bind (wpAny_setField_rec hz (by simp) fun g1 z1 s1=>?_)
 replace z1:IsZip g1 z ti to .ellipsis:=z1
 refine wpAny_bind ?_
 simp only [List.zipIdx_cons,List.zipIdx_nil,List.forIn_cons,List.forIn_nil]
 refine wpAny_bind (wpAny_bind (wpAny_onRaise ?_))
 show wpAny _ _ (Builtin.SmallTypes.nextOf (.ref i1) >>= _) _ _ _
 refine wpAny_bind (v4 (h1.at fun o e=>s1.extBut _ o D.ad e) (t1.at fun o e=>s1.extBut _ o d1.1 e) hx fun g2 p2 s2=>wpAny_pure ?_)
 have to2:IsPair g2 to a b:=s2.extBut _ _ D.cd (s1.extBut _ _ D.ac hto)
 refine wpAny_bind (wpAny_seqItems to2 rfl (wpAny_bind (wpAny_updateSeq_pair to2 fun g3 to3 s3=>?_)))
 replace to3:IsPair g3 to x b:=to3
 refine wpAny_bind (wpAny_letGo (wpAny_pure (wpAny_bind (wpAny_bind (wpAny_onRaise ?_)))))
 show wpAny _ _ (Builtin.SmallTypes.nextOf (.ref i2) >>= _) _ _ _
 refine wpAny_bind (v4 (h2.at fun o e=>s3.extBut _ o D.ce.symm (s2.extBut _ o D.de.symm (s1.extBut _ o D.ae e))) (t2.at fun o e=>s3.extBut _ o d2.2.1 (s2.extBut _ o d2.2.2.1 (s1.extBut _ o d2.1 e))) hy fun g4 p4 s4=>wpAny_pure ?_)
 have to4:IsPair g4 to x b:=s4.extBut _ _ D.ce to3
 refine wpAny_bind (wpAny_seqItems to4 rfl (wpAny_bind (wpAny_updateSeq_pair to4 fun g5 to5 s5=>?_)))
 replace to5:IsPair g5 to x y:=to5
 refine wpAny_bind (wpAny_letGo (wpAny_pure (wpAny_pure (wpAny_bind (wpAny_seqItems to5 rfl (wpAny_bind (wpAny_newTuple ?_)))))))
 have sz:g5.objs.size=s.heap.objs.size:=by rw [s5.1,s4.1,s3.1,s2.1,s1.1]
 have z5:IsZip g5 z ti to .ellipsis:=s5.extBut _ _ D.ac.symm (s4.extBut _ _ D.ae.symm (s3.extBut _ _ D.ac.symm (s2.extBut _ _ D.ad.symm z1)))
 have kp5:∀ c o,ZOff z to i1 i2 c->s.heap.get? c=some o->g5.get? c=some o:=fun c o q e=>s5.extBut _ _ q.2.1 (s4.extBut _ _ q.2.2.2 (s3.extBut _ _ q.2.1 (s2.extBut _ _ q.2.2.1 (s1.extBut _ _ q.1 e))))
 have q1:ItAt b1 g5 i1 l1 (k + 1):=p2.at fun o e=>s5.extBut _ o D.cd.symm (s4.extBut _ o D.de (s3.extBut _ o D.cd.symm e))
 have q2:ItAt b2 g5 i2 l2 (k + 1):=p4.at fun o e=>s5.extBut _ o D.ce.symm e
 have lz:z < g5.objs.size:=Heap.lt_size z5
 show wpAny _ _ (Builtin.SmallTypes.ownedTupleHandOut (.ref z) (.ref g5.objs.size) >>= _) _ _ _
 refine wpAny_bind ?_
 unfold Builtin.SmallTypes.ownedTupleHandOut
 have z6:IsZip (g5.push { cls:=.type "tuple", data:=.seq #[x,y] }) z ti to .ellipsis:=Heap.get?_push_of_some _ z5
 refine wpAny_bind (wpAny_setField_rec z6 (by simp) fun g7 z7 s7=>?_)
 replace z7:IsZip g7 z ti to (rawInt g5.objs.size):=z7
 refine wpAny_setField_rec z7 (by simp) fun g8 z8 s8=>?_
 replace z8:IsZip g8 z ti to (rawInt g5.objs.size):=z8
 have up:∀ c o,c ≠ z->g5.get? c=some o->g8.get? c=some o:=fun c o c1 e=>s8.extBut _ _ c1 (s7.extBut _ _ c1 (Heap.get?_push_of_some _ e))
 have pr:IsPair g8 g5.objs.size x y:=s8.extBut _ _ (Nat.ne_of_gt lz) (s7.extBut _ _ (Nat.ne_of_gt lz) (Heap.get?_push_size _ rfl))
 rw [sz] at z8 pr
 refine wpAny_pure ⟨_,rfl,?_⟩
 show Q (.ref g5.objs.size) _
 rw [sz]
 exact hQ g8 ⟨z8,up _ _ D.ab (kp5 _ _ ⟨D.ab,D.bc,D.bd,D.be⟩ hti),⟨_,_,up _ _ D.ac to5⟩,q1.at fun o e=>up _ o D.ad e,q2.at fun o e=>up _ o D.ae e⟩ pr fun c o q e=>up c o q.1 (kp5 c o q e)
theorem O0 {b1 b2:Bool} {z ti to i1 i2 l1 l2:Addr} {k:Nat} {xs ys:Array Value} {Q:Fin->Shared->Prop} (hh:A.handled=none) (D:ZNe z ti to i1 i2) (d1:ZOff z to i1 i2 l1) (d2:ZOff z to i1 i2 l2) (Z:ZAt b1 b2 s.heap z ti to i1 i2 l1 l2 .none k)
  (t1:SqAt b1 s.heap l1 xs) (t2:SqAt b2 s.heap l2 ys) (hend:xs[k]?=none \/ ys[k]?=none)
  (hE:∀ g e,(∀ c o,ZOff z to i1 i2 c->s.heap.get? c=some o->g.get? c=some o)->(∃ o,g.get? e=some o /\ o.cls=.type "StopIteration")->E (.ref e) { s with heap:=g }) :
  wpAny (model P w) A (Builtin.«zip.__next__» ⟨[.ref z],[]⟩) Q E s:=by
 obtain ⟨hz,hti,⟨a,b,hto⟩,h1,h2⟩:=Z
 show wpAny _ _ (field (.ref z) 2 >>= _) _ _ _
 refine wpAny_bind (wpAny_field hz rfl (x:=.bool false) rfl ?_)
 show wpAny _ _ (field (.ref z) 3 >>= _) _ _ _
 refine wpAny_bind (wpAny_field hz rfl (x:=.ref ti) rfl ?_)
 refine wpAny_bind (wpAny_seqItems hti rfl ?_)
 show wpAny _ _ (Builtin.SmallTypes.ownedTupleIsFree (.ref z) >>= _) _ _ _
 refine wpAny_bind ?_
 unfold Builtin.SmallTypes.ownedTupleIsFree
 refine wpAny_bind (wpAny_field hz rfl (x:=.none) rfl (wpAny_pure ?_))
 simp only [if_true]
 refine wpAny_bind (wpAny_rule ?_)
 refine wpAny_bind (wpAny_field hz rfl (x:=.ref to) rfl ?_)
 refine wpAny_bind (wpAny_setField_rec hz (by simp) fun g1 z1 s1=>?_)
 replace z1:IsZip g1 z ti to .ellipsis:=z1
 refine wpAny_bind ?_
 simp only [List.zipIdx_cons,List.zipIdx_nil,List.forIn_cons,List.forIn_nil]
 refine wpAny_bind (wpAny_bind (wpAny_onRaise ?_))
 show wpAny _ _ (Builtin.SmallTypes.nextOf (.ref i1) >>= _) _ _ _
 cases hx:xs[k]? with
 | none =>
  refine wpAny_bind (qh hh (h1.at fun o e=>s1.extBut _ o D.ad e) (t1.at fun o e=>s1.extBut _ o d1.1 e) hx fun g2 e s2 he=>?_)
  obtain ⟨oe,hoe,hce⟩:=he
  have z2:IsZip g2 z ti to .ellipsis:=s2 _ _ D.ad.symm z1
  have ez:e ≠ z:=fun x=>by subst x; rw [z2] at hoe; cases hoe; simp at hce
  exact wpAny_setField_rec z2 (by simp) fun g3 _ s3=>hE g3 e (fun c o q x=>s3.extBut _ _ q.1 (s2 _ _ q.2.2.1 (s1.extBut _ _ q.1 x))) ⟨oe,s3.extBut _ _ ez hoe,hce⟩
 | some x =>
  have hy:ys[k]?=none:=by rcases hend with h | h; rw [hx] at h; cases h; exact h
  refine wpAny_bind (v4 (h1.at fun o e=>s1.extBut _ o D.ad e) (t1.at fun o e=>s1.extBut _ o d1.1 e) hx fun g2 p2 s2=>wpAny_pure ?_)
  have to2:IsPair g2 to a b:=s2.extBut _ _ D.cd (s1.extBut _ _ D.ac hto)
  refine wpAny_bind (wpAny_seqItems to2 rfl (wpAny_bind (wpAny_updateSeq_pair to2 fun g3 to3 s3=>?_)))
  refine wpAny_bind (wpAny_letGo (wpAny_pure (wpAny_bind (wpAny_bind (wpAny_onRaise ?_)))))
  show wpAny _ _ (Builtin.SmallTypes.nextOf (.ref i2) >>= _) _ _ _
  refine wpAny_bind (qh hh (h2.at fun o e=>s3.extBut _ o D.ce.symm (s2.extBut _ o D.de.symm (s1.extBut _ o D.ae e))) (t2.at fun o e=>s3.extBut _ o d2.2.1 (s2.extBut _ o d2.2.2.1 (s1.extBut _ o d2.1 e))) hy fun g4 e s4 he=>?_)
  obtain ⟨oe,hoe,hce⟩:=he
  have z4:IsZip g4 z ti to .ellipsis:=s4 _ _ D.ae.symm (s3.extBut _ _ D.ac.symm (s2.extBut _ _ D.ad.symm z1))
  have ez:e ≠ z:=fun x=>by subst x; rw [z4] at hoe; cases hoe; simp at hce
  exact wpAny_setField_rec z4 (by simp) fun g5 _ s5=>hE g5 e (fun c o q x=>s5.extBut _ _ q.1 (s4 _ _ q.2.2.2 (s3.extBut _ _ q.2.1 (s2.extBut _ _ q.2.2.1 (s1.extBut _ _ q.1 x))))) ⟨oe,s5.extBut _ _ ez hoe,hce⟩
theorem ba {b1 b2:Bool} {z ti to i1 i2 l1 l2:Addr} {k:Nat} {xs ys:Array Value} {x y:Value} {Q:Option Value->Shared->Prop} (D:ZNe z ti to i1 i2) (d1:ZOff z to i1 i2 l1) (d2:ZOff z to i1 i2 l2) (Z:ZAt b1 b2 s.heap z ti to i1 i2 l1 l2 .none k)
  (t1:SqAt b1 s.heap l1 xs) (t2:SqAt b2 s.heap l2 ys) (hx:xs[k]?=some x) (hy:ys[k]?=some y)
  (hQ:∀ g,ZAt b1 b2 g z ti to i1 i2 l1 l2 (rawInt s.heap.objs.size) (k + 1)->IsPair g s.heap.objs.size x y->(∀ c o,ZOff z to i1 i2 c->s.heap.get? c=some o->g.get? c=some o)->Q (some (.ref s.heap.objs.size)) { s with heap:=g }) :
  wpAny (model P w) A (pyNext (.ref z)) Q E s:=by
 have ty:s.TypeIs (.ref z) "zip":=⟨_,Z.zz,rfl⟩
 unfold pyNext
 exact wpAny_bind (wpAny_attempt (wpAny_callSpecial?_slot (name:=Str.ofString "__next__") ty F.slot_zip_next (wpAny_call_entry F.slot_zip_next ty F.entry_zip_next (S8 D d1 d2 Z t1 t2 hx hy fun g a b c=>wpAny_pure (hQ g a b c)) (F.args_zip_next_1 _))))
theorem Xl {b1 b2:Bool} {z ti to i1 i2 l1 l2:Addr} {k:Nat} {xs ys:Array Value} {Q:Option Value->Shared->Prop} (hh:A.handled=none) (D:ZNe z ti to i1 i2) (d1:ZOff z to i1 i2 l1) (d2:ZOff z to i1 i2 l2) (Z:ZAt b1 b2 s.heap z ti to i1 i2 l1 l2 .none k)
  (t1:SqAt b1 s.heap l1 xs) (t2:SqAt b2 s.heap l2 ys) (hend:xs[k]?=none \/ ys[k]?=none)
  (hQ:∀ g,(∀ c o,ZOff z to i1 i2 c->s.heap.get? c=some o->g.get? c=some o)->Q none { s with heap:=g }):wpAny (model P w) A (pyNext (.ref z)) Q E s:=by
 have ty:s.TypeIs (.ref z) "zip":=⟨_,Z.zz,rfl⟩
 unfold pyNext
 refine wpAny_bind (wpAny_attempt (wpAny_callSpecial?_slot (name:=Str.ofString "__next__") ty F.slot_zip_next (wpAny_call_entry F.slot_zip_next ty F.entry_zip_next (O0 hh D d1 d2 Z t1 t2 hend fun g e kp he=>?_) (F.args_zip_next_1 _))))
 obtain ⟨o,ho,hc⟩:=he
 refine wpAny_bind (wpAny_isInstance (T:="StopIteration") (b:=true) ⟨o,ho,hc⟩ isSubtype_stop ?_)
 exact wpAny_pure (hQ _ kp)
noncomputable def Pj (b:Bool):String:=match b with
 | true=>"tuple_iterator"
 | false=>"list_iterator"
noncomputable abbrev zh1 (b1:Bool) (h:Heap) (l1:Addr):Heap:=h.push { cls:=.type (Pj b1),data:=.fields #[.ref l1,.int 0 0] }
noncomputable abbrev zh2 (b1 b2:Bool) (h:Heap) (l1 l2:Addr):Heap:=(zh1 b1 h l1).push { cls:=.type (Pj b2),data:=.fields #[.ref l2,.int 0 0] }
noncomputable abbrev zh3 (b1 b2:Bool) (h:Heap) (l1 l2:Addr):Heap:=(zh2 b1 b2 h l1 l2).push { cls:=.type "tuple", data:=.seq #[.ref h.objs.size,.ref (zh1 b1 h l1).objs.size] }
noncomputable abbrev zh4 (b1 b2:Bool) (h:Heap) (l1 l2:Addr):Heap:=(zh3 b1 b2 h l1 l2).push { cls:=.type "tuple", data:=.seq #[.none,.none] }
noncomputable abbrev zh5 (b1 b2:Bool) (h:Heap) (l1 l2:Addr):Heap:=(zh4 b1 b2 h l1 l2).push { cls:=.type "zip", data:=.fields #[.none,.bool false,.bool false,.ref (zh2 b1 b2 h l1 l2).objs.size,.ref (zh3 b1 b2 h l1 l2).objs.size] }
theorem Pz (b1 b2:Bool) (l1 l2:Addr) (xs ys:Array Value) :
  Meets (Builtin.«zip.__new__» ⟨[.type "zip", .ref l1,.ref l2],[]⟩) (fun _ R s=>SqAt b1 s.heap l1 xs /\ SqAt b2 s.heap l2 ys /\ R (.ok (.ret (.ref (zh4 b1 b2 s.heap l1 l2).objs.size))) { s with heap:=zh5 b1 b2 s.heap l1 l2 }) :=
 .of_wp fun prog w A R s h=>by
  obtain ⟨hp,g,d,tk,os⟩:=s
  obtain ⟨a1,a2,h⟩:=h
  have hsub:=sub_zip
  cases b1 <;> cases b2
  ·have b1:Heap.IsList (Shared.heap ⟨hp,g,d,tk,os⟩) l1 xs:=a1
   have b2:Heap.IsList (Shared.heap ⟨hp.push { cls:=.type "list_iterator", data:=.fields #[.ref l1,.int 0 0] },g,d,tk,os⟩) l2 ys:=Heap.IsList.push a2 _
   wp_walk using wpAny_pyIter_list b1,wpAny_pyIter_list b2
   exact ⟨_,rfl,h⟩
  ·have b1:Heap.IsList (Shared.heap ⟨hp,g,d,tk,os⟩) l1 xs:=a1
   have b2:Heap.IsTuple (Shared.heap ⟨hp.push { cls:=.type "list_iterator", data:=.fields #[.ref l1,.int 0 0] },g,d,tk,os⟩) l2 ys:=Heap.IsTuple.push a2 _
   wp_walk using wpAny_pyIter_list b1,wpAny_pyIter_tuple b2
   exact ⟨_,rfl,h⟩
  ·have b1:Heap.IsTuple (Shared.heap ⟨hp,g,d,tk,os⟩) l1 xs:=a1
   have b2:Heap.IsList (Shared.heap ⟨hp.push { cls:=.type "tuple_iterator", data:=.fields #[.ref l1,.int 0 0] },g,d,tk,os⟩) l2 ys:=Heap.IsList.push a2 _
   wp_walk using wpAny_pyIter_tuple b1,wpAny_pyIter_list b2
   exact ⟨_,rfl,h⟩
  ·have b1:Heap.IsTuple (Shared.heap ⟨hp,g,d,tk,os⟩) l1 xs:=a1
   have b2:Heap.IsTuple (Shared.heap ⟨hp.push { cls:=.type "tuple_iterator", data:=.fields #[.ref l1,.int 0 0] },g,d,tk,os⟩) l2 ys:=Heap.IsTuple.push a2 _
   wp_walk using wpAny_pyIter_tuple b1,wpAny_pyIter_tuple b2
   exact ⟨_,rfl,h⟩
theorem X2 {b1 b2:Bool} {l1 l2:Addr} {xs ys:Array Value} {Q:Value->Shared->Prop} (t1:SqAt b1 s.heap l1 xs) (t2:SqAt b2 s.heap l2 ys)
  (h:∀ g,ZAt b1 b2 g (s.heap.objs.size + 4) (s.heap.objs.size + 2) (s.heap.objs.size + 3) s.heap.objs.size (s.heap.objs.size + 1) l1 l2 .none 0->(∀ c o,s.heap.get? c=some o->g.get? c=some o)->Q (.ref (s.heap.objs.size + 4)) { s with heap:=g }) :
  wpAny (model P w) A (call (.type "zip") [.ref l1,.ref l2]) Q E s:=by
 refine callType_new F.called_zip (by decide) (F.typeCall_zip_2 _ _) (F.newCall_zip_2 _ _) (fun obj=>F.args_object_init_3 obj _ _) F.entry_zip_new (Pz b1 b2 l1 l2 xs ys) ⟨t1,t2,?_⟩
 have n1:(zh1 b1 s.heap l1).objs.size=s.heap.objs.size + 1:=Heap.size_push ..
 have n2:(zh2 b1 b2 s.heap l1 l2).objs.size=s.heap.objs.size + 2:=by rw [Heap.size_push,n1]
 have n3:(zh3 b1 b2 s.heap l1 l2).objs.size=s.heap.objs.size + 3:=by rw [Heap.size_push,n2]
 have n4:(zh4 b1 b2 s.heap l1 l2).objs.size=s.heap.objs.size + 4:=by rw [Heap.size_push,n3]
 have g5:(zh5 b1 b2 s.heap l1 l2).get? (zh4 b1 b2 s.heap l1 l2).objs.size=some _:=Heap.get?_push_size _ rfl
 have g4:(zh5 b1 b2 s.heap l1 l2).get? (zh3 b1 b2 s.heap l1 l2).objs.size=some _:=Heap.get?_push_of_some _ (Heap.get?_push_size _ rfl)
 have g3:(zh5 b1 b2 s.heap l1 l2).get? (zh2 b1 b2 s.heap l1 l2).objs.size=some _:=Heap.get?_push_of_some _ (Heap.get?_push_of_some _ (Heap.get?_push_size _ rfl))
 have g2:(zh5 b1 b2 s.heap l1 l2).get? (zh1 b1 s.heap l1).objs.size=some _:=Heap.get?_push_of_some _ (Heap.get?_push_of_some _ (Heap.get?_push_of_some _ (Heap.get?_push_size _ rfl)))
 have g1:(zh5 b1 b2 s.heap l1 l2).get? s.heap.objs.size=some _:=Heap.get?_push_of_some _ (Heap.get?_push_of_some _ (Heap.get?_push_of_some _ (Heap.get?_push_of_some _ (Heap.get?_push_size _ rfl))))
 show _ /\ _
 rw [n2,n3,n4] at g5
 rw [n1,n2] at g3
 rw [n3] at g4
 rw [n1] at g2
 rw [n4]
 exact ⟨⟨_,g5,rfl⟩,h _ ⟨g5,g3,⟨_,_,g4⟩,(by cases b1 <;> exact ⟨_,g1,rfl,rfl⟩),(by cases b2 <;> exact ⟨_,g2,rfl,rfl⟩)⟩ fun c o e=>Heap.get?_push_of_some _ (Heap.get?_push_of_some _ (Heap.get?_push_of_some _ (Heap.get?_push_of_some _ (Heap.get?_push_of_some _ e))))⟩
end
end L3
namespace L3
open PySem PySem.Spec L2
open PyProof.Rows hiding St
theorem ItAt.there {b:Bool} {h:Heap} {it l:Addr} {i:Nat} (x:ItAt b h it l i):∃ o,h.get? it=some o /\ ∀ v,o.data ≠ .cell v:=by
 cases b with
 | true =>
  obtain ⟨o,e,c,d⟩:=(show h.IsTupleIter it l i from x)
  exact ⟨o,e,fun v q=>by rw [d] at q; cases q⟩
 | false =>
  obtain ⟨o,e,c,d⟩:=(show h.IsListIter it l i from x)
  exact ⟨o,e,fun v q=>by rw [d] at q; cases q⟩
noncomputable def SqK (b:Bool) (K:W.Frag) (H:Hp) (l:Addr) (xs:List V):Prop:=match b with
 | true=>SqT K H l xs
 | false=>SqL K H l xs
theorem ck {b:Bool} {X:Cx} {pn:List (Addr × Obj)} {σ:St} {H:Hp} {s:Shared} {l:Addr} {xs:List V} (I:Inv X pn σ H s) (h:SqK b X.K H l xs):∃ its,Vals xs its /\ SqAt b s.heap l its.toArray:=by
 cases b with
 | true =>
  obtain ⟨its,r,p,_⟩:=I.tuple h
  exact ⟨its,r,(show s.heap.IsTuple l its.toArray from p)⟩
 | false =>
  obtain ⟨its,r,p,_⟩:=I.list h
  exact ⟨its,r,p.isList⟩
theorem P4 {b:Bool} {X:Cx} {pn:List (Addr × Obj)} {σ:St} {H:Hp} {s:Shared} {l:Addr} {xs ys:List V} (I:Inv X pn σ H s) (h:SqK b X.K H l xs) (h':SqK b X.K H l ys):xs=ys:=by
 cases b with
 | true=>exact I.tuple_inj h h'
 | false=>exact I.list_inj h h'
theorem wc {b:Bool} {X:Cx} {pn:List (Addr × Obj)} {σ:St} {H:Hp} {s:Shared} {l c:Addr} {xs:List V} (I:Inv X pn σ H s) (h:SqK b X.K H l xs) (f:FpOk X pn H c):l ≠ c:=by
 have kc:∀ {o:Obj},X.K.lookup l=some o->l ≠ c:=fun {o} lk z=>by
  subst z
  have e:=I.ok.mod.kin _ _ lk
  rcases f.2.2.2.1 with q | q
  ·exact I.ok.noex _ _ e q
  ·exact absurd (Nat.lt_of_lt_of_le (Heap.lt_size e) I.ok.bsz) (Nat.not_lt.mpr q)
 cases b with
 | true =>
  rcases h with (h | ⟨o,h⟩) | ⟨o,its,n,lk,_⟩
  ·exact zf h f.1
  ·exact zf h f.1
  ·exact kc lk
 | false =>
  rcases h with (h | ⟨o,h⟩) | ⟨o,its,n,lk,_⟩
  ·exact zf h f.1
  ·exact zf h f.1
  ·exact kc lk
noncomputable def Itz (b1 b2:Bool) (K:W.Frag) (l1 l2:Addr):It :=
 ⟨fun i H=>∃ xs ys x y,SqK b1 K H l1 xs /\ SqK b2 K H l2 ys /\ xs[i]?=some x /\ ys[i]?=some y,
  fun i H v H'=>∃ T x y,H T=none /\ v=.ref T /\ (∀ xs,SqK b1 K H l1 xs->xs[i]?=some x) /\ (∀ ys,SqK b2 K H l2 ys->ys[i]?=some y) /\ H'=upd H T (.tup [x,y]),
  fun i H=>∃ xs ys,SqK b1 K H l1 xs /\ SqK b2 K H l2 ys /\ (xs.length <= i \/ ys.length <= i)⟩
theorem Si {P:Program} {w:World} {K:W.Frag} {es:List Expr} {kk:Nat} {tp:Pos} {b1 b2:Bool} {z ti to i1 i2 l1 l2:Addr} (D:ZNe z ti to i1 i2) :
  Turn P w K (.Tuple es kk tp) (Itz b1 b2 K l1 l2) [z,ti,to,i1,i2] z (fun i h=>ZAt b1 b2 h z ti to i1 i2 l1 l2 .none i) where
 mem:=by simp
 obj:=fun i h Z b hb=>by
  obtain ⟨hz,hti,⟨u,v,hto⟩,h1,h2⟩:=Z
  obtain ⟨o1,e1,d1⟩:=h1.there
  obtain ⟨o2,e2,d2⟩:=h2.there
  simp only [List.mem_cons,List.not_mem_nil,or_false] at hb
  rcases hb with rfl | rfl | rfl | rfl | rfl
  ·exact ⟨_,hz,fun v q=>(by cases q)⟩
  ·exact ⟨_,hti,fun v q=>(by cases q)⟩
  ·exact ⟨_,hto,fun v q=>(by cases q)⟩
  ·exact ⟨o1,e1,fun v q=>d1 v q⟩
  ·exact ⟨o2,e2,fun v q=>d2 v q⟩
 keep:=fun i h h' Z k=>by
  obtain ⟨hz,hti,⟨u,v,hto⟩,h1,h2⟩:=Z
  exact ⟨k z (by simp) _ hz,k ti (by simp) _ hti,⟨u,v,k to (by simp) _ hto⟩,h1.at fun o e=>k i1 (by simp) o e,h2.at fun o e=>k i2 (by simp) o e⟩
 item:=by
  intro X hP hw hK hc i pn s σ H E I hf Z hg
  subst hP hw hK
  obtain ⟨xs,ys,x,y,e1,e2,hx,hy⟩:=hg
  obtain ⟨its1,r1,g1⟩:=ck I e1
  obtain ⟨its2,r2,g2⟩:=ck I e2
  obtain ⟨u,hu,ru⟩:=r1.get hx
  obtain ⟨v,hv,rv⟩:=r2.get hy
  have fz:=hf z (by simp)
  have fto:=hf to (by simp)
  have f1:=hf i1 (by simp)
  have f2:=hf i2 (by simp)
  have off:∀ b ho,H b=some ho->ZOff z to i1 i2 b:=fun b ho e=>⟨zf e fz.1,zf e fto.1,zf e f1.1,zf e f2.1⟩
  refine ba D ⟨wc I e1 fz,wc I e1 fto,wc I e1 f1,wc I e1 f2⟩ ⟨wc I e2 fz,wc I e2 fto,wc I e2 f1,wc I e2 f2⟩ Z g1 g2 (x:=u) (y:=v) (by simpa using hu) (by simpa using hv) fun g Z2 pr kp=>?_
  have hn:H s.heap.objs.size=none:=I.fresh
  have hout:∀ b,b ∉ [z,to,i1,i2]->ZOff z to i1 i2 b:=fun b hb=>by
   simp only [List.mem_cons,List.not_mem_nil,or_false,not_or] at hb
   exact hb
  have un:Un (frs X.stack) [z,to,i1,i2] H (upd H s.heap.objs.size (.tup [x,y])) s.heap g :=
   ⟨fun b o q _ _ hx=>kp b o (hout b hx) q,fun b o q _ _ hx=>⟨o.slots,kp b o (hout b hx) q⟩,fun b o q n _=>by rw [zj (Nat.ne_of_lt (Heap.lt_size q))]; exact n,fun b o q hx=>⟨o,kp b o (hout b hx) q⟩,
    fun b zs q=>by rw [zj (zf q hn)]; exact q,fun b o zs q=>by rw [zj (zf q hn)]; exact q,fun b ps q=>⟨#[],by rw [zj (zf q hn),q]; simp⟩⟩
  have hok:HOk X.prog X.w (upd H s.heap.objs.size (.tup [x,y])) g:=fun b o e=>by
   by_cases hb:b=s.heap.objs.size
   ·subst hb
    rw [zi] at e
    cases e
    refine ⟨by simp only [zLc,zLn]; rw [sizeLine_eq]; decide,[u,v],.cons ru (.cons rv .nil),⟨_,pr,rfl,_,rfl⟩,_,pr,rfl⟩
   ·rw [zj hb] at e
    refine (I.hok b o e).stay (fun c ob hc q=>kp c ob ?_ q) (fun c q=>by rw [zj (zf q hn)]; exact q) fun c zs q=>by rw [zj (zf q hn)]; exact q
    rcases hc with rfl | hc
    ·exact off _ _ e
    ·exact off _ _ hc
  have I2:Inv X pn σ (upd H s.heap.objs.size (.tup [x,y])) { s with heap:=g }:=I.call' (s':={ s with heap:=g }) (ch:=[z,to,i1,i2]) rfl un hok I.bare fun b hb=>by
   have hb':b ∈ [z,ti,to,i1,i2]:=by
    simp only [List.mem_cons,List.not_mem_nil,or_false] at hb ⊢
    rcases hb with rfl | rfl | rfl | rfl <;> simp
   have q:=hf b hb'
   exact ⟨q.2.2.2.1,q.2.1,q.2.2.2.2.1,q.2.2.2.2.2⟩
  have none5:∀ b ∈ [z,ti,to,i1,i2],upd H s.heap.objs.size (.tup [x,y]) b=none:=fun b hb=>by
   have lb:b < s.heap.objs.size:=by
    obtain ⟨hz,hti,⟨u,v,hto⟩,h1,h2⟩:=Z
    obtain ⟨_,q1,_⟩:=h1.there
    obtain ⟨_,q2,_⟩:=h2.there
    simp only [List.mem_cons,List.not_mem_nil,or_false] at hb
    rcases hb with rfl | rfl | rfl | rfl | rfl
    ·exact Heap.lt_size hz
    ·exact Heap.lt_size hti
    ·exact Heap.lt_size hto
    ·exact Heap.lt_size q1
    ·exact Heap.lt_size q2
   rw [zj (Nat.ne_of_lt lb)]
   exact (hf b hb).1
  refine ⟨_,rfl,wpAny_letOwnedTupleGo_zip Z2.zz fun g2 z3 sb=>?_⟩
  refine ⟨.ref s.heap.objs.size,_,I2.turned (t':=s.toks) (fun b o hb e=>sb.extBut b o hb e) (none5 z (by simp)) fz.2.1 fz.2.2.2.1 fz.2.2.2.2.1 fz.2.2.2.2.2,rfl,⟨_,x,y,hn,rfl,(fun zs q=>by rw [<- P4 I e1 q]; exact hx),(fun zs q=>by rw [<- P4 I e2 q]; exact hy),rfl⟩,?_,none5⟩
  obtain ⟨_,hti,⟨u2,v2,hto⟩,h1,h2⟩:=Z2
  exact ⟨z3,sb.extBut _ _ D.ab hti,⟨u2,v2,sb.extBut _ _ D.ac hto⟩,h1.at fun o e=>sb.extBut _ o D.ad e,h2.at fun o e=>sb.extBut _ o D.ae e⟩
 done:=by
  intro X hP hw hK hc i pn s σ H E I hf Z hg
  subst hP hw hK
  obtain ⟨xs,ys,e1,e2,hend⟩:=hg
  obtain ⟨its1,r1,g1⟩:=ck I e1
  obtain ⟨its2,r2,g2⟩:=ck I e2
  have fz:=hf z (by simp)
  have fto:=hf to (by simp)
  have f1:=hf i1 (by simp)
  have f2:=hf i2 (by simp)
  have off:∀ b ho,H b=some ho->ZOff z to i1 i2 b:=fun b ho e=>⟨zf e fz.1,zf e fto.1,zf e f1.1,zf e f2.1⟩
  have l1':=r1.length
  have l2':=r2.length
  refine Xl (I.ok.hd hc) D ⟨wc I e1 fz,wc I e1 fto,wc I e1 f1,wc I e1 f2⟩ ⟨wc I e2 fz,wc I e2 fto,wc I e2 f1,wc I e2 f2⟩ Z g1 g2 ?_ fun g kp=>?_
  ·rcases hend with q | q
   ·exact .inl (by simp; omega)
   ·exact .inr (by simp; omega)
  ·refine ⟨rfl,?_⟩
   have hout:∀ b,b ∉ [z,to,i1,i2]->ZOff z to i1 i2 b:=fun b hb=>by
    simp only [List.mem_cons,List.not_mem_nil,or_false,not_or] at hb
    exact hb
   have un:Un (frs X.stack) [z,to,i1,i2] H H s.heap g :=
    ⟨fun b o q _ _ hx=>kp b o (hout b hx) q,fun b o q _ _ hx=>⟨o.slots,kp b o (hout b hx) q⟩,fun b o q n _=>n,fun b o q hx=>⟨o,kp b o (hout b hx) q⟩,
     fun b zs q=>q,fun b o zs q=>q,fun b ps q=>⟨#[],by rw [q]; simp⟩⟩
   refine I.call' (s':={ s with heap:=g }) (ch:=[z,to,i1,i2]) rfl un (fun b o e=>(I.hok b o e).stay (fun c ob hc q=>kp c ob ?_ q) (fun c q=>q) fun c zs q=>q) I.bare fun b hb=>?_
   ·rcases hc with rfl | hc
    ·exact off _ _ e
    ·exact off _ _ hc
   ·have hb':b ∈ [z,ti,to,i1,i2]:=by
     simp only [List.mem_cons,List.not_mem_nil,or_false] at hb ⊢
     rcases hb with rfl | rfl | rfl | rfl <;> simp
    have q:=hf b hb'
    exact ⟨q.2.2.2.1,q.2.1,q.2.2.2.2.1,q.2.2.2.2.2⟩
 self:=fun _ _ _ _ _ Z h=>wpAny_pyIter_zip Z.zz h
theorem Zk:bootBuiltins "zip" = some (.type "zip"):=by kernel_rfl
noncomputable def iZip (K:W.Frag) (ta:TA):TI:=fun σ H R=>ta σ H fun vs H1=>∃ b1 b2 l1 l2 xs ys,vs=[.ref l1,.ref l2] /\ SqK b1 K H1 l1 xs /\ SqK b2 K H1 l2 ys /\ R (Itz b1 b2 K l1 l2) H1
theorem K8 {X:Cx} {es:List Expr} {kk:Nat} {tp:Pos} {a b:Expr} {ta:TA} {p pos:Pos} (hg:Gl X "zip") (hm:X.mg "zip" = none) (ha:PA X [a,b] ta)
  (he:starEach [a,b] X.env=(false,eval a X.env) :: starEach [b] X.env:=by rfl) (hpl:(backTo pos (starEach [b] X.env)).any (·.1)=false:=by rfl):PI X (.Tuple es kk tp) (.Call (.Name "zip" p) [a,b] [] pos) (iZip X.K ta):=by
 intro pn s σ H R I h
 refine wpAny_Call_Name_kw (tz I hg hm Zk ?_ (by decide) (by decide))
 refine PyProof.Rows.callWith_type1 (thn (ha pos pn s σ H _ I h) fun us s1 ⟨vs,H1,I1,r1,b1,b2,l1,l2,xs,ys,e,e1,e2,q⟩=>?_) he hpl
 subst e
 obtain ⟨u,v,rfl,ru,rv⟩:=Sd r1
 cases ru
 cases rv
 obtain ⟨its1,r1,g1⟩:=ck I1 e1
 obtain ⟨its2,r2,g2⟩:=ck I1 e2
 refine X2 (xs:=its1.toArray) (ys:=its2.toArray) g1 g2 fun g Z kp=>wpAny_pyIter_zip Z.zz ?_
 have D:ZNe (s1.heap.objs.size + 4) (s1.heap.objs.size + 2) (s1.heap.objs.size + 3) s1.heap.objs.size (s1.heap.objs.size + 1):=by
  constructor <;> (intro z; exact absurd (show (_:Nat)=_ from z) (by omega))
 refine ⟨_,_,_,_,H1,rfl,I1.kept (t':=s1.toks) kp,Si D,Z,fun b hb=>?_,q⟩
 have lb:s1.heap.objs.size <= b:=by
  simp only [List.mem_cons,List.not_mem_nil,or_false] at hb
  rcases hb with rfl | rfl | rfl | rfl | rfl
  ·exact Nat.le_add_right _ _
  ·exact Nat.le_add_right _ _
  ·exact Nat.le_add_right _ _
  ·exact Nat.le_refl _
  ·exact Nat.le_add_right _ _
 exact I1.fpOk lb (I1.hok.fresh lb)
end L3
namespace DL
open PySem PySem.Spec L2 L3
open PyProof.Rows hiding St
theorem Y2 {P:Program} {w:World} {H:Hp} {h:Heap} {a:Addr} {o:HO} (x:xv P w H h a o):∃ ob,h.get? a=some ob:=by
 cases o with
 | lst xs=>obtain ⟨_,_,_,_,e⟩:=x; exact ⟨_,e⟩
 | tup xs=>obtain ⟨_,_,_,⟨ob,e,_⟩,_⟩:=x; exact ⟨_,e⟩
 | dK kvs=>obtain ⟨_,_,_,_,o,_,_,e,_⟩:=x; exact ⟨_,e⟩
 | dT kvs=>obtain ⟨_,_,_,_,o,_,_,e,_⟩:=x; exact ⟨_,e⟩
 | set S n=>obtain ⟨o,_,_,_,e,_⟩:=x; exact ⟨_,e⟩
 | ins C dx fs=>obtain ⟨_,_,_,e,_⟩:=x; exact ⟨_,e⟩
 | own y=>obtain ⟨_,e⟩:=x; exact ⟨_,e⟩
 | xd fs=>obtain ⟨_,⟨_,_,_,e,_⟩,_⟩:=x; exact ⟨_,e⟩
 | rng lo hi=>obtain ⟨_,_,_,e⟩:=x; exact ⟨_,e⟩
 | frz ob u=>obtain ⟨e,_⟩:=x; exact ⟨_,e⟩
 | tbl ps=>exact ⟨_,(show h.get? a=some _ from x)⟩
 | met f y=>exact ⟨_,(show h.get? a=some _ from x)⟩
 | ext φ=>obtain ⟨_,⟨_,e⟩,_⟩:=x; exact ⟨_,e⟩
structure FlyB (P:Program) (w:World) (outer:List Env) (H:Hp) (h:Heap) (H':Hp) (B:Heap) (h':Heap):Prop where
 un:Un (frs outer) [] H H' h h'
 hok:HOk P w H' h'
 cov:∀ b o,h'.get? b=some o->b ∉ frs outer->(H' b ≠ none \/ ∃ o0,h.get? b=some o0)->B.get? b=some o
section
variable {P:Program} {w:World} {outer:List Env} {H H':Hp} {h h1 h2 B B':Heap}
theorem FlyB.there (F:FlyB P w outer H h H' B h1) {b:Addr} (c:H' b ≠ none \/ ∃ o0,h.get? b=some o0):∃ o,h1.get? b=some o:=by
 rcases c with c | ⟨o0,c⟩
 ·cases e:H' b with
  | none=>exact absurd e c
  | some u=>exact Y2 (F.hok b u e)
 ·exact F.un.there b o0 c (by simp)
theorem FlyB.step (F:FlyB P w outer H h H' B h1) (k:B.StaysIn h2) (u:h1.UpToSlots h2) (ff:h1.FunFrames B' outer) (hf:∀ b ∈ frs outer,H' b=none):FlyB P w outer H h H' B h2:=by
 have nx:∀ b:Addr,b ∉ ([]:List Addr):=fun b z=>nomatch z
 refine ⟨⟨fun b o q n hb hx=>k b o (F.cov b o (F.un.keep b o q n hb hx) hb (.inr ⟨o,q⟩)),fun b o q n hb hx=>?_,F.un.free,fun b o q hx=>?_,F.un.tups,F.un.frzs,F.un.tbls⟩,fun a o e=>?_,fun b o q hb c=>?_⟩
 ·obtain ⟨sl,e1⟩:=F.un.slot b o q n hb hx
  obtain ⟨_,o',e2,nf⟩:=ff.mem hb
  rw [e1] at e2
  cases e2
  obtain ⟨sl',e3⟩:=u b _ e1 nf
  exact ⟨sl',e3⟩
 ·obtain ⟨o',e1⟩:=F.un.there b o q hx
  by_cases hb:b ∈ frs outer
  ·obtain ⟨_,o2,e2,nf⟩:=ff.mem hb
   obtain ⟨sl',e3⟩:=u b _ e2 nf
   exact ⟨_,e3⟩
  ·exact ⟨o',k b o' (F.cov b o' e1 hb (.inr ⟨o,q⟩))⟩
 ·refine (F.hok a o e).stay (fun b v hc q=>?_) (fun _ q=>q) fun _ _ q=>q
  have ht:H' b ≠ none:=by
   rcases hc with rfl | hc
   ·rw [e]; exact fun z=>nomatch z
   ·rw [hc]; exact fun z=>nomatch z
  exact k b v (F.cov b v q (fun z=>ht (hf b z)) (.inl ht))
 ·obtain ⟨o1,e1⟩:=F.there c
  have e2:=F.cov b o1 e1 hb c
  have e3:=k b o1 e2
  rw [q] at e3
  cases e3
  exact e2
end
noncomputable def CX1 (P:Program) (w:World):CXT:=fun outer H s E e s'=>∃ (a C:Addr) (t:Value) (H':Hp) (B:Heap),e=.ref a /\ s'.os=s.os /\ AllBare s'.gens /\ FlyB P w outer H s.heap H' B s'.heap /\
 Heap.FlyingW B outer a (.ref C) t s'.heap /\ E (.ref C) none H'
section
variable {X:Cx} {pn:List (Addr × Obj)} {σ:St} {H1 H':Hp} {s1:Shared} {B h2:Heap}
theorem FlyB.leave (J:Inv X pn σ H1 s1) (hex:X.ex=[]) (F:FlyB X.prog X.w X.stack H1 s1.heap H' B h2):FlyB X.prog X.w X.outer X.H₀ X.s₀.heap H' B h2:=by
 have nx:∀ b:Addr,b ∉ ([]:List Addr):=fun b z=>nomatch z
 have nx':∀ b:Addr,b ∉ X.ex:=fun b z=>by rw [hex] at z; cases z
 have neL:∀ b o,X.s₀.heap.get? b=some o->b ≠ X.env.locals:=fun b o e=>Nat.ne_of_lt (Nat.lt_of_lt_of_le (Heap.lt_size e) J.ok.above)
 have nst:∀ b o,X.s₀.heap.get? b=some o->b ∉ frs X.outer->b ∉ frs X.stack:=fun b o e hb z=>by
  rcases List.mem_cons.mp (J.stkSub b z) with q | q
  ·exact neL b o e q
  ·exact hb q
 obtain ⟨m,hn,_⟩:=J.loc
 obtain ⟨oL,_,_,hL,_⟩:=hn
 have hL':H' X.env.locals=none:=F.un.free _ _ hL J.free (nx _)
 refine ⟨⟨fun b o q n hb _=>F.un.keep b o (J.base.keep b o q n hb (nx' b)) (J.base.free b o q n (nx' b)) (nst b o q hb) (nx b),fun b o q n hb _=>?_,fun b o q n _=>?_,fun b o q _=>?_,fun b xs q=>F.un.tups b xs (J.base.tups b xs q),
  fun b o u q=>F.un.frzs b o u (J.base.frzs b o u q),fun b ps q=>?_⟩,F.hok,fun b o q hb c=>?_⟩
 ·obtain ⟨sl,e1⟩:=J.base.slot b o q n hb (nx' b)
  obtain ⟨sl',e2⟩:=F.un.any e1 (J.base.free b o q n (nx' b)) (nx b)
  exact ⟨sl',e2⟩
 ·obtain ⟨o',e1⟩:=J.base.there b o q (nx' b)
  exact F.un.free b o' e1 (J.base.free b o q n (nx' b)) (nx b)
 ·obtain ⟨o',e1⟩:=J.base.there b o q (nx' b)
  exact F.un.there b o' e1 (nx b)
 ·obtain ⟨m1,e1⟩:=J.base.tbls b ps q
  obtain ⟨m2,e2⟩:=F.un.tbls b _ e1
  exact ⟨m1 ++ m2,by rw [e2,Array.append_assoc]⟩
 ·refine F.cov b o q (fun z=>?_) ?_
  ·rcases List.mem_cons.mp (J.stkSub b z) with e | e
   ·subst e
    rcases c with c | ⟨o0,c⟩
    ·exact c hL'
    ·exact neL _ o0 c rfl
   ·exact hb e
  ·rcases c with c | ⟨o0,c⟩
   ·exact .inl c
   ·exact .inr (J.base.there b o0 c (nx' b))
theorem FlyB.made {h':Heap} {a:Addr} {cls:Value} {vs:List Value} (J:Inv X pn σ H1 s1) (hx:Heap.MadeExcOf s1.heap h' a cls vs) (k:(W.hideAll s1.heap (frs X.stack)).StaysIn h2) (u:h'.UpToSlots h2) :
  FlyB X.prog X.w X.stack H1 s1.heap H1 (W.hideAll s1.heap (frs X.stack)) h2:=by
 have u2:s1.heap.UpToSlots h2:=(Heap.UpToSlots.of_keeps hx.keeps).trans u
 have F0:FlyB X.prog X.w X.stack H1 s1.heap H1 (W.hideAll s1.heap (frs X.stack)) s1.heap:=⟨Un.refl,J.hok,fun b o q hb _=>W.hideAll_get _ q hb⟩
 exact F0.step k u2 J.stack J.stkFree
end
section
variable {P:Program} {w:World} {K:W.Frag} {mg:Str->Option Value} {base:Heap} {N:List Str} {qual:Str} {scope:Scope} {f:Addr} {cd:Value} {A:Around} {outer:List Env} {s:Shared} {H:Hp} {E:XK}
theorem U9 {pn:List (Addr × Obj)} {σ:St} {H1:Hp} {s1:Shared} {h':Heap} {a C:Addr} {vs:List Value} (J:Inv (cxOf (CX1 P w) P w K mg base N qual scope f cd A outer s H E) pn σ H1 s1) (hx:Heap.MadeExcOf s1.heap h' a (.ref C) vs) (hE:E (.ref C) none H1) :
  (cxOf (CX1 P w) P w K mg base N qual scope f cd A outer s H E).xe (.ref a) { s1 with heap:=h' }:=by
 have hin:∀ env ∈ (cxOf (CX1 P w) P w K mg base N qual scope f cd A outer s H E).stack,∀ b,env.frame=some b->b ∈ frs (cxOf (CX1 P w) P w K mg base N qual scope f cd A outer s H E).stack:=fun env he b hb=>List.mem_filterMap.mpr ⟨env,he,hb⟩
 refine wpAny_leaves_madeW (s:={ s1 with heap:=h' }) (base:=W.hideAll s1.heap (frs (cxOf (CX1 P w) P w K mg base N qual scope f cd A outer s H E).stack)) (L:=(cxOf (CX1 P w) P w K mg base N qual scope f cd A outer s H E).env.locals) J.ok.frames rfl (fun b o q=>W.of_hideAll _ q)
  (W.funFrames_hide J.stack hin) hx fun h'' t x1 x2 x3 x4=>?_
 exact ⟨a,C,.ref t,H1,_,rfl,J.os,J.bare,FlyB.leave J rfl (FlyB.made J hx x1.1 x4),x1,hE⟩
theorem Vw {pn:List (Addr × Obj)} {σ:St} {H1:Hp} {s1 s2:Shared} {E':XK} {e:Value} (J:Inv (cxOf (CX1 P w) P w K mg base N qual scope f cd A outer s H E) pn σ H1 s1)
  (hc:CX1 P w (cxOf (CX1 P w) P w K mg base N qual scope f cd A outer s H E).stack H1 s1 E' e s2) (hE:∀ C H',E' (.ref C) none H'->E (.ref C) none H') :
  (cxOf (CX1 P w) P w K mg base N qual scope f cd A outer s H E).xe e s2:=by
 obtain ⟨a,C,t,H',B,rfl,hos,hb,F,fl,hE'⟩:=hc
 refine wpAny_leaves_onW (L:=(cxOf (CX1 P w) P w K mg base N qual scope f cd A outer s H E).env.locals) J.ok.frames rfl fl fun h'' x1 x2=>?_
 have hf:∀ b ∈ frs (cxOf (CX1 P w) P w K mg base N qual scope f cd A outer s H E).stack,H' b=none:=fun b hb=>by
  obtain ⟨_,o,ho,_⟩:=J.stack.mem hb
  exact F.un.free b o ho (J.stkFree b hb) (fun z=>nomatch z)
 exact ⟨a,C,t,H',B,rfl,hos.trans J.os,hb,FlyB.leave J rfl (F.step x1.1 x2 fl.2.2.1 hf),x1,hE C H' hE'⟩
end
end DL
namespace DL
noncomputable def sg (t b:Int):Int:=if b < 0 then -(Int.gcd t b:Int) else Int.gcd t b
noncomputable def rt (t b:Int):Int × Int:=(t.fdiv (sg t b),b.fdiv (sg t b))
end DL
namespace DL
open PySem PySem.Spec L2 L3
open PyProof.Rows hiding St
variable {Γ:Hp->Prop}
open PySem.Builtin.Int (intBits)
theorem fdOk {i j:Int} {m:Nat} (h:j ≠ 0) (hb:intBits j <= m) (hm:m <= 8999:=by omega):FdOk i j:=by
 refine ⟨h,?_⟩
 unfold intBits at hb
 rw [if_neg (by simpa using h)] at hb
 omega
end DL
namespace DL
open PySem PySem.Spec L2 L3
open PyProof.Rows hiding St
open PySem.Builtin.Int (intBits)
theorem yj {n:Nat} {i:Int}:okD n (.int i)=True:=by cases n <;> rfl
theorem Xj {n:Nat} {i:Bool}:okD n (.bl i)=True:=by cases n <;> rfl
theorem Y1 {n:Nat} {i:Str}:okD n (.str i)=True:=by cases n <;> rfl
theorem U1 {n:Nat}:okD n .non=True:=by cases n <;> rfl
theorem qx {a b:Int}:eqD (.int a) (.int b)=(a == b):=rfl
theorem yr {a b:Str}:eqD (.str a) (.str b)=(a == b):=rfl
theorem He {a b:Bool}:eqD (.bl a) (.bl b)=(a == b):=rfl
noncomputable def w1 (g:Int->(EV->Prop)->Prop):FT:=fun ds φ=>match ds with
 | [.int a]=>g a φ
 | _=>False
end DL
namespace DL
open L2
theorem Fc {α:Type} {x:α} {l:List α}:atI (x :: l) 0=some x:=by
 rw [show (0:Int)=((0:Nat):Int) from rfl]
 exact c6 rfl
theorem Fb {α:Type} {x y:α} {l:List α}:atI (x :: y :: l) 1=some y:=by
 rw [show (1:Int)=((1:Nat):Int) from rfl]
 exact c6 rfl
theorem Fa {α:Type} {x y z:α} {l:List α}:atI (x :: y :: z :: l) 2=some z:=by
 rw [show (2:Int)=((2:Nat):Int) from rfl]
 exact c6 rfl
end DL
namespace L2
open PySem PySem.Spec PyProof.Rows
section
variable {κ:Type} [DecidableEq κ]
noncomputable def valV (kvs:List (κ × V)) (k:κ):Option V:=(kvs.find? fun kv=>decide (kv.1=k)).map (·.2)
noncomputable def putK (kvs:List (κ × V)) (k:κ) (v:V):List (κ × V) :=
 if (kvs.any fun kv=>decide (kv.1=k))=true then kvs.map (fun kv=>if kv.1=k then (kv.1,v) else kv) else kvs ++ [(k,v)]
theorem jq {p:κ × V} {r:List (κ × V)} {k:κ} (e:p.1=k):valV (p :: r) k=some p.2:=by simp [valV,List.find?_cons,e]
theorem jr {p:κ × V} {r:List (κ × V)} {k:κ} (e:¬ p.1=k):valV (p :: r) k=valV r k:=by simp [valV,List.find?_cons,e]
theorem RelO.isSome_eq {o:Option V} {u:Option Value} (r:RelO o u):o.isSome=u.isSome:=by
 cases o with
 | none=>cases u with
  | none=>rfl
  | some _=>exact (show False from r).elim
 | some _=>cases u with
  | none=>exact (show False from r).elim
  | some _=>rfl
theorem RelO.getD {o:Option V} {u:Option Value} {d:V} {d':Value} (r:RelO o u) (rd:RelV d d'):RelV (o.getD d) (u.getD d'):=by
 cases o with
 | none=>cases u with
  | none=>exact rd
  | some _=>exact (show False from r).elim
 | some _=>cases u with
  | none=>exact (show False from r).elim
  | some _=>exact r
theorem KV.val {kvs:List (κ × V)} {vs:List (κ × Value)} (r:KV kvs vs) (k:κ):RelO (valV kvs k) (valueAt vs k):=by
 unfold KV at r
 induction r with
 | nil=>exact True.intro
 | @cons p q ps qs h t ih =>
  obtain ⟨h1,h2⟩:=h
  by_cases e:p.1=k
  ·have e':q.1=k:=h1.symm.trans e
   have b:valueAt (q :: qs) k=some q.2:=by simp [valueAt,List.find?_cons,e']
   rw [jq e,b]; exact h2
  ·have e':¬ q.1=k:=fun z=>e (h1.trans z)
   have b:valueAt (q :: qs) k=valueAt qs k:=by simp [valueAt,List.find?_cons,e']
   rw [jr e,b]; exact ih
theorem KV.length {kvs:List (κ × V)} {vs:List (κ × Value)} (r:KV kvs vs):kvs.length=vs.length:=Paired.length r
end
theorem Q3 {P:Program} {w:World} {k:Key} {u:Value} (r:RelV (kV k) u):(yd P w).is k u=true:=by
 cases k with
 | inl i=>obtain ⟨t,e⟩:=(show ∃ t,u=Value.int i t from r); subst e; exact Y4 P w i t
 | inr x=>obtain ⟨t,e⟩:=(show ∃ t,u=Value.str x t from r); subst e; exact qj P w x t
theorem bq {P:Program} {w:World}:∀ {ks:List Key} {us:List Value},Vals (ks.map kV) us->ItemsAre (yd P w) ks us
 | [],_,r=>by rw [List.map_nil] at r; cases r; exact .nil
 | k :: ks,_,r=>by
  rw [List.map_cons] at r
  cases r with
  | cons h t=>exact .cons (Q3 h) (bq t)
noncomputable abbrev KT (H:Hp):List (List Key × V)->List (List Key × Addr × Value)->Prop:=Paired fun p q=>p.1=q.1 /\ H q.2.1=some (.tup (p.1.map kV)) /\ RelV p.2 q.2.2
theorem KT.val {H:Hp} {kvs:List (List Key × V)} {xs:List (List Key × Addr × Value)} (r:KT H kvs xs) (k:List Key):RelO (valV kvs k) ((atKey xs k).map (·.2)):=by
 induction r with
 | nil=>exact True.intro
 | @cons p q ps qs h t ih =>
  obtain ⟨h1,_,h2⟩:=h
  by_cases e:p.1=k
  ·have e':q.1=k:=h1.symm.trans e
   have b:atKey (q :: qs) k=some q.2:=by simp [atKey,List.find?_cons,e']
   rw [jq e,b]; exact h2
  ·have e':¬ q.1=k:=fun z=>e (h1.trans z)
   have b:atKey (q :: qs) k=atKey qs k:=by simp [atKey,List.find?_cons,e']
   rw [jr e,b]; exact ih
section
variable {P:Program} {w:World} {H:Hp} {h:Heap} {a:Addr}
theorem Lo {u:HO} (ok:HOk P w H h) (e:Rd H a u):xv P w H h a u:=e.ok ok
theorem M8 {kvs:List (Key × V)} (ok:HOk P w H h) (e:Rd H a (.dK kvs)):kvs.length <= sizeLine /\ (a == sysModules)=false /\ ∃ vs,KV kvs vs /\ h.DictOf (yd P w) a vs :=
 show xv P w H h a (.dK kvs) from Lo ok e
theorem Ul {ks:List Key} (ok:HOk P w H h) (e:H a=some (.tup (ks.map kV))):(tupleKind (yd P w)).is h ks a:=by
 obtain ⟨_,its,r,⟨o,h1,h2,n,h3⟩,_⟩:=(show xv P w H h a (.tup (ks.map kV)) from ok a _ e)
 exact ⟨o,its.toArray,n,h1,h2,h3,by simpa using bq r⟩
theorem M7 {kvs:List (List Key × V)} (ok:HOk P w H h) (e:Rd H a (.dT kvs)):kvs.length <= sizeLine /\ (a == sysModules)=false /\
  ∃ xs,KT H kvs xs /\ h.DictOfH (tupleKind (yd P w)) a xs:=by
 obtain ⟨z,y,xs,r,o,es,ep,h1,h2,h3,h4,h5⟩:=(show xv P w H h a (.dT kvs) from Lo ok e)
 refine ⟨z,y,xs,r,o,es,ep,h1,h2,h3,h4,fun x hx=>?_,h5⟩
 have all:∀ {l:List (List Key × V)} {m:List (List Key × Addr × Value)},KT H l m->∀ x ∈ m,(tupleKind (yd P w)).is h x.1 x.2.1:=by
  intro l m q
  induction q with
  | nil=>intro x hx; exact nomatch hx
  | @cons p q ps qs hq t ih =>
   intro x hx
   rcases List.mem_cons.mp hx with e | hx
   ·subst e
    exact Ul ok (by rw [<- hq.1]; exact hq.2.1)
   ·exact ih x hx
 exact all r x hx
end
noncomputable def DGet (H:Hp) (a:Addr) (y:V) (r:Option V):Prop :=
 (∃ kvs k,Rd H a (.dK kvs) /\ y=kV k /\ r=valV kvs k) \/ ∃ kvs k b,Rd H a (.dT kvs) /\ y=.ref b /\ H b=some (.tup (k.map kV)) /\ r=valV kvs k
noncomputable def DPut (H:Hp) (a:Addr) (y v:V) (H':Hp):Prop :=
 (∃ kvs k,H a=some (.dK kvs) /\ y=kV k /\ kvs.length < sizeLine /\ H'=upd H a (.dK (putK kvs k v))) \/
 ∃ kvs k b,H a=some (.dT kvs) /\ y=.ref b /\ H b=some (.tup (k.map kV)) /\ kvs.length < sizeLine /\ H'=upd H a (.dT (putK kvs k v))
theorem DGet.k {H:Hp} {a:Addr} {kvs:List (Key × V)} {k:Key} (e:H a=some (.dK kvs)):DGet H a (kV k) (valV kvs k):=.inl ⟨kvs,k,.inl e,rfl,rfl⟩
theorem DGet.t {H:Hp} {a b:Addr} {kvs:List (List Key × V)} {k:List Key} (e:H a=some (.dT kvs)) (eb:H b=some (.tup (k.map kV))):DGet H a (.ref b) (valV kvs k):=.inr ⟨kvs,k,b,.inl e,rfl,eb,rfl⟩
theorem DPut.t {H:Hp} {a b:Addr} {kvs:List (List Key × V)} {k:List Key} {v:V} (e:H a=some (.dT kvs)) (eb:H b=some (.tup (k.map kV))) (hl:kvs.length < sizeLine) :
  DPut H a (.ref b) v (upd H a (.dT (putK kvs k v))):=.inr ⟨kvs,k,b,e,rfl,eb,hl,rfl⟩
section
variable {X:Cx} {pn:List (Addr × Obj)} {σ:St} {H:Hp} {s:Shared} {a:Addr} {y v:V} {u r:Value} {o:Option V} {A:Around} {E:Value->Shared->Prop}
theorem Inv.big (I:Inv X pn σ H s):sysModules < s.heap.objs.size:=by
 have h:mainGlobals < s.heap.objs.size:=(I.mod.glob.keeps I.bk).lt
 exact Nat.lt_trans (by decide) h
theorem Tl {Q:Value->Shared->Prop} (hu:A.units + 1 < cLine) (I:Inv X pn σ H s) (g:DGet H a y (some v)) (ry:RelV y u) (h:∀ w' s',Inv X pn σ H s'->RelV v w'->Q w' s') :
  wpAny (model X.prog X.w) A (getItem (.ref a) u) Q E s:=by
 rcases g with ⟨kvs,k,e,ey,l⟩ | ⟨kvs,k,b,e,ey,eb,l⟩
 ·subst ey
  obtain ⟨z,hd,vs,rel,dd⟩:=M8 I.hok e
  obtain ⟨w',hw,rw'⟩:=RelO.some_of (v:=v) (o:=valueAt vs k) (by rw [l]; exact rel.val k)
  exact wpAny_getItem_of (Q3 ry) dd.mapOf hw (h w' _ (I.tok _) rw')
 ·subst ey
  cases (show u=Value.ref b from ry)
  obtain ⟨z,hd,xs,rel,dd⟩:=M7 I.hok e
  obtain ⟨w',hw,rw'⟩:=RelO.some_of (v:=v) (o:=(atKey xs k).map (·.2)) (by rw [l]; exact rel.val k)
  obtain ⟨p,hp,hp2⟩:=Option.map_eq_some_iff.mp hw
  refine wpAny_getItem_heap (tupleKind_room_in1 hu) (Ul I.hok eb) dd hp ?_
  rw [hp2]
  exact h w' _ (I.tok _) rw'
theorem M9 {Q:Value->Shared->Prop} (hu:A.units + 1 < cLine) (I:Inv X pn σ H s) (g:DGet H a y o) (ry:RelV y u) (h:∀ s',Inv X pn σ H s'->Q (.bool (!o.isSome)) s') :
  wpAny (model X.prog X.w) A (compareOp .NotIn u (.ref a)) Q E s:=by
 rcases g with ⟨kvs,k,e,ey,l⟩ | ⟨kvs,k,b,e,ey,eb,l⟩
 ·subst ey
  obtain ⟨z,hd,vs,rel,dd⟩:=M8 I.hok e
  refine wpAny_notIn_of (Q3 ry) hd dd.mapOf ?_
  rw [<- (rel.val k).isSome_eq,<- l]
  exact h _ (I.tok _)
 ·subst ey
  cases (show u=Value.ref b from ry)
  obtain ⟨z,hd,xs,rel,dd⟩:=M7 I.hok e
  refine wpAny_notIn_heap (tupleKind_room_in1 hu) (Ul I.hok eb) hd dd ?_
  have q:=(rel.val k).isSome_eq
  rw [Option.isSome_map] at q
  rw [<- q,<- l]
  exact h _ (I.tok _)
theorem Pr {P:Program} {w:World} {H':Hp} {h':Heap} {kvs:List (Key × V)} {vs:List (Key × Value)} (z:kvs.length <= sizeLine) (hd:(a == sysModules)=false) (rel:KV kvs vs) (dd:h'.DictOf (yd P w) a vs) :
  xv P w H' h' a (.dK kvs):=⟨z,hd,vs,rel,dd⟩
end
theorem Ys {X:Cx} {pn:List (Addr × Obj)} {σ:St} {H:Hp} {s:Shared} {a:Addr} {y:V} {o:Option V} (I:Inv X pn σ H s) (g:DGet H a y o):s.TypeIs (.ref a) "dict":=by
 rcases g with ⟨kvs,k,e,_,_⟩ | ⟨kvs,k,b,e,_,_,_⟩
 ·obtain ⟨_,_,vs,_,dd⟩:=M8 I.hok e
  exact dd.typeIs
 ·obtain ⟨_,_,xs,_,dd⟩:=M7 I.hok e
  exact dd.typeIs
end L2
namespace DL
open PySem PySem.Spec L2 L3
open PyProof.Rows hiding St
variable {Γ:Hp->Prop}
noncomputable instance decMemKey (k:Key) (ks:List Key):Decidable (k ∈ ks):=decidable_of_iff (ks.any (fun x=>decide (x=k))=true) (by simp)
section
variable {α:Type}
noncomputable def vn:List Key->List α->Key->Option α
 | k' :: ks,d :: ds,k=>if k'=k then some d else vn ks ds k
 | _,_,_=>none
noncomputable def kput (ks:List Key) (k:Key):List Key:=if k ∈ ks then ks else ks ++ [k]
noncomputable def dput:List Key->List α->Key->α->List α
 | k' :: ks,d' :: ds,k,d=>if k'=k then d :: ds else d' :: dput ks ds k d
 | _,_,_,d=>[d]
end
theorem jp:∀ (ks:List Key) (xs:List V) (k:Key),valV (ks.zip xs) k=vn ks xs k
 | [],xs,k=>by cases xs <;> rfl
 | k' :: ks,[],k=>rfl
 | k' :: ks,x :: xs,k=>by
  rw [List.zip_cons_cons,vn]
  by_cases e:k'=k
  ·rw [if_pos e,jq (by exact e)]
  ·rw [if_neg e,jr (by exact e),jp ks xs k]
theorem uy {α:Type}:∀ {ks:List Key} {xs:List α} {k:Key},ks.length=xs.length->(vn ks xs k=none ↔ k ∉ ks)
 | [],xs,k,h=>by cases xs <;> simp [vn] at *
 | k' :: ks,[],k,h=>by simp at h
 | k' :: ks,x :: xs,k,h=>by
  rw [vn]
  by_cases e:k'=k
  ·simp [e]
  ·rw [if_neg e,uy (by simpa using h)]
   simp [e,Ne.symm e]
section
variable {K:W.Frag} {H:Hp} {O:List Addr}
theorem cw:∀ {ks:List Key} {ds:List D} {xs:List V} {k:Key},Reps K H O ds xs->(∀ d,vn ks ds k=some d->∃ v,vn ks xs k=some v /\ Rep K H O d v) /\ (vn ks ds k=none->vn ks xs k=none)
 | [],ds,xs,k,r=>⟨(fun d h=>by cases ds <;> cases h),(fun _=>by cases xs <;> rfl)⟩
 | k' :: ks,[],xs,k,r=>by
  cases r
  exact ⟨(fun d h=>by cases h),fun _=>rfl⟩
 | k' :: ks,d' :: ds,xs,k,r=>by
  obtain ⟨v,ws,rfl,q,t⟩:=r
  rw [vn,vn]
  by_cases e:k'=k
  ·rw [if_pos e,if_pos e]
   exact ⟨(fun d h=>by cases h; exact ⟨v,rfl,q⟩),(fun h=>by cases h)⟩
  ·rw [if_neg e,if_neg e]
   exact cw t
end
noncomputable def keyD:D->Option Key
 | .int i=>some (.inl i)
 | .str x=>some (.inr x)
 | _=>none
theorem Xr {K:W.Frag} {H:Hp} {O:List Addr} {d:D} {v:V} {k:Key} (h:View K H O d v) (e:keyD d=some k):v=kV k:=by
 cases d with
 | int i=>cases e; exact h
 | str i=>cases e; exact h
 | _=>cases e
section
variable {X:Cx} {a b c e o:Expr} {es:List Expr} {ta tb tc te td:TD} {t:TDs} {pos:Pos}
theorem Vz (hu:X.A.units + 1 < cLine):OpR X (compareOp .NotIn) (fun x y H Q=>∃ a kvs k,y=.ref a /\ H a=some (.dK kvs) /\ x=kV k /\ Q (.bl (!(valV kvs k).isSome)) H):=by
 intro pn s σ H x y v u Q I rx ry h
 obtain ⟨a,kvs,k,rfl,ha,rfl,q⟩:=h
 cases ry
 exact M9 hu I (DGet.k ha) rx fun s' I'=>⟨.bl _,H,I',rfl,q⟩
theorem Yj {α:Type} {ks:List Key} {xs:List α} {k:Key} (h:ks.length=xs.length):(vn ks xs k).isSome=decide (k ∈ ks):=by
 by_cases hk:k ∈ ks
 ·rw [decide_eq_true hk]
  cases e:vn ks xs k with
  | none=>exact absurd hk ((uy h).mp e)
  | some _=>rfl
 ·rw [decide_eq_false hk,(uy h).mpr hk]
  rfl
noncomputable def j6:D->Bool
 | .non=>true
 | .bl _=>true
 | .int _=>true
 | .str _=>true
 | _=>false
noncomputable def inD (x:D) (l:List D):Bool:=l.any fun y=>eqD y x
noncomputable def sIn (neg:Bool):D->D->(EV->Prop)->Prop:=fun x y φ=>match y with
 | .dk ks _=>(match keyD x with | some k=>φ (dv (.bl (if neg then !decide (k ∈ ks) else decide (k ∈ ks)))) | none=>False)
 | .lst l=>j6 x=true /\ l.all j6=true /\ φ (dv (.bl (if neg then !inD x l else inD x l)))
 | .tup l=>j6 x=true /\ l.all j6=true /\ φ (dv (.bl (if neg then !inD x l else inD x l)))
 | .str z=>(match x with | .str p=>φ (dv (.bl (if neg then !(!(Builtin.Str.occurrences z p 0 z.length 1).isEmpty) else !(Builtin.Str.occurrences z p 0 z.length 1).isEmpty))) | _=>False)
 | _=>False
theorem qu {K:W.Frag} {H:Hp} {O:List Addr} {d:D} {v:V} (h:View K H O d v) (f:j6 d=true):j5 v=true /\ ∀ (e:D) (w:V),View K H O e w->j6 e=true->eqV v w=eqD d e:=by
 cases d with
 | non=>cases (show v=_ from h); exact ⟨rfl,fun e w he fe=>by cases e <;> first | (cases (show w=_ from he); rfl) | cases fe⟩
 | bl b=>cases (show v=_ from h); exact ⟨rfl,fun e w he fe=>by cases e <;> first | (cases (show w=_ from he); rfl) | cases fe⟩
 | int b=>cases (show v=_ from h); exact ⟨rfl,fun e w he fe=>by cases e <;> first | (cases (show w=_ from he); rfl) | cases fe⟩
 | str b=>cases (show v=_ from h); exact ⟨rfl,fun e w he fe=>by cases e <;> first | (cases (show w=_ from he); rfl) | cases fe⟩
 | _=>cases f
theorem Yl {K:W.Frag} {H:Hp} {O:List Addr} {x:D} {v:V} (hx:View K H O x v) (fx:j6 x=true):∀ {l:List D} {xs:List V},Reps K H O l xs->l.all j6=true->xs.all j5=true /\ inV v xs=inD x l
 | [],_,r,_=>by cases r; exact ⟨rfl,rfl⟩
 | d :: l,xs,r,f=>by
  obtain ⟨w,ws,rfl,q,t⟩:=r
  rw [List.all_cons,Bool.and_eq_true] at f
  obtain ⟨i1,i2⟩:=Yl hx fx t f.2
  obtain ⟨g1,g2⟩:=qu q.view f.1
  refine ⟨by rw [List.all_cons,g1,i1]; rfl,?_⟩
  unfold inV inD at *
  rw [List.any_cons,List.any_cons,i2,g2 x v hx fx]
theorem Nc {K:W.Frag} {neg:Bool}:tm K (fun x y H Q=>(∃ a kvs k,y=.ref a /\ H a=some (.dK kvs) /\ x=kV k /\ Q (.bl (if neg then !(valV kvs k).isSome else (valV kvs k).isSome)) H) \/ rIn K neg x y H Q \/ ∃ i j,x=.str i /\ y=.str j /\ Q (.bl (if neg then !(!(Builtin.Str.occurrences j i 0 j.length 1).isEmpty) else !(Builtin.Str.occurrences j i 0 j.length 1).isEmpty)) H) (sIn neg):=by
 intro H O x y vx vy φ Q ho hx hy h k
 unfold sIn at h
 split at h
 ·split at h
  ·rename_i ks ds kk ek
   obtain ⟨a,xs,rfl,q,l,nd,r⟩:=hy
   refine .inl ⟨a,_,kk,rfl,q,Xr hx ek,?_⟩
   rw [jp,Yj (by rw [l,r.length])]
   exact k _ _ H (Same.refl H) (by exact rfl) h
  ·exact h.elim
 ·obtain ⟨f1,f2,h⟩:=h
  obtain ⟨a,xs,rfl,q,r⟩:=hy
  obtain ⟨g1,g2⟩:=Yl hx f1 r f2
  refine .inr (.inl ⟨a,xs,rfl,.inl (SqL.of q),(qu hx f1).1,g1,?_⟩)
  rw [g2]
  exact k _ _ H (Same.refl H) (by exact rfl) h
 ·obtain ⟨f1,f2,h⟩:=h
  obtain ⟨a,xs,rfl,q,r⟩:=hy
  obtain ⟨g1,g2⟩:=Yl hx f1 r f2
  refine .inr (.inl ⟨a,xs,rfl,.inr q.1,(qu hx f1).1,g1,?_⟩)
  rw [g2]
  exact k _ _ H (Same.refl H) (by exact rfl) h
 ·split at h
  ·exact .inr (.inr ⟨_,_,hx,hy,k _ _ H (Same.refl H) (by exact rfl) h⟩)
  ·exact h.elim
 ·exact h.elim
theorem Qf (hu:X.A.units + 64 < cLine) (ha:ED Γ X a ta) (hb:ED Γ X b tb) (hm:behindInMarks .NotIn b=false:=by with_unfolding_all rfl):ET Γ X (.Compare a [.NotIn] [b] pos) (tBo (d2 (sIn true) ta tb)):=um ((Vz (by omega)).or (b8.or b7)) Nc ha hb hm
noncomputable def sIxx:D->D->(EV->Prop)->Prop:=fun x y φ=>match x with
 | .dk ks ds=>(match keyD y with
  | some k=>(match vn ks ds k with
   | some d=>φ (dv d)
   | none=>False)
  | none=>False)
 | x=>sIx x y φ
theorem Nk (hu:X.A.units + 1 < cLine):IxR X (fun x y H Q=>∃ a kvs k v,x=.ref a /\ H a=some (.dK kvs) /\ y=kV k /\ valV kvs k=some v /\ Q v H):=by
 intro value slice pn s σ H x y v u Q I rx ry h hs
 obtain ⟨a,kvs,k,w,rfl,ha,rfl,e,q⟩:=h
 cases rx
 have g:DGet H a (kV k) (some w):=by rw [<- e]; exact DGet.k ha
 exact tail_any (Ys I g) PySem.F.slot_dict_getitem.lookup (Tl hu I g ry fun w' s' I' rw'=>⟨w,H,I',rw',q⟩) hs
theorem Ru:tm X.K (fun x y H Q=>rIx X.K x y H Q \/ ∃ a kvs k v,x=.ref a /\ H a=some (.dK kvs) /\ y=kV k /\ valV kvs k=some v /\ Q v H) sIxx:=by
 intro H O x y vx vy φ Q ho hx hy h k
 cases x with
 | dk ks ds =>
  obtain ⟨a,xs,rfl,q,l,nd,r⟩:=hx
  unfold sIxx at h
  dsimp only at h
  split at h
  ·rename_i kk ek
   split at h
   ·rename_i d ed
    obtain ⟨v,ev,rv⟩:=(cw (ks:=ks) (k:=kk) r).1 d ed
    exact .inr ⟨a,_,kk,v,rfl,q,Xr hy ek,by rw [jp]; exact ev,k _ _ H (Same.refl H) (RV.val rv) h⟩
   ·exact h.elim
  ·exact h.elim
 | _=>exact .inl (Na H O _ y vx vy φ Q ho hx hy h k)
theorem zh (hu:X.A.units + 64 < cLine) (ha:ED Γ X a ta) (hb:ED Γ X b tb) (hs:c7 b:=by intro _ _; rfl):ED Γ X (.Subscript a b pos) (d2 sIxx ta tb):=fun H₀=>impE (Ov (Uq.or (Nk (by omega))) (ha H₀) (hb H₀) hs) (Rw Ru)
end
section
variable {X:Cx} {x:Str} {e ke:Expr} {te tk:TD} {np pos pos':Pos}
noncomputable def Ll (i:Nat) (tk te:TD):TDS:=fun ρ Z=>match slot ρ i with
 | some ⟨.own,.dk ks ds⟩=>te ρ fun r=>tk ρ fun kr=>(match r.k with | .own=>False | _=>True) /\ ds.length <= 100000 /\ (match keyD kr.d with
  | some k=>Z.nx (setS ρ i (dO (.dk (kput ks k) (dput ks ds k r.d))))
  | none=>False)
 | _=>False
end
theorem d7 {X:Cx} {pn:List (Addr × Obj)} {σ:St} {H:Hp} {s:Shared} {M:Model} {A:Around} {E:Value->Shared->Prop} {i:Nat} {x:Str} {pos:Pos} {Q:Unit->Shared->Prop} (I:Inv X pn σ H s) (hN:X.N.Nodup) (hi:X.N[i]?=some x) (hk:X.env.scope.names.lookup x=some .local)
  (h:∀ s',Inv X pn (σ.set i none) H s'->Q () s'):wpAny M A (do bindName X.env x .none; unbindBehindTheSuite X.env x pos) Q E s:=by
 obtain ⟨m,hn,hl⟩:=id I.loc
 have hcls:(X.env.scope.kind == .class || (X.env.scope.kind == .module && X.env.locals != X.env.globals))=false:=by rw [I.ok.kind]; rfl
 have hiσ:i < σ.length:=by rw [I.len]; exact (List.getElem?_eq_some_iff.mp hi).1
 have cne:=I.cne
 have tracked:∀ {a:Addr} {h':Heap},(∃ o,s.heap.get? a=some o /\ H a=none)->Heap.SameBut a s.heap h'->HOk X.prog X.w H h':=fun {a h'} ha hs b ob e=>by
  obtain ⟨_,_,hfree⟩:=ha
  refine (I.hok b ob e).stay (fun c w' hc q=>(hs.2 c ?_).trans q) (fun _ q=>q) fun _ _ q=>q
  rintro rfl
  rcases hc with rfl | hc
  ·rw [hfree] at e; cases e
  ·rw [hfree] at hc; cases hc
 refine wpAny_nameGoes_keeps hk hn hcls fun h' v hn' hs=>?_
 obtain ⟨oL,_,_,hoL,_⟩:=id hn
 refine h _ ⟨I.ok,I.os,I.bare,⟨fun b o e n hb hx=>?_,fun b o e n hb hx=>?_,I.base.free,fun b o e hx=>?_,I.base.tups,I.base.frzs,I.base.tbls⟩,⟨_,hn',fun j y v' e1 e2 e3=>?_⟩,fun y c e=>?_,I.free,I.freeC,fun p hp=>?_,tracked ⟨oL,hoL,I.free⟩ hs,by simpa using I.len⟩
 ·exact (hs.2 b (Nat.ne_of_lt (Nat.lt_of_lt_of_le (Heap.lt_size e) I.ok.above))).trans (I.base.keep b o e n hb hx)
 ·obtain ⟨sl,e1⟩:=I.base.slot b o e n hb hx
  exact ⟨sl,(hs.2 b (Nat.ne_of_lt (Nat.lt_of_lt_of_le (Heap.lt_size e) I.ok.above))).trans e1⟩
 ·obtain ⟨o',e1⟩:=I.base.there b o e hx
  exact ⟨o',(hs.2 b (Nat.ne_of_lt (Nat.lt_of_lt_of_le (Heap.lt_size e) I.ok.above))).trans e1⟩
 ·by_cases hj:j=i
  ·subst hj
   rw [List.getElem?_set_self hiσ] at e2
   cases e2
  ·rw [List.getElem?_set_ne (Ne.symm hj)] at e2
   obtain ⟨u',r',q⟩:=hl j y v' e1 e2 e3
   refine ⟨u',r',?_⟩
   rcases q with ⟨k,e⟩ | ⟨k,c,e,z⟩
   ·refine .inl ⟨k,?_⟩
    have:y ≠ x:=fun e=>hj (gl hN e1 (e ▸ hi))
    simp [this,e]
   ·exact .inr ⟨k,c,e,z.sameBut hs (cne y c e)⟩
 ·obtain ⟨w',z⟩:=I.cell y c e
  exact ⟨w',z.sameBut hs (cne y c e)⟩
 ·obtain ⟨e,n,ne,nf,d⟩:=I.pin p hp
  exact ⟨(hs.2 p.1 ne).trans e,n,ne,nf,d⟩
noncomputable def clrS:DE->Nat->DE
 | [],_=>[]
 | _ :: r,0=>none :: r
 | x :: r,i + 1=>x :: clrS r i
theorem Yt:∀ (ρ:DE) (i:Nat),clrS ρ i=ρ.set i none
 | [],_=>rfl
 | _ :: _,0=>rfl
 | x :: r,i + 1=>by rw [clrS,Yt r i,List.set_cons_succ]
theorem REnv.clr {K:W.Frag} {H₀ H:Hp} {σ:St} {ρ:DE} {o:List (Nat × Addr)} (R:REnv K H₀ H σ ρ o) (i:Nat):REnv K H₀ H (σ.set i none) (clrS ρ i) o where
 same:=R.same
 fresh:=R.fresh
 trk:=R.trk
 mtb:=R.mtb
 nda:=R.nda
 len:=by rw [Yt,List.length_set,List.length_set]; exact R.len
 slots:=fun j r e=>by
  rw [Yt] at e
  by_cases hj:j=i
  ·subst hj
   rcases Nat.lt_or_ge j ρ.length with z | z
   ·rw [List.getElem?_set_self z] at e
    cases e
   ·rw [List.getElem?_eq_none (by rw [List.length_set]; exact z)] at e
    cases e
  ·rw [List.getElem?_set_ne (Ne.symm hj)] at e
   obtain ⟨w,ew,q⟩:=R.slots j r e
   exact ⟨w,by rw [List.getElem?_set_ne (Ne.symm hj)]; exact ew,q⟩
noncomputable def frzE (ρ:DE):DE:=ρ.map fun x=>x.map fun r=>dv r.d
theorem REnv.frz {K:W.Frag} {H₀ H:Hp} {σ:St} {ρ:DE} {o:List (Nat × Addr)} (R:REnv K H₀ H σ ρ o):REnv K H H σ (frzE ρ) [] where
 same:=Same.refl H
 fresh:=fun _ z=>absurd z (by simp)
 trk:=fun _ z=>absurd z (by simp)
 mtb:=fun _ z=>absurd z (by simp)
 nda:=List.nodup_nil
 len:=by unfold frzE; rw [zLm]; exact R.len
 slots:=fun j r e=>by
  unfold frzE at e
  rw [List.getElem?_map] at e
  cases e1:ρ[j]? with
  | none=>rw [e1] at e; cases e
  | some x =>
   rw [e1] at e
   cases x with
   | none=>cases e
   | some r' =>
    have e':some (dv r'.d)=some r:=Option.some.inj e
    cases e'
    obtain ⟨v,ev,q⟩:=R.slots j r' e1
    refine ⟨v,ev,.inl ⟨rfl,?_⟩⟩
    rcases q with ⟨_,q⟩ | ⟨_,a,rfl,m,c⟩
    ·exact Rep.sub (O':=[]) (fun _ z=>absurd z (by simp)) _ _ q
    ·exact (c.sub (O':=[]) fun _ z=>absurd z (by simp)).rep (by simp)
theorem REnv.unfrz {K:W.Frag} {H₀ H H1:Hp} {σ:St} {ρ:DE} {o1:List (Nat × Addr)} (s:Same H₀ H) (R:REnv K H H1 σ ρ o1):REnv K H₀ H1 σ ρ o1 :=
 ⟨s.trans R.same,fun p hp=>s.free (R.fresh p hp),R.trk,R.mtb,R.nda,R.slots,R.len⟩
theorem REnv.gr {K:W.Frag} {H H1:Hp} {σ:St} {ρ:DE} {o1:List (Nat × Addr)} {O:List Addr} (R:REnv K H H1 σ ρ o1):Grow O (o1.map Prod.snd) H H1 :=
 ⟨fun b u h n=>⟨R.same b u h,fun z=>by
  obtain ⟨p,hp,e⟩:=List.mem_map.mp z
  have:=R.fresh p hp
  rw [e,h] at this
  cases this⟩,fun b xs h=>R.same b _ h,fun b ob u h=>R.same b _ h⟩
noncomputable def XP (Γ:Hp->Prop) (X:Cx) (χ:DE->Addr->Prop):Prop:=∀ (H₀:Hp),Γ H₀->∀ (ρ:DE) (o:List (Nat × Addr)) (pn:List (Addr × Obj)) (σ:St) (H:Hp) (s:Shared) (e:Value) (s':Shared),Inv X pn σ H s->REnv X.K H₀ H σ ρ o ->
 CX1 X.prog X.w X.stack H s (fun cls _ H'=>Same H H' /\ ∃ C,cls=.ref C /\ χ ρ C) e s'->X.xe e s'
noncomputable def XR (Γ:Hp->Prop) (X:Cx) (χ:DE->Addr->Prop):Prop:=∀ (H₀:Hp),Γ H₀->∀ (ρ:DE) (o:List (Nat × Addr)) (pn:List (Addr × Obj)) (σ:St) (H:Hp) (s:Shared) (a C:Addr) (vs:List Value) (h':Heap),Inv X pn σ H s->REnv X.K H₀ H σ ρ o ->
 Heap.MadeExcOf s.heap h' a (.ref C) vs->χ ρ C->X.xe (.ref a) { s with heap:=h' }
noncomputable abbrev FTX:=List D->(EV->Prop)->(Addr->Prop)->Prop
noncomputable def spX (K:W.Frag) (n:Nat) (T:FTX):Sp:=fun vs H Q E=>∃ ds φ χ,ds.length=n /\ Reps K H [] ds vs /\ T ds φ χ /\ (∀ v r H',Same H H'->RV K H H' [] r v->xf r->φ r->Q v H') /\ ∀ C H',Same H H'->χ C->E (.ref C) none H'
structure FX (P:Program) (w:World) (K:W.Frag) (mg:Str->Option Value) (base:Heap) (k:Nat) (x:Str) (ps:List Str) (T:FTX):Prop where
 ex:∃ f fd,FnOk P w K mg base (CX1 P w) k f fd ps (spX K ps.length T) /\ xw K fd ps [] /\ W.keepIn K (.ref f)=true /\ mg x=some (.ref f)
noncomputable def Pv (n:Nat) (T:FTX) (χ:DE->Addr->Prop) (t:TDs):TD:=fun ρ φ=>t ρ fun rs=>Nat.beq rs.length n=true /\ T (rs.map EV.d) φ (χ ρ)
theorem dw {X:Cx} {x:Str} {ps:List Str} {T:FTX} {k:Nat} {e:Expr} {es:List Expr} {t:TDs} {p pos:Pos} {χ:DE->Addr->Prop} (F:FX X.prog X.w X.K X.mg X.base k x ps T) (hr:Room k X.A) (hx:XP Γ X χ) (ha:EA Γ X (e :: es) t) (hg:Gl X x:=by rfl) (hdb:(x == ("__debug__" : Str))=false:=by decide)
  (he:starEach (e :: es) X.env=(false,eval e X.env) :: starEach es X.env:=by rfl) (hpl:(backTo pos (starEach es X.env)).any (·.1)=false:=by rfl):ED Γ X (.Call (.Name x p) (e :: es) [] pos) (Pv ps.length T χ t):=fun H₀ pn s σ H Q I h=>by
 obtain ⟨f,fd,ok,b,kp,m⟩:=F.ex
 obtain ⟨ρ,o,R,φ,hφ,kk⟩:=h
 refine wpAny_Call_Name_kw (wm I hg m ?_ hdb)
 refine W.callWith_K (h₀:=X.base) I.ok.mod.kin kp (thn (ha H₀ pos pn s σ H (fun vs H1=>Same H H1 /\ spX X.K ps.length T vs H1 Q (fun cls _ H'=>Same H1 H' /\ ∃ C,cls=.ref C /\ χ ρ C)) I ⟨ρ,o,R,_,hφ,fun vs rs H1 s1 rvs h1=>?_⟩) fun us s1 ⟨vs,H1,I1,r,sm,q⟩=>⟨I1.kIn,?_⟩) he hpl
 ·refine ⟨s1,rs.map EV.d,φ,χ ρ,by rw [zLm]; exact Nat.eq_of_beq_eq_true h1.1,rvs.reps0,h1.2,fun v r H2 s2 rv pr h2=>?_,fun C H' sm c=>⟨sm,C,rfl,c⟩⟩
  exact kk v r H2 (s1.trans s2) (RV.start (rv.lift pr fun a e=>R.ofree (s1.free e)) s1) h2
 ·have hl:(us ++ []).length=ps.length:=by rw [List.append_nil,<- r.length]; exact ok.len _ _ _ _ q
  have hb:=b s1 us I1.kIn hl
  rw [List.append_nil] at hb
  refine wpAny_call (codeAny_mono (ok.run X.A X.stack s1 H1 ⟨us,[]⟩ us vs Q _ hr I1.env0 hb r q) fun r s' hq=>?_)
  cases r with
  | error e=>exact hx H₀.1 H₀.2 ρ o pn σ H1 s1 e s' I1 (R.to sm) hq
  | ok fl =>
   cases fl with
   | ret u=>exact I1.after hq
   | next=>exact False.elim hq
   | brk=>exact False.elim hq
   | cont=>exact False.elim hq
section
variable {P:Program} {w:World} {K:W.Frag} {mg:Str->Option Value} {base:Heap}
theorem wz {N:List Str} {ds:List D} {vs:List V} {H:Hp} (r:Reps K H [] ds vs):REnv K H H (L2.start N vs) (yb N.length ds) []:=by
 have rl:=r.length
 refine ⟨Same.refl H,(fun _ z=>absurd z (by simp)),(fun _ z=>absurd z (by simp)),(fun _ z=>absurd z (by simp)),List.nodup_nil,fun i r' e=>?_,?_⟩
 ·unfold yb at e
  rcases Nat.lt_or_ge i ds.length with hi | hi
  ·rw [List.getElem?_append_left (by simpa using hi),List.getElem?_map] at e
   have ed:ds[i]?=some ds[i]:=by simp [hi]
   rw [ed] at e
   have e':some (dv ds[i])=some r':=Option.some.inj e
   cases e'
   obtain ⟨v,ev,rv⟩:=r.get ed
   refine ⟨v,?_,.inl ⟨rfl,rv⟩⟩
   unfold L2.start
   rw [List.getElem?_append_left (by rw [zLm,rl]; exact hi),List.getElem?_map,ev]
   rfl
  ·rw [List.getElem?_append_right (by simpa using hi),List.getElem?_replicate] at e
   split at e <;> cases e
 ·unfold L2.start yb
  simp [rl]
theorem Jw {x qual:Str} {st:Stmt} {f:Addr} {fd:FuncData} {N ps:List Str} {k:Nat} {T:FTX} (F:Fun K x qual st f fd) (S:zn N ps (zb st))
  (qY:∀ (qZ:Value) (A:Around) (outer:List Env) (s:Shared) (H:Hp) (E:XK) (ds:List D) (φ:EV->Prop) (χ:Addr->Prop),Room k (A.deeper (envOfC qual (zb st) s.heap.objs.size f qZ))->ds.length=ps.length->T ds φ χ ->
   XP (Same H) (cxOf (CX1 P w) P w K mg base N qual (zb st) f qZ A outer s H E) (fun _=>χ)->XR (Same H) (cxOf (CX1 P w) P w K mg base N qual (zb st) f qZ A outer s H E) (fun _=>χ) ->
   ∃ t,SDs (Same H) (cxOf (CX1 P w) P w K mg base N qual (zb st) f qZ A outer s H E) (y0 st) t /\ t (yb N.length ds) { nx:=fun _=>φ (dv .non),rt:=fun r=>xf r /\ φ r }):FnOk P w K mg base (CX1 P w) (k + 1) f fd ps (spX K ps.length T):=by
 obtain ⟨oc,od,kV,doc,pm,an,qZ,ct,osl,rfl,lk,hcd⟩:=F.ex
 refine Qa lk hcd S (fun vs H Q E h=>?_) fun A outer s H vs Q E hr h=>?_
 ·obtain ⟨ds,φ,χ,hl,r,_⟩:=h
  rw [r.length,hl]
 ·obtain ⟨ds,φ,χ,hl,r,hT,kk,kx⟩:=h
  obtain ⟨t,ht,hq⟩:=qY qZ A outer s H E ds φ χ hr hl hT (fun H₀ g ρ o pn σ H1 s1 e s' J R hc=>Vw J hc fun C H' ⟨sm,C',e',c⟩=>by cases e'; exact kx _ H' ((g.trans R.same).trans sm) c)
   (fun H₀ g ρ o pn σ H1 s1 a C vs h' J R hx c=>U9 J hx (kx C H1 (g.trans R.same) c))
  refine ⟨Y6 K H t,ht ⟨H,Same.refl H⟩,yb N.length ds,[],wz r,_,hq,fun ρ' σ' H' o' g R' q=>?_,fun _ _ _ _ _ _ q=>q.elim,fun _ _ _ _ _ _ q=>q.elim,fun v r' H' s' rv q=>kk v r' H' s' rv q.1 q.2⟩
  exact kk .non (dv .non) H' R'.same rfl trivial q
theorem Js {x qual:Str} {st:Stmt} {f:Addr} {fd:FuncData} {N ps:List Str} {k:Nat} {T:FTX} (F:Fun K x qual st f fd) (S:zn N ps (zb st)) (b:xw K fd ps []) (m:mg x=some (.ref f))
  (qY:∀ (qZ:Value) (A:Around) (outer:List Env) (s:Shared) (H:Hp) (E:XK) (ds:List D) (φ:EV->Prop) (χ:Addr->Prop),Room k (A.deeper (envOfC qual (zb st) s.heap.objs.size f qZ))->ds.length=ps.length->T ds φ χ ->
   XP (Same H) (cxOf (CX1 P w) P w K mg base N qual (zb st) f qZ A outer s H E) (fun _=>χ)->XR (Same H) (cxOf (CX1 P w) P w K mg base N qual (zb st) f qZ A outer s H E) (fun _=>χ) ->
   ∃ t,SDs (Same H) (cxOf (CX1 P w) P w K mg base N qual (zb st) f qZ A outer s H E) (y0 st) t /\ t (yb N.length ds) { nx:=fun _=>φ (dv .non),rt:=fun r=>xf r /\ φ r }):FX P w K mg base (k + 1) x ps T:=⟨f,fd,Jw F S qY,b,F.kp,m⟩
end
theorem Tr {K:W.Frag} {h:Heap} {C:Addr} {bmB:List Value} {newId:String} (X:K.In h) (q:W.excIn K C bmB newId=true) :
  ∃ bm N nm q bs hdct sn sub ab col dd k0 k1 k2 k3 k5 mN,h.get? C=some (excClassObj nm q C N bs bm hdct sn sub ab col dd k0 k1 k2 k3 k5 newId) /\ h.Ns N mN /\ mN "__init__" = none /\ OwnTail h bmB bm:=by
 unfold W.excIn at q
 split at q
 ·rename_i dd cd sl ho
  split at q
  ·rename_i C' bm k0 k1 k2 k3 n k5 hm hs
   simp only [Bool.and_eq_true,beq_iff_eq,Bool.not_eq_true'] at q
   obtain ⟨⟨⟨⟨⟨rfl,rfl⟩,hdel⟩,ht⟩,hok⟩,hni⟩:=q
   obtain ⟨nm,bs,mro,ns,qn,hd,sn,sub,ab,col,del⟩:=cd
   dsimp only at hm hdel hok hni
   subst hm hdel
   have hsl:sl=#[k0,k1,k2,k3,some (.builtin n),k5]:=by
    obtain ⟨l⟩:=sl
    simp only at hs
    rw [hs]
   subst hsl
   exact ⟨bm,ns,nm,qn,bs,hd,sn,sub,ab,col,dd,k0,k1,k2,k3,k5,_,X _ _ ho,.of_isNs (W.isNs_of_in X hok),W.nsMap_none_of_in X hok hni,W.tail_of_in X ht⟩
  ·cases q
 ·cases q
noncomputable def P8 (χ:DE->Addr->Prop) (C:Addr) (t:TDs):TDS:=fun ρ _=>t ρ fun rs=>Nat.ble rs.length 9=true /\ χ ρ C
theorem jz {X:Cx} {x:Str} {C:Addr} {B newId initId:String} {bmB:List Value} {e:Expr} {es:List Expr} {t:TDs} {np cpos pos:Pos} {χ:DE->Addr->Prop} (FB:ExcBaseFacts B newId initId bmB) (hm:X.mg x=some (.ref C)) (hC:W.excIn X.K C bmB newId=true) (hh:X.A.handled=none) (hx:XR Γ X χ)
  (ha:EA Γ X (e :: es) t) (hg:Gl X x:=by rfl) (hdb:(x == ("__debug__" : Str))=false:=by decide) (he:starEach (e :: es) X.env=(false,eval e X.env) :: starEach es X.env:=by rfl) (hpl:(backTo cpos (starEach es X.env)).any (·.1)=false:=by rfl) :
  SD Γ X (.Raise (some (.Call (.Name x np) (e :: es) [] cpos)) none pos) (P8 χ C t):=fun H₀ pn s σ H D I h=>by
 obtain ⟨ρ,o,R,Z,hZ,_⟩:=h
 obtain ⟨bm,N,nm,q,bs,hdct,sn,sub,ab,col,dd,k0,k1,k2,k3,k5,mN,hC',hN,hni,T⟩:=Tr I.ok.mod.kin hC
 refine wpAny_Raise_call_subT (C:=C) (nm:=nm) (q:=q) (N:=N) (bs:=bs) (bm:=bm) (hdct:=hdct) (sn:=sn) (sub:=sub) (ab:=ab) (col:=col) (dd:=dd) (k0:=k0) (k1:=k1) (k2:=k2) (k3:=k3) (k5:=k5)
  FB (mN:=mN) (T.hasType FB.hasBase) hh (by rw [he]; show (false || (backTo cpos (starEach es X.env)).any (·.1))=false; rw [hpl]; rfl) hni (wm I hg hm ⟨rfl,?_⟩ hdb)
 have go:=ha H₀ cpos pn s σ H (fun vs H1=>vs.length <= 9 /\ REnv X.K H₀.1 H1 σ ρ o /\ χ ρ C) I ⟨ρ,o,R,_,hZ,fun vs rs H1 s1 rvs h1=>⟨by rw [rvs.length]; exact Nat.le_of_ble_eq_true h1.1,R.to s1,h1.2⟩⟩
 rw [he] at go ⊢
 refine Calls.evalArgs_plain (wpAny_mono go (fun us s2 ⟨vs,H1,I1,r,hl,R1,c⟩=>⟨rfl,?_,I1.bk _ _ hC',hN.keeps I1.bk,T.keeps I1.bk,fun h' a mx=>hx H₀.1 H₀.2 ρ o pn σ H1 s2 a C us h' I1 R1 mx c⟩) fun _ _ y=>y)
 rw [<- r.length]
 exact Nat.le_trans hl (by decide)
end DL
namespace DL
open PySem PySem.Spec L2 L3 PySem.W PySem.Builtin PySem.Builtin.ObjectAttr PySem.Builtin.Getset_descriptor
open PyProof.Rows hiding St InstAt
section
variable {prog:Program} {w:World} {A:Around} {E:Value->Shared->Prop} {s:Shared} {K:W.Frag} {a C:Addr}
theorem M0 {R:Result->Shared->Prop} {tp:Value} (X:K.In s.heap) (T:Looks (model prog w) s.heap (typeOf (.ref a)) (.ref C)) (hm:mroIn K C (.type "object")=some true)
  (h:R (.ok (.ret (.ref C))) s):codeAny (model prog w) A (.call (.builtin "getset_descriptor.__get__") ⟨[.builtin "object.__class__", .ref a,tp],[]⟩) R s:=by
 obtain ⟨hh,g,dr,t,os⟩:=s
 have L0:=T
 have L1:=looks_mroIn (M:=model prog w) X hm
 refine codeAny_call_builtin KF.slot_gs.plain KF.entry_gs (KF.slot_gs.check _ _ _ _ _ _ _ _ KF.type_class (KF.args_gs _ _ _) ?_)
 unfold Builtin.«getset_descriptor.__get__» descrGet
 rw [dga_obj]
 refine wpAny_bind (wpAny_pure ?_)
 unfold descrGetter descrCheckInstance descrNameAndClass isInstance
 simp only [KF.owner_class]
 repeat lk
 refine ⟨Code.quiet_builtin _ (by decide +kernel),codeAny_builtin KF.entry_class ?_⟩
 unfold Builtin.«object.__class__» shownTypeOf
 repeat lk
 exact h
structure X0 (K:W.Frag) (C:Addr):Prop where
 ga:findIn K (.ref C) "__getattribute__" = some (some (.builtin "BaseException.__getattribute__"))
 hk:findIn K (.ref C) "__getattr__" = some none
 ha:findIn K (.ref C) "__class__" = some (some (.builtin "object.__class__"))
 hn:specialIn K (.builtin "object.__class__") "__get__" = some (some (.builtin "getset_descriptor.__get__"))
 htk:takesIn K (.builtin "object.__class__")=some true
 hm:mroIn K C (.type "object")=some true
 hb:subIn K (.ref C) (.type "BaseException")=some true
 hd:hasDictIn K C=true
theorem T8 {Q:Option Value->Shared->Prop} (Y:X0 K C) (X:K.In s.heap) (T:Looks (model prog w) s.heap (typeOf (.ref a)) (.ref C)) (h:Q (some (.ref C)) { s with toks:=s.toks + 1 }):wpAny (model prog w) A (getAttr? (.ref a) "__class__") Q E s:=by
 obtain ⟨hh,g,d,t,os⟩:=s
 have L0:=T
 have L1:=looks_findIn (M:=model prog w) X Y.ga
 have L2:=looks_findIn (M:=model prog w) X Y.hk
 have L3:=looks_findIn (M:=model prog w) X Y.ha
 have L4:=looks_specialIn (M:=model prog w) X Y.hn
 have L5:=looks_takesIn (M:=model prog w) X Y.htk
 have L6:=looks_subIn (M:=model prog w) X Y.hb
 have LF:Looks (model prog w) hh (find (.ref a) (.ref C) "__class__") (.bind (.builtin "getset_descriptor.__get__") (.builtin "object.__class__")) :=
  L3.andThen ((show Looks (model prog w) hh (getOf (some (.builtin "object.__class__"))) (some (.builtin "getset_descriptor.__get__")) from L4).andThen ((show Looks (model prog w) hh (dataDescriptor? (some (.builtin "object.__class__")) (some (.builtin "getset_descriptor.__get__"))) (some (.builtin "getset_descriptor.__get__", .builtin "object.__class__")) from L5.andThen .now).andThen (Looks.tag .now)))
 have hx2:(Value.builtin "BaseException.__getattribute__" == Value.builtin "object.__getattribute__")=false:=by decide +kernel
 unfold getAttr? getAttrBy? getAttrBy
 refine wpAny_bind (wpAny_mkText (wpAny_bind (wpAny_attempt (wpAny_holding (wpAny_bind (L0.at (wpAny_bind (L1.at ?_))))))))
 dsimp only
 rw [hx2,Bool.and_false,if_neg Bool.false_ne_true]
 unfold getAttrByItsOwn hookBefore
 rw [if_pos (show onTheHeap (Value.ref C)=true from rfl)]
 refine wpAny_bind (L2.at ?_)
 refine wpAny_bind (wpAny_attempt (wpAny_holding ?_))
 unfold callGetattribute boundAndCalled
 rw [Bool.false_and,if_neg Bool.false_ne_true]
 refine wpAny_bind (wpAny_of_eq (PySem.F.attr_ValueError.ga.bind (.ref a)) ?_)
 dsimp only
 refine wpAny_call (codeAny_call_builtin PySem.F.attr_ValueError.ga.plain PySem.F.entry_bexc_ga ?_)
 have hkd:builtinKind "BaseException.__getattribute__" = some .slot:=by decide +kernel
 have hsplit:splitId "BaseException.__getattribute__" = some ("BaseException", "__getattribute__"):=by decide +kernel
 have LI:Looks (model prog w) hh (isInstance (.ref a) (.type "BaseException")) true:=L0.andThen L6
 have hga:=PySem.F.args_bexc_ga (.ref a) (.str "__class__" t)
 have body:wpAny (model prog w) A.in1 (Builtin.«object.__getattribute__» ⟨[.ref a,.str "__class__" t],[]⟩) (fun fin s'=>match fin with | .done (.ret v)=>v=.ref C /\ s'=⟨hh,g,d,t + 1,os⟩ | _=>False) (fun _ _=>False) ⟨hh,g,d,t + 1,os⟩:=by
  unfold Builtin.«object.__getattribute__» slotArgs
  (repeat (first | (refine wpAny_bind (wpAny_holding (wpAny_call (M0 X T Y.hm ?_)))) | lk))
  exact ⟨rfl,rfl⟩
 simp only [checkBuiltinCall,hkd,hsplit]
 refine wpAny_bind (LI.at ?_)
 rw [if_neg (by decide)]
 refine wpAny_of_eq (a:=()) hga (wpAny_mono body (fun fin s' z=>?_) fun _ _ z=>z.elim)
 rcases fin with (_ | _ | _ | v) | _ <;> first | exact z.elim | skip
 obtain ⟨rfl,rfl⟩:=z
 exact wpAny_pure (wpAny_pure h)
end
end DL
namespace DL
open PySem PySem.Spec L2 L3
open PyProof.Rows hiding St
variable {Γ:Hp->Prop}
theorem Q0 {K:W.Frag} {a C:Addr} (Y:X0 K C):W.KitX K (.ref a) (.ref C) (fun h=>∃ o,h.get? a=some o /\ o.cls=.ref C /\ W.notCls o=true) where
 ty:=fun _ _ _ p=>by
  obtain ⟨o,h1,h2,_⟩:=p
  exact h2 ▸ (W.Looks.ld h1).andThen .now
 it:=fun _ _ X _=>by
  obtain ⟨cdD,hcD,_⟩:=W.any_some Y.hd
  unfold W.clsIn at hcD
  split at hcD
  ·rename_i c' d' cd' sl' ho
   intro A' Q' E' s' k q
   unfold isType loadHead
   exact wpAny_bind (wpAny_loadPart (k _ _ (X _ _ ho)) (wpAny_pure q))
  ·cases hcD
 ne:=fun h tp dd its n sl X htp=>by
  obtain ⟨cdD,hcD,_⟩:=W.any_some Y.hd
  refine Bool.eq_false_iff.mpr fun q=>?_
  have e:C=tp:=Value.ref.inj (beq_iff_eq.mp q)
  subst e
  unfold W.clsIn at hcD
  split at hcD
  ·rename_i c' d' cd' sl' ho
   have z:=(X _ _ ho).symm.trans htp
   cases z
  ·cases hcD
 ca:=fun {prog w A E Q s} X p k=>by
  obtain ⟨o,h1,h2,_⟩:=p
  exact T8 Y X (h2 ▸ (W.Looks.ld h1).andThen .now) k
section
variable {X:Cx} {p np pos:Pos} {e:Expr} {te:TD} {c:Str} {C0:Addr}
theorem Ki (hm:X.mg c=some (.ref C0)) (hg:Gl X c:=by rfl) (hd:(c == ("__debug__" : Str))=false:=by decide):PE X (.Name c np) (fun σ H Q=>Q (.ref C0) H):=fun pn s σ H Q I h=>wm I hg hm ⟨.ref C0,H,I,rfl,h⟩ hd
theorem W2:u1 X (.builtin "isinstance") (fun xs H Q=>∃ a C y z b,xs=[.ref a,y] /\ (∀ u,RelV y u->u=z) /\ H a=some (ExcO a C) /\ W.kitOne X.K (.ref C) z=some b /\ X0 X.K C /\ Q (.bl b) H):=by
 intro pn s σ H xs us Q I r h
 obtain ⟨a,C,y,z,b,rfl,hz,hH,ek,Y,q⟩:=h
 obtain ⟨u,v,rfl,ru,rv⟩:=Sd r
 cases (show u=Value.ref a from ru)
 have:=hz v rv
 subst this
 have ob:=I.hok a _ hH
 exact W.kia_one (Q0 Y) I.kIn ob.1 ek (fun z=>nomatch z) fun tk=>⟨.bl b,H,I.tok tk,rfl,q⟩
noncomputable def dIsE (K:W.Frag) (z:Value) (te:TD):TD:=fun ρ φ=>te ρ fun r=>match r.d with
 | .exc C=>∃ b,W.kitOne K (.ref C) z=some b /\ X0 K C /\ φ (dv (.bl b))
 | _=>False
theorem Xn {t:TA} {y:V} {z:Value} {H₀:Hp} (hz:∀ u,RelV y u->u=z) (ht:∀ σ H Q,vo X.K H₀ te σ H (fun v H1=>Q [v,y] H1)->t σ H Q) :
  ∀ σ H Q,vo X.K H₀ (dIsE X.K z te) σ H Q->tCB (fun xs H Q=>∃ a C y z b,xs=[.ref a,y] /\ (∀ u,RelV y u->u=z) /\ H a=some (ExcO a C) /\ W.kitOne X.K (.ref C) z=some b /\ X0 X.K C /\ Q (.bl b) H) t σ H Q:=fun σ H Q q=>by
 obtain ⟨ρ,o,R,φ,hφ,kk⟩:=q
 refine ht σ H _ ⟨ρ,o,R,_,hφ,fun v r H1 s1 rv h1=>?_⟩
 have vw:=rv.view
 split at h1
 ·rename_i C hd
  rw [hd] at vw
  obtain ⟨b,ek,Y,h2⟩:=h1
  obtain ⟨a,rfl,hH,_⟩:=vw
  exact ⟨a,C,y,z,b,rfl,hz,hH,ek,Y,kk _ _ H1 s1 (by exact rfl) h2⟩
 ·exact h1.elim
theorem xq {K0:W.Frag} (hK:X.K=K0) (hi:X.mg "isinstance" = none) (hc:X.mg c=some (.ref C0)) (he:ED Γ X e te) (hg:Gl X "isinstance":=by rfl) (hg2:Gl X c:=by rfl) (hd:(c == ("__debug__" : Str))=false:=by decide)
  (hs:starEach [e,.Name c np] X.env=(false,eval e X.env) :: starEach [.Name c np] X.env:=by rfl) (hpl:(backTo pos (starEach [.Name c np] X.env)).any (·.1)=false:=by rfl):ED Γ X (.Call (.Name "isinstance" p) [e,.Name c np] [] pos) (dIsE K0 (.ref C0) te):=fun H₀=>by
 subst hK
 exact impE (gh W2 hg hi wb (w8 (he H₀) (w8 (Ki hc hg2 hd) u9) hs) (by decide) (by decide) hs hpl) (Xn (y:=.ref C0) (fun u h=>h) fun σ H Q q=>by
  obtain ⟨ρ,o,R,φ,hφ,kk⟩:=q
  exact ⟨ρ,o,R,φ,hφ,kk⟩)
end
theorem ul {X:Cx} {pn pins' pn':List (Addr × Obj)} {σ:St} {H:Hp} {s:Shared} {A':Around} {calm':Bool} {xe':Value->Shared->Prop} (I:Inv X pn σ H s) (hfr:A'.frames=X.A.frames) (hc:calm'=true->A'.handled=none) (hp:∀ p ∈ pn' ++ pins',p ∈ X.pn ++ pn) :
  Inv { X with A:=A',calm:=calm',pn:=pn',xe:=xe' } pins' σ H s :=
 ⟨⟨I.ok.mod,I.ok.kind,I.ok.glob,I.ok.blt,I.ok.above,I.ok.inj,I.ok.has,I.ok.cab,hc,hfr.trans I.ok.frames,I.ok.stk,I.ok.exf,I.ok.bs,I.ok.bsz,I.ok.noex,I.ok.exfs,I.ok.funs,I.ok.frf⟩,
  I.os,I.bare,I.base,I.loc,I.cell,I.free,I.freeC,fun p h=>I.pin p (hp p h),I.hok,I.len⟩
noncomputable abbrev Xtry (X:Cx) (pn:List (Addr × Obj)) (xe:Value->Shared->Prop):Cx:={ X with pn:=pn,xe:=xe }
noncomputable abbrev Xhan (X:Cx) (a:Addr):Cx:={ X with A:=X.A.mark (some (.ref a)),calm:=false,xe:=fun _ _=>False }
noncomputable def hanZ (j:Nat) (Z:DZ):DZ:={ nx:=fun ρ=>Z.nx (clrS ρ j),rt:=Z.rt,bk:=fun ρ=>Z.bk (clrS ρ j),ct:=fun ρ=>Z.ct (clrS ρ j) }
noncomputable def sTry (K:W.Frag) (C0:Addr) (j:Nat) (tb:(DE->Addr->Prop)->TDS) (ts:TDS):TDS:=fun ρ Z =>
 tb (fun ρ' C=>W.exmOne K (.ref C) (.ref C0)=some true /\ ts (setS ρ' j (dv (.exc C))) (hanZ j Z)) (frzE ρ) Z
theorem Yo {P:Program} {w:World} {outer:List Env} {H H':Hp} {h h2 B:Heap} {a C:Addr} {t:Value} (F:FlyB P w outer H h H' B h2) (fl:Heap.FlyingW B outer a (.ref C) t h2) (hf:∀ b ∈ frs outer,H' b=none) :
  H' a=none /\ Un (frs outer) [] H (upd H' a (ExcO a C)) h h2 /\ HOk P w (upd H' a (ExcO a C)) h2:=by
 obtain ⟨oe,vs,hoe,hcl,hd,_⟩:=fl.first
 have nfr:a ∉ frs outer:=fun z=>by
  obtain ⟨_,o',e2,nf⟩:=fl.2.2.1.mem z
  rw [hoe] at e2
  cases e2
  exact nf vs hd
 have nB:=fl.2.1
 have na:H' a=none:=by
  cases e:H' a with
  | none=>rfl
  | some u =>
   have:=F.cov a oe hoe nfr (.inl (by rw [e]; exact fun z=>nomatch z))
   rw [nB] at this
   cases this
 have nh:∀ o,h.get? a ≠ some o:=fun o q=>by
  have:=F.cov a oe hoe nfr (.inr ⟨o,q⟩)
  rw [nB] at this
  cases this
 refine ⟨na,⟨F.un.keep,F.un.slot,fun b o q n hx=>?_,F.un.there,fun b xs q=>?_,fun b o u q=>?_,fun b ps q=>?_⟩,fun b u e=>?_⟩
 ·rw [zj (fun z=>nh o (by rw [<- z]; exact q))]
  exact F.un.free b o q n hx
 ·have:=F.un.tups b xs q
  rw [zj (zf this na)]
  exact this
 ·have:=F.un.frzs b o u q
  rw [zj (zf this na)]
  exact this
 ·obtain ⟨m,this⟩:=F.un.tbls b ps q
  exact ⟨m,by rw [zj (zf this na)]; exact this⟩
 ·by_cases hb:b=a
  ·subst hb
   rw [zi] at e
   cases e
   refine ⟨⟨oe,hoe,hcl,by unfold W.notCls; rw [hd]⟩,⟨oe,hoe⟩,fun h1 h2 ⟨o,q1,q2⟩ k=>⟨o,k o q1,q2⟩⟩
  ·rw [zj hb] at e
   exact (F.hok b u e).stay (fun _ _ _ q=>q) (fun c q=>by rw [zj (zf q na)]; exact q) fun c xs q=>by rw [zj (zf q na)]; exact q
theorem Lg {X:Cx} {K0:W.Frag} (hK:X.K=K0) (j:Nat) {n c:Str} {C0:Addr} {body:List Stmt} {b₀:Stmt} {suite:List Stmt} {np hpos pos:Pos} {tb:(DE->Addr->Prop)->TDS} {ts:TDS} (hN:X.N.Nodup) (hm:X.mg c=some (.ref C0))
  (hb:∀ (Γ':Hp->Prop) (pn:List (Addr × Obj)) (xe:Value->Shared->Prop) (χ:DE->Addr->Prop),XP Γ' (Xtry X pn xe) χ->SDs Γ' (Xtry X pn xe) body (tb χ))
  (hs:∀ a,SDs Γ (Xhan X a) (b₀ :: suite) ts) (hst:X.stack=X.env :: X.outer:=by rfl) (hfr:X.env.frame=some X.env.locals:=by rfl) (hcm:X.calm=true:=by rfl)
  (hi:X.N[j]?=some n:=by rfl) (hk:X.env.scope.names.lookup n=some .local:=by rfl) (hg:Gl X c:=by rfl) (hdb:(c == ("__debug__" : Str))=false:=by decide) :
  SD Γ X (.Try body [.ExceptHandler (some (.Name c np)) (some n) (b₀ :: suite) hpos] [] [] pos) (sTry K0 C0 j tb ts):=fun H₀ pn s σ H D I h=>by
 subst hK
 obtain ⟨ρ,o,R,Z,hZ,k1,k2,k3,k4⟩:=h
 refine wpAny_Try_except ?_
 have hfrm:X.A.frames=some (X.env :: X.outer):=by rw [<- hst]; exact I.ok.frames
 have back:∀ {xe:Value->Shared->Prop} {σ':St} {H':Hp} {s':Shared},Inv (Xtry X (X.pn ++ pn) xe) [] σ' H' s'->Inv X pn σ' H' s':=fun {xe σ' H' s'} J =>
  ul (X:=Xtry X (X.pn ++ pn) xe) (A':=X.A) (calm':=X.calm) (pn':=X.pn) (xe':=X.xe) J rfl (fun z=>I.ok.hd z) (fun p hp=>List.mem_append_left _ hp)
 have go:=hb (fun H'=>H'=H) (X.pn ++ pn) (fun e s₁=>wpAny (model X.prog X.w) X.A (noteFrame e X.env) (fun _ s₂=>wpAny (model X.prog X.w) X.A (setFlight e none) (fun _ s₃=>wpAny (model X.prog X.w) X.A (handleBy e X.env [.ExceptHandler (some (.Name c np)) (some n) (b₀ :: suite) hpos]) (SP X pn D) X.xe s₃) X.xe s₂) X.xe s₁)
  (fun ρ' C=>W.exmOne X.K (.ref C) (.ref C0)=some true /\ ts (setS ρ' j (dv (.exc C))) (hanZ j Z)) (fun H₀' hH ρ1 o1 pins' σ1 H1 s1 e s' J R1 hc=>?_) ⟨H,rfl⟩ [] s σ H D
  (ul (A':=X.A) (calm':=X.calm) (pn':=X.pn ++ pn) I rfl (fun z=>I.ok.hd z) (fun p hp=>by rwa [List.append_nil] at hp))
  ⟨frzE ρ,[],R.frz,Z,hZ,fun ρ' σ' H' o' g R' q=>k1 ρ' σ' H' o' R'.gr (R'.unfrz R.same) q,fun ρ' σ' H' o' g R' q=>k2 ρ' σ' H' o' R'.gr (R'.unfrz R.same) q,fun ρ' σ' H' o' g R' q=>k3 ρ' σ' H' o' R'.gr (R'.unfrz R.same) q,
   fun v r H' sm rv q=>k4 v r H' (R.same.trans sm) (rv.start R.same) q⟩
 ·refine wpAny_mono go (fun f s1 hf=>?_) (fun e s1 he=>he)
  cases f with
  | next=>obtain ⟨σ',H',J,q⟩:=hf; exact qe pn s1 σ' H' D (back J) q
  | brk=>obtain ⟨σ',H',J,q⟩:=hf; exact ⟨σ',H',back J,q⟩
  | cont=>obtain ⟨σ',H',J,q⟩:=hf; exact ⟨σ',H',back J,q⟩
  | ret u=>obtain ⟨v,σ',H',J,rv,q⟩:=hf; exact ⟨v,σ',H',back J,rv,q⟩
 ·subst hH
  obtain ⟨a,C,t,H',B,rfl,hos,hbare,F,fl,sm,C',e',hmt,hts⟩:=hc
  cases e'
  have hf:∀ b ∈ frs X.stack,H' b=none:=fun b hb=>by
   obtain ⟨_,o,ho,_⟩:=J.stack.mem hb
   exact F.un.free b o ho (J.stkFree b hb) (fun z=>nomatch z)
  have fl':Heap.FlyingW B (X.env :: X.outer) a (.ref C) t s'.heap:=by rw [<- hst]; exact fl
  refine wpAny_looks_onW hfrm hfr fl' fun h₄ held₄ u₄=>?_
  refine wpAny_landsW held₄ fun h₅ fl₅ u₅=>?_
  have F5:FlyB X.prog X.w X.stack H1 s1.heap H' B h₅:=F.step fl₅.1 (u₄.trans u₅) fl.2.2.1 hf
  have inX:∀ {H2:Hp} {hh:Heap},Un (frs X.stack) [] H1 H2 s1.heap hh->HOk X.prog X.w H2 hh->Inv (Xhan X a) pn σ1 H2 { s' with heap:=hh }:=fun {H2 hh} un hok=>by
   have J5:=J.call' (s':={ s' with heap:=hh }) hos un hok hbare (fun b z=>absurd z (by simp))
   exact ul (X:=Xtry X (X.pn ++ pn) _) (A':=X.A.mark (some (.ref a))) (calm':=false) (pn':=X.pn) J5 rfl (fun z=>nomatch z) (fun p hp=>List.mem_append_left _ hp)
  have J5:=inX F5.un F5.hok
  refine wpAny_handleBy_cons (codeAny_handlers_test (wm (X:=Xhan X a) J5 hg hm ?_ hdb)) (by intro q; cases q)
  have LT:W.Looks (model X.prog X.w) h₅ (typeOf (.ref a)) (.ref C):=by
   obtain ⟨ob,hob,hcls⟩:=fl₅.there
   exact hcls ▸ (W.Looks.ld hob).andThen .now
  refine (W.exm_one J5.kIn LT hmt).here ?_
  refine codeAny_handlers_suite_as ?_
  refine lands_againW fl₅ fun h₆ fl₆ u₆=>?_
  have F6:FlyB X.prog X.w X.stack H1 s1.heap H' B h₆:=F5.step fl₆.1 u₆ (by rw [hst]; exact fl₅.2.2.1) hf
  obtain ⟨na,un6,ok6⟩:=Yo F6 (by rw [hst]; exact fl₆) hf
  refine jw (X:=Xhan X a) (i:=j) (v:=.ref a) (inX un6 ok6) hN hi (.inl hk) rfl (fun s7 I7=>?_) (.inr hk)
  have sm6:Same H' (upd H' a (ExcO a C)):=fun b u e=>by rw [zj (zf e na)]; exact e
  have R6:=((R1.unfrz R.same).to sm).to sm6
  have R7:=R6.setV j (d:=.exc C) (v:=.ref a) ⟨a,rfl,zi,(R1.to sm).ofree na⟩
  have gr:Grow (o.map Prod.snd) (o1.map Prod.snd) H₀' (upd H' a (ExcO a C)):=(R1.gr.trans (Grow.same sm)).trans (Grow.same sm6)
  have suite:=hs a H₀ pn s7 _ _ { nx:=fun σ2 H2=>D.nx (σ2.set j none) H2,rt:=D.rt,bk:=fun σ2 H2=>D.bk (σ2.set j none) H2,ct:=fun σ2 H2=>D.ct (σ2.set j none) H2 } I7
   ⟨_,o1,R7,hanZ j Z,hts,fun ρ' σ' H2 o' g R' q=>k1 _ _ H2 o' (gr.trans g) (R'.clr j) q,fun ρ' σ' H2 o' g R' q=>k2 _ _ H2 o' (gr.trans g) (R'.clr j) q,fun ρ' σ' H2 o' g R' q=>k3 _ _ H2 o' (gr.trans g) (R'.clr j) q,k4⟩
  have backH:∀ {σ':St} {H':Hp} {s':Shared},Inv (Xhan X a) pn σ' H' s'->Inv X pn σ' H' s':=fun {σ' H' s'} J =>
   ul (X:=Xhan X a) (A':=X.A) (calm':=X.calm) (pn':=X.pn) (xe':=X.xe) J rfl (fun z=>I.ok.hd z) (fun p hp=>hp)
  refine wpAny_mono suite (fun f s8 hf=>?_) (fun _ _ z=>z.elim)
  cases f with
  | next=>obtain ⟨σ',H2,J8,q⟩:=hf; exact d7 (X:=X) (backH J8) hN hi hk fun s9 I9=>⟨_,H2,I9,q⟩
  | brk=>obtain ⟨σ',H2,J8,q⟩:=hf; exact d7 (X:=X) (backH J8) hN hi hk fun s9 I9=>⟨_,H2,I9,q⟩
  | cont=>obtain ⟨σ',H2,J8,q⟩:=hf; exact d7 (X:=X) (backH J8) hN hi hk fun s9 I9=>⟨_,H2,I9,q⟩
  | ret u=>obtain ⟨v,σ',H2,J8,rv,q⟩:=hf; exact d7 (X:=X) (backH J8) hN hi hk fun s9 I9=>⟨v,_,H2,I9,rv,q⟩
section
variable {X:Cx} {e:Expr} {te:TD} {pos:Pos}
noncomputable def To:List TD->Str->TD
 | [],out=>fun ρ φ=>φ (dv (.str out))
 | t :: ts,out=>fun ρ φ=>t ρ fun r=>match r.d with
  | .str y=>(out ++ y).length <= sizeLine /\ To ts (out ++ y) ρ φ
  | _=>False
theorem Up:∀ {es:List Expr} {ts:List TD},Paired (ED Γ X) es ts->∀ (out:Str) (H₀:{H:Hp // Γ H}) (pn:List (Addr × Obj)) (s:Shared) (σ:St) (H:Hp) (Q:VK),out.length <= sizeLine->Inv X pn σ H s->vo X.K H₀.1 (To ts out) σ H Q ->
  wpAny (model X.prog X.w) X.A (joinParts out (evalEach es X.env)) (EP X pn σ Q) X.xe s
 | _,_,.nil,out,H₀,pn,s,σ,H,Q,hz,I,q=>by
  obtain ⟨ρ,o,R,φ,hφ,k⟩:=q
  exact joinParts_nil ⟨.str out,H,I.tok _,⟨_,rfl⟩,k _ (dv (.str out)) H (Same.refl H) (by exact rfl) hφ⟩ hz
 | _,_,.cons (a:=e1) (b:=t1) (l₁:=es) (l₂:=ts) he r,out,H₀,pn,s,σ,H,Q,hz,I,q=>by
  obtain ⟨ρ,o,R,φ,hφ,k⟩:=q
  show wpAny _ _ (joinParts out (eval e1 X.env :: evalEach es X.env)) _ _ s
  have one:=he H₀ pn s σ H (fun v H1=>∃ y,v=.str y /\ (out ++ y).length <= sizeLine /\ vo X.K H₀.1 (To ts (out ++ y)) σ H1 Q) I ⟨ρ,o,R,_,hφ,fun v r H1 s1 rv h1=>by
   obtain ⟨kd,d⟩:=r
   cases d with
   | str y=>exact ⟨y,rv.view,h1.1,ρ,o,R.to s1,φ,h1.2,fun v r H2 s2 rv2 h2=>k v r H2 (s1.trans s2) (rv2.start s1) h2⟩
   | _=>exact h1.elim⟩
  refine joinParts_cons (thn one fun v s1 hh=>?_)
  obtain ⟨x,H1,I1,rx,y,ex,hy,q1⟩:=hh
  subst ex
  obtain ⟨t,rfl⟩:=rx
  exact ⟨hy,Up r _ H₀ pn s1 σ H1 Q hy I1 q1⟩
theorem M3 {v₁ v₂:Expr} {rest:List Expr} {ts:List TD} (h:Paired (ED Γ X) (v₁ :: v₂ :: rest) ts):ED Γ X (.JoinedStr (v₁ :: v₂ :: rest) pos) (To ts Str.empty):=fun H₀ pn s σ H Q I q =>
 JoinedStr_many (Up h Str.empty H₀ pn s σ H Q (by decide) I q)
end
open PySem.Builtin.Int (intBits)
theorem cp10 {j:Int} (h0:0 <= j) (h1:j <= 1000):CPow 10 j=True:=by
 refine eq_true ⟨h0,by omega,by decide⟩
theorem Va {k:Nat}:((10:Int) ^ k=0)=False:=by
 refine eq_false ?_
 have:(0:Int) < 10 ^ k:=Int.pow_pos (by decide)
 omega
theorem Z8 {i j:Int} (h:j ≠ 0) (h1:j.natAbs <= 1000000000000):FdOk i j=True:=eq_true (fdOk (m:=64) h (PySem.intBits_le_iff.mpr (by omega)))
theorem k9 (l:List D) (k:Nat):cutD l none (some (k:Int))=l.take k:=by
 unfold cutD
 rw [HT.sIx_none,HT.sIx_nat,List.drop_zero,Nat.sub_zero]
 rw [List.take_eq_take_iff]
 omega
theorem uq (l:List D) (k:Nat):cutD l (some (k:Int)) none=l.drop k:=by
 unfold cutD
 rw [HT.sIx_none,HT.sIx_nat]
 by_cases h:k <= l.length
 ·rw [Nat.min_eq_left h,List.take_of_length_le (by simp)]
 ·rw [Nat.min_eq_right (by omega),List.drop_of_length_le (Nat.le_refl _),List.drop_of_length_le (by omega)]
  simp
theorem W0 (l:List D) (j k:Nat):cutD l (some (j:Int)) (some (k:Int))=(l.drop j).take (k - j):=by
 unfold cutD
 rw [HT.sIx_nat,HT.sIx_nat]
 by_cases h:j <= l.length
 ·rw [Nat.min_eq_left h,List.take_eq_take_iff,List.length_drop]
  omega
 ·rw [show min j l.length=l.length by omega,List.drop_of_length_le (Nat.le_refl _),List.drop_of_length_le (by omega)]
  simp
theorem kh {α:Type} {l:List α} {i:Int} {x:α} (h0:0 <= i) (h:l[i.toNat]?=some x):atI l i=some x:=by
 have:=c6 h
 rwa [Int.toNat_of_nonneg h0] at this
theorem yu (x m:Int) (h:0 < m):0 <= x.fmod m /\ x.fmod m < m:=⟨Int.fmod_nonneg_of_pos x h,Int.fmod_lt_of_pos x h⟩
theorem Pw {x:Int} {m:Nat} (h:x.natAbs < 2 ^ m):intBits x <= m:=PySem.intBits_le_iff.mpr h
end DL
namespace DL
open PySem PySem.Spec L2 L3
theorem rn {ti:TID} {g:TGD} {tb:TDS} {ρ:DE} {Z:DZ} (ds:List D) (h:∀ φ:List D->Prop,φ ds->ti ρ φ) (P:Nat->DE->Prop) (h0:P 0 ρ)
  (ht:∀ i d ρ,ds[i]?=some d->P i ρ->g d ρ fun ρ'=>tb ρ' { Z with nx:=P (i + 1),ct:=P (i + 1),bk:=Z.nx }) (hd:∀ ρ,P ds.length ρ->Z.nx ρ):sFor ti g tb ρ Z:=h _ ⟨P,h0,ht,hd⟩
theorem wf {ti:TID} {n:Nat} {js:List Nat} {g:TGD} {tc:TDb} {te:TD} {ρ:DE} {φ:EV->Prop} (ds:List D) (h:∀ ψ:List D->Prop,ψ ds->ti ρ ψ) (f:D->Option D) (hl:ds.length <= 100000)
  (ht:∀ d ∈ ds,g d (ρ0 n js ρ) fun ρ'=>tc ρ' fun c=>(c=true->te ρ' fun r=>(match r.k with | .own=>False | _=>True) /\ f d=some r.d) /\ (c=false->f d=none)) (hφ:φ (df (.lst (ds.filterMap f)))):Qo ti n js g tc te ρ φ:=h _ ⟨f,hl,ht,hφ⟩
theorem rq {lo:Int} {n i:Nat} {d:D} (h:(rngD lo n)[i]?=some d):i < n /\ d=.int (lo + (i:Int)):=by
 unfold rngD at h
 rw [List.getElem?_map] at h
 cases e:(List.range n)[i]? with
 | none=>rw [e] at h; cases h
 | some m =>
  rw [e] at h
  have hi:=(List.getElem?_eq_some_iff.mp e).1
  rw [List.length_range] at hi
  rw [List.getElem?_range hi] at e
  cases e
  cases h
  exact ⟨hi,rfl⟩
theorem uv {lo:Int} {n:Nat}:(rngD lo n).length=n:=by unfold rngD; simp
theorem Ml {α β:Type} (f:α->β) (l:List α) (i:Int):atI (l.map f) i=(atI l i).map f:=by
 unfold atI
 rw [zLm]
 cases ixN l.length i with
 | none=>rfl
 | some j=>simp
end DL
namespace DL
open PySem PySem.Spec L2 L3
open PyProof.Rows hiding St
theorem gd {X:Cx} {K0:W.Frag} {es:List Expr} {k:Nat} {t:TGs} {n:Nat} {pos:Pos} (hK:X.K=K0) (hc:X.calm=true) (h:PGs X es t) (hn:(assignEach es X.env).length=n:=by rfl) (hst:(assignEach es X.env).findIdx? (·.1)=none:=by rfl):PG X (.Tuple es k pos) (gTup K0 n t):=by
 subst hK
 exact K9 hc h hn hst
theorem Qq {K:W.Frag} {C:Addr} (hd:W.hasDictIn K C=true):(W.clsIn K C).isSome=true:=by
 obtain ⟨cd,hc,_⟩:=W.any_some hd
 rw [hc]; rfl
theorem bo {K:W.Frag} {C C0:Addr} {b:Bool} (ty:W.typeIn K (.ref C0)=some (.type "type")) (hd:W.hasDictIn K C0=true) (h:W.subIn K (.ref C) (.ref C0)=some b):W.kitCls K (.ref C) (.ref C0)=some b:=by
 unfold W.kitCls
 dsimp only
 rw [if_pos (by rw [Qq hd,ty]; rfl)]
 exact h
theorem Zb {K:W.Frag} {C C0:Addr} {b:Bool} (hb:W.subIn K (.ref C0) (.type "BaseException")=some true) (ty:W.typeIn K (.ref C0)=some (.type "type")) (hd:W.hasDictIn K C0=true) (h:W.subIn K (.ref C) (.ref C0)=some b):W.exmOne K (.ref C) (.ref C0)=some b:=by
 unfold W.exmOne
 rw [if_pos (by rw [hb]; rfl)]
 exact bo ty hd h
theorem Xq {K:W.Frag} {C:Addr}:W.kitOne K (.ref C) (.ref C)=some true:=by
 unfold W.kitOne
 rw [if_pos (beq_self_eq_true _)]
theorem yo {K:W.Frag} {C C0:Addr} {b:Bool} (hn:C ≠ C0) (ty:W.typeIn K (.ref C0)=some (.type "type")) (hd:W.hasDictIn K C0=true) (h:W.subIn K (.ref C) (.ref C0)=some b):W.kitOne K (.ref C) (.ref C0)=some b:=by
 unfold W.kitOne
 rw [if_neg (fun z=>hn (Value.ref.inj (beq_iff_eq.mp z)))]
 exact bo ty hd h
noncomputable abbrev excV (K:W.Frag) (C:Addr):Prop:=W.excIn K C [.type "ValueError", .type "Exception", .type "BaseException", .type "object"] "ValueError.__new__" = true
end DL
namespace DL
open PySem PySem.Spec L2 L3
open PyProof.Rows hiding St
variable {Γ:Hp->Prop}
noncomputable def zipD (xs ys:List D):List D:=List.zipWith (fun x y=>D.tup [x,y]) xs ys
noncomputable def seqD:D->Option (List D)
 | .lst ds=>some ds
 | .tup ds=>some ds
 | .scr ns=>some (ns.map D.int)
 | _=>none
theorem Sz {ds:List D}:seqD (.lst ds)=some ds:=rfl
theorem Sx {ds:List D}:seqD (.tup ds)=some ds:=rfl
theorem Sy {ns:List Int}:seqD (.scr ns)=some (ns.map D.int):=rfl
noncomputable def SeqP (b:Bool) (K:W.Frag) (H:Hp) (O:List Addr) (l:Addr) (d:D):Prop:=match d with
 | .lst ds=>b=false /\ ∃ xs,H l=some (.lst xs) /\ l ∉ O /\ Reps K H O ds xs
 | .tup ds=>b=true /\ ∃ xs,SqT K H l xs /\ Reps K H O ds xs
 | .scr ns=>b=false /\ Scr K H l ns
 | _=>False
theorem SeqP.of {K:W.Frag} {H:Hp} {O:List Addr} {d:D} {v:V} {ds:List D} (h:Rep K H O d v) (e:seqD d=some ds):∃ b l,v=.ref l /\ SeqP b K H O l d:=by
 cases d with
 | lst es=>obtain ⟨a,xs,rfl,q,n,r⟩:=h; exact ⟨false,a,rfl,rfl,xs,q,n,r⟩
 | tup es=>obtain ⟨a,xs,rfl,q,r⟩:=h; exact ⟨true,a,rfl,rfl,xs,q.1,r⟩
 | scr ns=>obtain ⟨a,rfl,q⟩:=h; exact ⟨false,a,rfl,rfl,q⟩
 | _=>cases e
theorem SeqP.sq {b:Bool} {K:W.Frag} {H:Hp} {O:List Addr} {l:Addr} {d:D} {ds:List D} (h:SeqP b K H O l d) (e:seqD d=some ds):∃ xs,SqK b K H l xs /\ Reps K H O ds xs:=by
 cases d with
 | lst es=>obtain ⟨rfl,xs,q,n,r⟩:=h; cases e; exact ⟨xs,SqL.of q,r⟩
 | tup es=>obtain ⟨rfl,xs,q,r⟩:=h; cases e; exact ⟨xs,q,r⟩
 | scr ns=>obtain ⟨rfl,q⟩:=h; cases e; exact ⟨_,q.seq,Reps.ints ns⟩
 | _=>cases e
theorem SeqP.grow {b:Bool} {K:W.Frag} {H H':Hp} {O O':List Addr} {l:Addr} {d:D} (h:SeqP b K H O l d) (g:Grow O O' H H'):SeqP b K H' O' l d:=by
 cases d with
 | lst es=>obtain ⟨rfl,xs,q,n,r⟩:=h; exact ⟨rfl,xs,(g.keep _ _ q n).1,(g.keep _ _ q n).2,Reps.grow g _ _ r⟩
 | tup es=>obtain ⟨rfl,xs,q,r⟩:=h; exact ⟨rfl,xs,jx g q,Reps.grow g _ _ r⟩
 | scr ns=>obtain ⟨rfl,q⟩:=h; exact ⟨rfl,ra g q⟩
 | _=>exact h.elim
section
variable {X:Cx} {pn:List (Addr × Obj)} {σ:St} {H:Hp} {s:Shared}
theorem Jh {K:W.Frag} {b1 b2:Bool} {l1 l2:Addr} {d1 d2:D} {xs ys:List D} (e1:seqD d1=some xs) (e2:seqD d2=some ys):ItD K (Itz b1 b2 K l1 l2) (zipD xs ys) (fun H O=>SeqP b1 K H O l1 d1 /\ SeqP b2 K H O l2 d2) where
 go:=fun H O i d ⟨p1,p2⟩ e=>by
  obtain ⟨us,q1,r1⟩:=p1.sq e1
  obtain ⟨vs,q2,r2⟩:=p2.sq e2
  unfold zipD at e
  rw [List.getElem?_zipWith] at e
  cases ex:xs[i]? with
  | none=>rw [ex] at e; cases e
  | some x =>
   cases ey:ys[i]? with
   | none=>rw [ex,ey] at e; cases e
   | some y =>
    rw [ex,ey] at e
    cases e
    obtain ⟨u,eu,ru⟩:=r1.get ex
    obtain ⟨v,ev,rv⟩:=r2.get ey
    refine ⟨⟨us,vs,u,v,q1,q2,eu,ev⟩,fun z H' yl=>?_⟩
    obtain ⟨T,u',v',hT,rfl,eu',ev',rfl⟩:=yl
    have eu':=eu' _ q1
    have ev':=ev' _ q2
    rw [eu] at eu'
    rw [ev] at ev'
    cases eu'
    cases ev'
    have sm:Same H (upd H T (.tup [u,v])):=fun b w hb=>by rw [zj (zf hb hT)]; exact hb
    refine ⟨sm,T,[u,v],rfl,⟨.inl (.inl zi),zi⟩,?_⟩
    exact ⟨u,[v],rfl,Rep.grow (Grow.same sm) _ _ ru,v,[],rfl,Rep.grow (Grow.same sm) _ _ rv,rfl⟩
 stop:=fun H O ⟨p1,p2⟩=>by
  obtain ⟨us,q1,r1⟩:=p1.sq e1
  obtain ⟨vs,q2,r2⟩:=p2.sq e2
  refine ⟨us,vs,q1,q2,?_⟩
  have h1:=r1.length
  have h2:=r2.length
  unfold zipD
  rw [List.length_zipWith,h1,h2]
  omega
 keep:=fun O O' H H' ⟨p1,p2⟩ g=>⟨p1.grow g,p2.grow g⟩
noncomputable def iZ (t:TDs):TID:=fun ρ φ=>t ρ fun rs=>match rs with
 | [⟨k1,d1⟩,⟨k2,d2⟩]=>(match k1 with | .own=>False | _=>True) /\ (match k2 with | .own=>False | _=>True) /\ match seqD d1,seqD d2 with
  | some xs,some ys=>φ (zipD xs ys)
  | _,_=>False
 | _=>False
theorem Hg {es:List Expr} {kk:Nat} {tp:Pos} {a b:Expr} {t:TDs} {p pos:Pos} (hm:X.mg "zip" = none) (ha:EA Γ X [a,b] t) (hg:Gl X "zip":=by rfl)
  (he:starEach [a,b] X.env=(false,eval a X.env) :: starEach [b] X.env:=by rfl) (hpl:(backTo pos (starEach [b] X.env)).any (·.1)=false:=by rfl):EI Γ X (.Tuple es kk tp) (.Call (.Name "zip" p) [a,b] [] pos) (iZ t):=fun H₀=>impI (K8 hg hm (ha H₀) he hpl) fun σ H R q=>by
 obtain ⟨ρ,o,RE,φ,hφ,k⟩:=q
 refine ⟨ρ,o,RE,_,hφ,fun vs rs H1 s1 rvs h1=>?_⟩
 split at h1
 ·rename_i k1 d1 k2 d2
  obtain ⟨n1,n2,h1⟩:=h1
  obtain ⟨v1,w1,rfl,q1,v2,w2,rfl,q2,rfl⟩:=rvs
  have p1:=q1.solid (v3 n1)
  have p2:=q2.solid (v3 n2)
  split at h1
  ·rename_i xs ys e1 e2
   obtain ⟨b1,l1,rfl,z1⟩:=SeqP.of p1 e1
   obtain ⟨b2,l2,rfl,z2⟩:=SeqP.of p2 e2
   obtain ⟨us,y1,_⟩:=z1.sq e1
   obtain ⟨ws,y2,_⟩:=z2.sq e2
   exact ⟨b1,b2,l1,l2,us,ws,rfl,y1,y2,k _ _ _ H1 s1 (Jh e1 e2) ⟨z1,z2⟩ h1⟩
  ·exact h1.elim
 ·exact h1.elim
noncomputable def Nr:List D->Option (List Int)
 | []=>some []
 | .int n :: r=>(Nr r).map (n :: ·)
 | _ :: _=>none
theorem Z4:∀ (ns:List Int),Nr (ns.map D.int)=some ns
 | []=>rfl
 | n :: ns=>by rw [List.map_cons,Nr,Z4 ns]; rfl
end
noncomputable def frzS:DE->Nat->DE
 | [],_=>[]
 | x :: r,0=>x.map (fun r=>dv r.d) :: r
 | x :: r,i + 1=>x :: frzS r i
theorem Xu:∀ (ρ:DE) (i j:Nat),(frzS ρ i)[j]?=if j=i then ρ[j]?.map (fun x=>x.map fun r=>dv r.d) else ρ[j]?
 | [],i,j=>by simp [frzS]
 | x :: r,0,0=>rfl
 | x :: r,0,j + 1=>by simp [frzS]
 | x :: r,i + 1,0=>by simp [frzS]
 | x :: r,i + 1,j + 1=>by
  have:=Xu r i j
  simp only [frzS,List.getElem?_cons_succ,this]
  by_cases h:j=i
  ·simp [h]
  ·rw [if_neg h,if_neg (by omega)]
theorem Xs:∀ (ρ:DE) (i:Nat),(frzS ρ i).length=ρ.length
 | [],_=>rfl
 | _ :: _,0=>rfl
 | x :: r,i + 1=>by simp [frzS,Xs r i]
theorem REnv.frz1 {K:W.Frag} {H₀ H:Hp} {σ:St} {ρ:DE} {o:List (Nat × Addr)} (R:REnv K H₀ H σ ρ o) (i:Nat):∃ o',REnv K H₀ H σ (frzS ρ i) o' /\ ∀ p ∈ o',p ∈ o:=by
 refine ⟨o.filter fun p=>decide (p.1 ≠ i),?_,fun p hp=>(List.mem_filter.mp hp).1⟩
 have sub:∀ p ∈ o.filter (fun p=>decide (p.1 ≠ i)),p ∈ o:=fun p hp=>(List.mem_filter.mp hp).1
 have subA:∀ a ∈ (o.filter (fun p=>decide (p.1 ≠ i))).map Prod.snd,a ∈ o.map Prod.snd:=fun a ha=>by
  obtain ⟨p,hp,e⟩:=List.mem_map.mp ha
  exact List.mem_map.mpr ⟨p,sub p hp,e⟩
 exact {
  same:=R.same
  fresh:=fun p hp=>R.fresh p (sub p hp)
  trk:=fun p hp=>R.trk p (sub p hp)
  mtb:=fun p hp=>R.mtb p (sub p hp)
  nda:=List.Nodup.sublist (List.Sublist.map _ List.filter_sublist) R.nda
  len:=by rw [Xs]; exact R.len
  slots:=fun j r e=>by
   rw [Xu] at e
   by_cases hj:j=i
   ·rw [if_pos hj] at e
    cases e1:ρ[j]? with
    | none=>rw [e1] at e; cases e
    | some x =>
     rw [e1] at e
     cases x with
     | none=>cases e
     | some r' =>
      have e':some (dv r'.d)=some r:=Option.some.inj e
      cases e'
      obtain ⟨v,ev,q⟩:=R.slots j r' e1
      refine ⟨v,ev,.inl ⟨rfl,?_⟩⟩
      rcases q with ⟨_,q⟩ | ⟨_,a,rfl,m,c⟩
      ·exact Rep.sub subA _ _ q
      ·refine (c.sub subA).rep fun z=>?_
       obtain ⟨p,hp,ep⟩:=List.mem_map.mp z
       have:=Yk R.nda (sub p hp) m ep
       have hne:=of_decide_eq_true (List.mem_filter.mp hp).2
       rw [this] at hne
       exact hne hj
   ·rw [if_neg hj] at e
    obtain ⟨v,ev,q⟩:=R.slots j r e
    refine ⟨v,ev,?_⟩
    rcases q with ⟨k,q⟩ | ⟨k,a,e1,m,c⟩
    ·exact .inl ⟨k,Rep.sub subA _ _ q⟩
    ·exact .inr ⟨k,a,e1,List.mem_filter.mpr ⟨m,decide_eq_true hj⟩,c.sub subA⟩ }
noncomputable def sFrz (i:Nat) (t:TDS):TDS:=fun ρ Z=>t (frzS ρ i) Z
theorem X6 (i:Nat) {X:Cx} {st:Stmt} {t:TDS} (h:SD Γ X st t):SD Γ X st (sFrz i t):=fun H₀=>impS (h H₀) fun D σ H h=>by
 obtain ⟨ρ,o,R,Z,hZ,k1,k2,k3,k4⟩:=h
 obtain ⟨o',R',sub⟩:=R.frz1 i
 have g:Grow (o.map Prod.snd) (o'.map Prod.snd) H H:=⟨fun b u h n=>⟨h,fun z=>n (by
  obtain ⟨p,hp,e⟩:=List.mem_map.mp z
  exact List.mem_map.mpr ⟨p,sub p hp,e⟩)⟩,fun b xs h=>h,fun b ob u h=>h⟩
 exact ⟨_,o',R',Z,hZ,fun ρ2 σ2 H2 o2 g2 R2 q2=>k1 ρ2 σ2 H2 o2 (g.trans g2) R2 q2,fun ρ2 σ2 H2 o2 g2 R2 q2=>k2 ρ2 σ2 H2 o2 (g.trans g2) R2 q2,fun ρ2 σ2 H2 o2 g2 R2 q2=>k3 ρ2 σ2 H2 o2 (g.trans g2) R2 q2,k4⟩
section
variable {X:Cx} {p np pos:Pos} {e:Expr} {te:TD} {c:Str} {T:String}
theorem Ka (hm:X.mg c=none) (hv:bootBuiltins c=some (.type T)) (hg:Gl X c:=by rfl) (hn:c ≠ "__name__":=by decide) (hd:(c == ("__debug__" : Str))=false:=by decide):PE X (.Name c np) (fun σ H Q=>Q (.ty T) H):=fun pn s σ H Q I h=>tz I hg hm hv ⟨.ty T,H,I,rfl,h⟩ hn hd
theorem Tf {K0:W.Frag} (hK:X.K=K0) (hi:X.mg "isinstance" = none) (hc:X.mg c=none) (hv:bootBuiltins c=some (.type T)) (he:ED Γ X e te) (hg:Gl X "isinstance":=by rfl) (hg2:Gl X c:=by rfl) (hn:c ≠ "__name__":=by decide) (hd:(c == ("__debug__" : Str))=false:=by decide)
  (hs:starEach [e,.Name c np] X.env=(false,eval e X.env) :: starEach [.Name c np] X.env:=by rfl) (hpl:(backTo pos (starEach [.Name c np] X.env)).any (·.1)=false:=by rfl):ED Γ X (.Call (.Name "isinstance" p) [e,.Name c np] [] pos) (dIsE K0 (.type T) te):=fun H₀=>by
 subst hK
 exact impE (gh W2 hg hi wb (w8 (he H₀) (w8 (Ka hc hv hg2 hn hd) u9) hs) (by decide) (by decide) hs hpl) (Xn (y:=.ty T) (fun u h=>h) fun σ H Q q=>by
  obtain ⟨ρ,o,R,φ,hφ,kk⟩:=q
  exact ⟨ρ,o,R,φ,hφ,kk⟩)
end
section
variable {X:Cx} {x:Str} {e ke:Expr} {te tk:TD} {np pos pos':Pos}
noncomputable def Zw (i:Nat) (tk te:TD):TDS:=fun ρ Z=>match slot ρ i with
 | some ⟨.own,.lst ds⟩=>te ρ fun r=>tk ρ fun kr=>(match r.k with | .own=>False | _=>True) /\ (match kr.d with
  | .int k=>(match ixN ds.length k with
   | some j=>Z.nx (setS ρ i (dO (.lst (ds.set j r.d))))
   | none=>False)
  | _=>False)
 | _=>False
theorem rm (i:Nat) (hu:X.A.units + 64 < cLine) (hk:ED Γ X ke tk) (he:ED Γ X e te) (hN:X.N[i]?=some x:=by rfl) (hv:Vis X.env.scope x:=by first | exact Or.inl rfl | exact Or.inr (Or.inl rfl) | exact Or.inr (Or.inr rfl)) (hd:(x == ("__debug__" : Str))=false:=by decide)
  (hcd:(x == ("__classdict__" : Str))=false:=by decide) (hs:swapsWithSole [.Subscript (.Name x np) ke pos'] e pos.line X.env=pure false:=by rfl) (hw:swappedStores [.Subscript (.Name x np) ke pos'] e X.env=pure none:=by rfl)
  (h1:(assignEach [.Subscript (.Name x np) ke pos'] X.env).map (·.2)=[assign (.Subscript (.Name x np) ke pos') X.env]:=by rfl)
  (ha:∀ v,assign (.Subscript (.Name x np) ke pos') X.env v=(do
   let ov <- holding [v] (eval (.Name x np) X.env)
   let iv <- holding [v,ov] (eval ke X.env)
   standAt pos'
   holding [v,ov,iv] (setItem ov iv v)
   release [v,ov,iv] []):=by intro _; rfl):SD Γ X (.Assign [.Subscript (.Name x np) ke pos'] e pos) (Zw i tk te):=fun H₀ =>
 impS (Xe (he H₀) (Pf (vf hN hv hd hcd) (hk H₀) X5 ha) hs hw h1) fun D σ H h=>by
  obtain ⟨ρ,o,R,Z,hZ,k1,k2,k3,k4⟩:=h
  unfold Zw at hZ
  split at hZ
  ·rename_i ds es
   obtain ⟨v0,ev0,q0⟩:=R.slots i _ (yw es)
   rcases q0 with ⟨k,_⟩ | ⟨_,a,rfl,m,c⟩
   ·cases k
   obtain ⟨xs,hx,rx⟩:=c
   refine ⟨ρ,o,R,_,hZ,fun v r H1 s1 rv h1=>⟨.ref a,ev0,ρ,o,R.to s1,_,h1,fun v2 r2 H2 s2 rv2 h2=>?_⟩⟩
   obtain ⟨h0,h2⟩:=h2
   have vw:=rv2.view
   split at h2
   ·rename_i k ek
    rw [ek] at vw
    cases (show v2=_ from vw)
    split at h2
    ·rename_i j ej
     have s12:=s1.trans s2
     have hx2:=s12 _ _ hx
     have rx2:=Reps.grow (Grow.same s12) _ _ rx
     refine ⟨a,xs,k,j,rfl,rfl,hx2,by rw [rx.length]; exact ej,?_⟩
     obtain ⟨R3,g3⟩:=(R.to s12).chg (d':=.lst (ds.set j r.d)) (ho:=.lst (xs.set j v)) (yw es) ev0 m ⟨fun _ z=>(by cases z),fun _ _ z=>(by cases z)⟩ fun gr =>
      ⟨xs.set j v,zi,gr _ _ (rx2.set j ((rv.same s2).solid (v3 h0)))⟩
     exact k1 _ σ _ o ((Grow.same s12).trans g3) R3 h2
    ·exact h2.elim
   ·exact h2.elim
  ·exact hZ.elim
end
noncomputable def blsD:List D->Option (List Bool)
 | []=>some []
 | .bl b :: r=>(blsD r).map (b :: ·)
 | _ :: _=>none
theorem Tv:∀ {ds:List D} {bs:List Bool},blsD ds=some bs->ds=bs.map D.bl
 | [],bs,h=>by cases h; rfl
 | d :: r,bs,h=>by
  cases d with
  | bl n =>
   cases e:blsD r with
   | none=>unfold blsD at h; rw [e] at h; cases h
   | some ms =>
    unfold blsD at h
    rw [e] at h
    cases h
    rw [Tv e]
    rfl
  | _=>cases h
theorem c4:∀ (bs:List Bool),blsD (bs.map D.bl)=some bs
 | []=>rfl
 | b :: bs=>by rw [List.map_cons,blsD,c4 bs]; rfl
theorem X9 {K:W.Frag} {H:Hp} {O:List Addr}:∀ {bs:List Bool} {xs:List V},Reps K H O (bs.map D.bl) xs->xs=bs.map V.bl
 | [],_,h=>h
 | n :: bs,xs,h=>by
  obtain ⟨v,r,rfl,q,t⟩:=h
  rw [X9 t]
  cases (show v=_ from q)
  rfl
section
variable {X:Cx} {e:Expr} {es:List Expr} {t:TDs} {p pos:Pos}
noncomputable def cr (g:List Bool->Bool):FT:=fun ds φ=>match ds with
 | [.lst l]=>match blsD l with
  | some bs=>φ (dv (.bl (g bs)))
  | none=>False
 | _=>False
theorem Xm {f:List V->Bool} {g:List Bool->Bool} (hf:∀ bs:List Bool,f (bs.map V.bl)=g bs):S7 X.K (rAll X.K f) (cr g):=by
 intro H O ds vs φ Q ho hv h k
 unfold cr at h
 split at h
 ·rename_i l
  split at h
  ·rename_i bs en
   obtain ⟨v,ws,rfl,⟨a,xs,rfl,q,r⟩,rfl⟩:=hv
   have el:=Tv en
   subst el
   have:=X9 r
   subst this
   refine ⟨a,_,rfl,.inl (SqL.of q),fun y hy=>?_,?_⟩
   ·obtain ⟨b,_,rfl⟩:=List.mem_map.mp hy
    rfl
   ·rw [hf]
    exact k _ _ H (Same.refl H) (by exact rfl) h
  ·exact h.elim
 ·exact h.elim
theorem Th (hm:X.mg "all" = none) (ha:EA Γ X (e :: es) t) (hc:X.calm=true:=by rfl) (hg:Gl X "all":=by rfl) (he:starEach (e :: es) X.env=(false,eval e X.env) :: starEach es X.env:=by rfl) (hpl:(backTo pos (starEach es X.env)).any (·.1)=false:=by rfl):ED Γ X (.Call (.Name "all" p) (e :: es) [] pos) (dCB (cr fun bs=>bs.all id) t) :=
 rk (Zj hc) (Xm fun bs=>by
  induction bs with
  | nil=>rfl
  | cons b bs ih=>rw [List.map_cons,List.all_cons,List.all_cons,ih]; cases b <;> rfl) hm (by kernel_rfl) ha hg (by decide) (by decide) he hpl
theorem M6 (hm:X.mg "any" = none) (ha:EA Γ X (e :: es) t) (hc:X.calm=true:=by rfl) (hg:Gl X "any":=by rfl) (he:starEach (e :: es) X.env=(false,eval e X.env) :: starEach es X.env:=by rfl) (hpl:(backTo pos (starEach es X.env)).any (·.1)=false:=by rfl):ED Γ X (.Call (.Name "any" p) (e :: es) [] pos) (dCB (cr fun bs=>bs.any id) t) :=
 rk (Zi hc) (Xm fun bs=>by
  induction bs with
  | nil=>rfl
  | cons b bs ih=>rw [List.map_cons,List.any_cons,List.any_cons,ih]; cases b <;> rfl) hm (by kernel_rfl) ha hg (by decide) (by decide) he hpl
end
end DL
namespace HT
open PySem PyProof.Rows
section
variable {prog:Program} {w:World} {A:Around} {E:Value->Shared->Prop} {s:Shared}
theorem getItem_tuple_whole {t sl:Addr} {items:Array Value} {vl vu:Value} {lo hi:Option Int} {Q:Value->Shared->Prop} (ht:IsTup s.heap t items) (hs:s.heap.IsSliceOf sl vl vu .none) (pl:IsPart vl lo) (pu:IsPart vu hi)
  (hw:sIx items.size 0 lo=0 /\ sIx items.size items.size hi=items.size)
  (h:∀ tk,Q (.ref t) { s with toks:=tk }):wpAny (model prog w) A (getItem (.ref t) (.ref sl)) Q E s:=by
 obtain ⟨os,hos,hcs,hds⟩:=id hs
 have hTs:s.TypeIs (.ref sl) "slice":=⟨os,hos,hcs⟩
 unfold getItem
 try with_reducible refine wpAny_holding ?_
 first | refine wpAny_bind (wpAny_pure ?_) | skip
 refine wpAny_bind (wpAny_sequenceKey ht.typeIs (by decide) ?_)
 refine wpAny_bind (wpAny_callSpecial?_slot (name:=Str.ofString "__getitem__") ht.typeIs PyProof.Rows.slot_tuple_getitem
  (wpAny_call_entry PyProof.Rows.slot_tuple_getitem ht.typeIs entry_tuple_getitem ?_ (args_tuple_getitem _ _)))
 show wpAny _ _ (Builtin.Tuple.tupleItemsOf (.ref t) >>= _) _ _ s
 refine wpAny_bind (tupleItemsOf_ ht ?_)
 refine wpAny_bind (wpAny_typeOf hTs ?_)
 rw [if_pos (by decide)]
 refine wpAny_bind (ve hs pl pu ?_)
 have hyes:((((sIx items.size 0 lo:Nat):Int) == 0 && (1:Int) == 1 && (sIx items.size items.size hi - sIx items.size 0 lo) == items.size)=true):=by
  rw [hw.1,hw.2]
  simp
 show wpAny _ _ (if (((sIx items.size 0 lo:Nat):Int) == 0 && (1:Int) == 1 && (sIx items.size items.size hi - sIx items.size 0 lo) == items.size)=true then _ else _) _ _ s
 rw [if_pos hyes]
 refine wpAny_bind (m:=Builtin.Tuple.tupleIsExact _) (wpAny_bind (wpAny_typeOf ht.typeIs (wpAny_pure ?_)))
 rw [if_pos (by decide)]
 exact wpAny_bind (wpAny_rule (wpAny_pure ⟨_,rfl,wpAny_pure (h s.toks)⟩))
theorem cat_tup0 {t b:Addr} {ws:List Value} {Q:Value->Shared->Prop} (ht:IsTup s.heap t #[]) (hb:IsTup s.heap b ws.toArray)
  (h1:Q (.ref b) s):wpAny (model prog w) A (binaryOp .Add (.ref t) (.ref b)) Q E s:=by
 obtain ⟨⟨cls,dd,data,sl⟩,ho,hc,n,hd⟩:=id ht
 obtain ⟨⟨cls2,dd2,data2,sl2⟩,ho2,hc2,n2,hd2⟩:=id hb
 simp only at hc hd hc2 hd2
 subst hc hd hc2 hd2
 exact concat_meets ⟨_,ho,rfl⟩ ⟨_,ho2,rfl⟩ noFill_tuple_add seq_tuple_add PySem.F.slot_tuple_add PySem.F.entry_tuple_add (PySem.F.args_tuple_add_2 _ _)
   (tuple_addW0 t b #[] ws.toArray n n2 dd dd2 sl sl2 (by simp)) ⟨ho,ho2,h1⟩
end
end HT
namespace L2
open PySem PySem.Spec PyProof.Rows
section
variable {X:Cx}
noncomputable def rSlW (K:W.Frag):V->Option Int->Option Int->Hp->VK->Prop:=fun x lo hi H Q=>∃ a xs,x=.ref a /\ SqT K H a xs /\
 (HT.sIx xs.length 0 lo=0 /\ HT.sIx xs.length xs.length hi=xs.length) /\ Q (.ref a) H
theorem O6:SlR X (rSlW X.K):=by
 intro pn s σ H x v vl vu lo hi sl Q I rx hs pl pu h
 obtain ⟨a,xs,rfl,hx,hw,q⟩:=h
 cases rx
 obtain ⟨its,r,ht,hz⟩:=I.tuple hx
 have hlen:its.toArray.size=xs.length:=by rw [List.size_toArray]; exact r.length.symm
 refine ⟨"tuple", _,PyProof.Rows.slot_tuple_getitem.lookup,ht.typeIs,?_⟩
 exact HT.getItem_tuple_whole ht hs pl pu (by rw [hlen]; exact hw) fun tk=>⟨.ref a,H,I.tok tk,rfl,q⟩
noncomputable def Lq (K:W.Frag):R2:=fun x y H Q=>∃ a b ys,x=.ref a /\ y=.ref b /\ SqT K H a [] /\ SqT K H b ys /\ Q (.ref b) H
theorem Rk:OpR X (binaryOp .Add) (Lq X.K):=by
 intro pn s σ H x y v u Q I rx ry h
 obtain ⟨a,b,ys,rfl,rfl,ha,hb,q⟩:=h
 cases rx
 cases ry
 obtain ⟨its,r1,p1,_⟩:=I.tuple ha
 obtain ⟨its2,r2,p2,_⟩:=I.tuple hb
 cases r1
 exact HT.cat_tup0 p1 p2 ⟨.ref b,H,I,rfl,q⟩
theorem N2:OpR X (compareOp .IsNot) (fun x y H Q=>∃ c d,x=.bl c /\ y=.bl d /\ Q (.bl (c != d)) H):=by
 intro pn s σ H x y v u Q I rx ry h
 obtain ⟨c,d,rfl,rfl,q⟩:=h
 cases rx
 cases ry
 exact isnot_bool (Pl I q rfl)
end
end L2
namespace DL
open PySem PySem.Spec L2 L3
open PyProof.Rows hiding St
variable {Γ:Hp->Prop}
theorem RV.anew {K:W.Frag} {H0 H:Hp} {O:List Addr} {r:EV} {v:V} (h:RV K H0 H O r v) (p:xf r):RepN K H (fun a=>a ∉ O /\ H0 a=none) r.d v:=by
 obtain ⟨k,d⟩:=r
 cases k with
 | val=>exact Rep.toN _ _ p h
 | own=>exact p.elim
 | new=>exact h
 | fre =>
  obtain ⟨a,rfl,m,n,c⟩:=h
  cases d with
  | lst ds=>obtain ⟨xs,q,r⟩:=c; exact ⟨a,xs,rfl,q,⟨n,m⟩,Reps.toN _ _ p r⟩
  | dk ks ds=>obtain ⟨xs,q,l,nd,r⟩:=c; exact ⟨a,xs,rfl,q,⟨n,m⟩,l,nd,Reps.toN _ _ p r⟩
  | dt ks ds=>obtain ⟨xs,q,l,nd,r⟩:=c; exact ⟨a,xs,rfl,q,⟨n,m⟩,l,nd,Reps.toN _ _ p r⟩
  | _=>exact c.elim
noncomputable def g6:List EV->Prop
 | []=>True
 | r :: rs=>xf r /\ g6 rs
theorem RVs.anew {K:W.Frag} {H0 H:Hp} {O:List Addr}:∀ {rs:List EV} {vs:List V},RVs K H0 H O rs vs->g6 rs->yn K H (fun a=>a ∉ O /\ H0 a=none) (rs.map EV.d) vs
 | [],_,h,_=>h
 | r :: rs,vs,h,p=>by
  obtain ⟨v,ws,e,h1,t⟩:=h
  exact ⟨v,ws,e,h1.anew p.1,RVs.anew t p.2⟩
theorem RVs.get {K:W.Frag} {H0 H:Hp} {O:List Addr}:∀ {rs:List EV} {vs:List V} {i:Nat} {r:EV},RVs K H0 H O rs vs->rs[i]?=some r->∃ v,vs[i]?=some v /\ RV K H0 H O r v
 | [],_,_,_,_,e=>by simp at e
 | r :: rs,vs,0,r',h,e=>by
  obtain ⟨v,ws,rfl,q,_⟩:=h
  simp at e
  subst e
  exact ⟨v,rfl,q⟩
 | r :: rs,vs,i + 1,r',h,e=>by
  obtain ⟨v,ws,rfl,_,t⟩:=h
  obtain ⟨v',e',q'⟩:=RVs.get (i:=i) t (by simpa using e)
  exact ⟨v',by simpa using e',q'⟩
theorem Tw {K:W.Frag} {H0 H:Hp} {O:List Addr} {rs:List EV} {vs:List V} {i:Int} {r:EV} (h:RVs K H0 H O rs vs) (e:atI rs i=some r):∃ v,atI vs i=some v /\ RV K H0 H O r v:=by
 unfold atI at e ⊢
 rw [h.length]
 cases e':ixN rs.length i with
 | none=>rw [e'] at e; cases e
 | some j =>
  rw [e'] at e
  exact h.get e
section
variable {X:Cx} {a b e ix:Expr} {es:List Expr} {t:TDs} {ta tb te tk:TD} {pos:Pos}
noncomputable def Hn (t:TDs):TD:=fun ρ φ=>t ρ fun rs=>g6 rs /\ Nat.ble rs.length 1000=true /\ φ ⟨.new,.tup (rs.map EV.d)⟩
theorem wq {x1} (h:EA Γ X es t):ED Γ X (.Tuple es x1 pos) (Hn t):=fun H₀=>impE (Xg (h H₀)) fun σ H Q q=>by
 obtain ⟨ρ,o,R,φ,hφ,k⟩:=q
 refine ⟨ρ,o,R,_,hφ,fun vs rs H1 s1 rvs h1=>⟨by rw [rvs.length]; exact uz h1.2.1,fun p hp=>?_⟩⟩
 refine k _ ⟨.new,.tup (rs.map EV.d)⟩ _ (s1.trans (zp hp _)) ⟨p,vs,rfl,⟨SqT.of zi,zi⟩,yn.to (zp hp _) (fun _ z=>z) _ _ (rvs.anew h1.1)⟩ h1.2.2
noncomputable def Mb (ta tb:TD):TD:=fun ρ φ=>ta ρ fun x=>tb ρ fun y=>match x.d,y.d with
 | .tup p,.tup q=>xf x /\ xf y /\ p.length + q.length <= sizeLine /\ φ ⟨.new,.tup (p ++ q)⟩
 | _,_=>False
theorem Ti (ha:ED Γ X a ta) (hb:ED Γ X b tb):ED Γ X (.BinOp a .Add b pos) (Mb ta tb):=fun H₀=>impE (Kc (U0.or Rk) (ha H₀) (hb H₀)) fun σ H Q q=>by
 obtain ⟨ρ,o,R,φ,hφ,k⟩:=q
 refine ⟨ρ,o,R,_,hφ,fun v1 r1 H1 s1 rv1 h1=>⟨ρ,o,R.to s1,_,h1,fun v2 r2 H2 s2 rv2 h2=>?_⟩⟩
 have n1:=fun p=>(rv1.same s2).anew p
 have n2:=fun p=>(rv2.start s1).anew p
 obtain ⟨k1,d1⟩:=r1
 obtain ⟨k2,d2⟩:=r2
 cases d1 with
 | tup p =>
  cases d2 with
  | tup q =>
   obtain ⟨p1,p2,hl,hn⟩:=h2
   obtain ⟨a1,xs,rfl,q1,r1⟩:=n1 p1
   obtain ⟨a2,ys,rfl,q2,r2⟩:=n2 p2
   have l1:=r1.length
   have l2:=r2.length
   cases p with
   | nil =>
    have e:xs=[]:=List.eq_nil_of_length_eq_zero l1
    subst e
    exact .inr ⟨a1,a2,ys,rfl,rfl,q1.1,q2.1,k _ ⟨.new,.tup q⟩ H2 (s1.trans s2) ⟨a2,ys,rfl,q2,r2⟩ hn⟩
   | cons d p =>
    refine .inl ⟨a1,a2,xs,ys,rfl,rfl,q1.1,q2.1,(fun z=>by subst z; cases l1),by rw [l1,l2]; exact hl,fun z=>?_,fun z p' hp=>?_⟩
    ·subst z
     have e:q=[]:=List.eq_nil_of_length_eq_zero l2.symm
     subst e
     rw [List.append_nil] at hn
     exact k _ ⟨.new,.tup (d :: p)⟩ H2 (s1.trans s2) ⟨a1,xs,rfl,q1,r1⟩ hn
    ·exact k _ ⟨.new,.tup (d :: p ++ q)⟩ _ ((s1.trans s2).trans (zp hp _)) ⟨p',xs ++ ys,rfl,⟨SqT.of zi,zi⟩,yn.to (zp hp _) (fun _ z=>z) _ _ (r1.append r2)⟩ hn
  | _=>exact h2.elim
 | _=>exact h2.elim
noncomputable def dSlT (te:TD) (tl th:TDo):TD:=fun ρ φ=>te ρ fun x=>tl ρ fun l=>th ρ fun u=>match x.d with
 | .tup ds=>φ (dv (.tup (cutD ds l u)))
 | _=>False
theorem Wz {ds:List D} {l u:Option Int} (h:HT.sIx ds.length 0 l=0 /\ HT.sIx ds.length ds.length u=ds.length):cutD ds l u=ds:=by
 unfold cutD
 rw [h.1,h.2]
 simp
theorem Zd {lo hi:Option Expr} {tl th:TDo} {p2:Pos} (he:ED Γ X e te) (hl:EO Γ X lo tl) (hu:EO Γ X hi th):ED Γ X (.Subscript e (.Slice lo hi none p2) pos) (dSlT te tl th):=fun H₀ =>
 impE (gf (O6.or P5) (he H₀) (hl H₀) (hu H₀)) fun σ H Q q=>by
  obtain ⟨ρ,o,R,φ,hφ,k⟩:=q
  refine ⟨ρ,o,R,_,hφ,fun v r H1 s1 rv h1=>⟨ρ,o,R.to s1,_,h1,fun l H2 s2 h2=>⟨ρ,o,R.to (s1.trans s2),_,h2,fun u H3 s3 h3=>?_⟩⟩⟩
  have s12:=s1.trans s2
  have s13:=s12.trans s3
  have vw:=(rv.same (s2.trans s3)).view
  obtain ⟨kd,d⟩:=r
  cases d with
  | tup ds =>
   obtain ⟨a,xs,rfl,q,r⟩:=vw
   by_cases hw:HT.sIx ds.length 0 l=0 /\ HT.sIx ds.length ds.length u=ds.length
   ·refine .inl ⟨a,xs,rfl,q.1,by rw [r.length]; exact hw,?_⟩
    have h3':φ (dv (.tup ds)):=by
     have:=h3
     simp only [Wz hw] at this
     exact this
    exact k _ (dv (.tup ds)) _ s13 ⟨a,xs,rfl,q,r⟩ h3'
   ·refine .inr ⟨a,xs,rfl,q.1,by rw [r.length]; exact hw,fun p hp=>?_⟩
    exact k _ _ _ (s13.trans (zp hp _)) (RV.start (cu hp (rb r l u)) s13) h3
  | _=>exact h3.elim
noncomputable def Ma (t:TDs) (tk:TD):TD:=fun ρ φ=>t ρ fun rs=>Nat.ble rs.length 1000=true /\ tk ρ fun kr=>match kr.d with
 | .int k=>match atI rs k with
  | some r=>φ r
  | none=>False
 | _=>False
theorem t8 {lp:Pos} (h:EA Γ X es t) (hk:ED Γ X ix tk) (hs:c7 ix:=by intro _ _; rfl):ED Γ X (.Subscript (.List es lp) ix pos) (Ma t tk):=fun H₀=>impE (Ov Uq (Xi (h H₀)) (hk H₀) hs) fun σ H Q q=>by
 obtain ⟨ρ,o,R,φ,hφ,k⟩:=q
 refine ⟨ρ,o,R,_,hφ,fun vs rs H1 s1 rvs h1=>⟨by rw [rvs.length]; exact uz h1.1,fun p hp=>?_⟩⟩
 have s2:=zp hp (.lst vs)
 refine ⟨ρ,o,R.to (s1.trans s2),_,h1.2,fun v r H3 s3 rv h3=>?_⟩
 have vw:=rv.view
 split at h3
 ·rename_i n en
  rw [en] at vw
  cases (show v=_ from vw)
  split at h3
  ·rename_i r' er
   obtain ⟨v',ev,rv'⟩:=Tw rvs er
   exact .inl ⟨p,vs,n,v',rfl,rfl,SqL.of (s3 _ _ zi),ev,k v' r' H3 (s1.trans (s2.trans s3)) (rv'.same (s2.trans s3)) h3⟩
  ·exact h3.elim
 ·exact h3.elim
noncomputable def sLP (i:Nat) (t:TDs) (tk:TD):TDS:=fun ρ Z=>t ρ fun rs=>wr rs=true /\ Nat.ble rs.length 1000=true /\ slot (setS ρ i (dO (.lst (rs.map EV.d)))) i=some (dO (.lst (rs.map EV.d))) /\ tk (setS ρ i (dO (.lst (rs.map EV.d)))) fun kr=>match kr.d with
 | .int k=>match atI rs k with
  | some r=>Z.rt r.ret
  | none=>False
 | _=>False
theorem Wb (i:Nat) {x:Str} {lp np pos' pos2 pos3:Pos} (hN:X.N.Nodup) (h:EA Γ X es t) (hk:ED Γ X ix tk) (hi:X.N[i]?=some x:=by rfl) (hx:Loc X.env.scope x:=by first | exact Or.inl rfl | exact Or.inr rfl) (hs:swapsWith (.List es lp) (some (.Name x pos')) pos.line X.env=pure false:=by rfl)
  (hf:X.fn x=true \/ X.env.scope.names.lookup x=some .local:=by first | exact .inl rfl | exact .inr rfl | assumption) (hv:Vis X.env.scope x:=by first | exact Or.inl rfl | exact Or.inr (Or.inl rfl) | exact Or.inr (Or.inr rfl)) (hd:(x == ("__debug__" : Str))=false:=by decide)
  (hcd:(x == ("__classdict__" : Str))=false:=by decide) (hsx:c7 ix:=by intro _ _; rfl):SDs Γ X [.Assign [.Name x pos'] (.List es lp) pos,.Return (some (.Subscript (.Name x np) ix pos2)) pos3] (sLP i t tk):=fun H₀ =>
 fq (wt (qf hN hi hx (Xi (h H₀)) hs hf) (qc (cz (Ov Uq (vf hi hv hd hcd) (hk H₀) hsx)))) fun D σ H q=>by
  obtain ⟨ρ,o,R,Z,hZ,k1,k2,k3,k4⟩:=q
  refine ⟨ρ,o,R,_,hZ,fun vs rs H1 s1 rvs h1=>⟨by rw [rvs.length]; exact uz h1.2.1,fun p hp=>?_⟩⟩
  obtain ⟨hso,hle,hsl,h2⟩:=h1
  have s2:=zp hp (.lst vs)
  have rvl:RV X.K H (upd H1 p (.lst vs)) (o.map Prod.snd) (df (.lst (rs.map EV.d))) (.ref p):=RV.start (tw (fun a e=>R.ofree (s1.free e)) hp (rvs.reps (wy hso))) s1
  obtain ⟨o',R',g⟩:=R.put (s1.trans s2) i rvl (fun z=>nomatch z)
  obtain ⟨v0,ev0,q0⟩:=R'.slots i _ (yw hsl)
  have ep:v0=.ref p:=by
   have hl:i < σ.length:=by
    have:=(List.getElem?_eq_some_iff.mp ev0).1
    simpa using this
   rw [List.getElem?_set_self hl] at ev0
   cases ev0
   rfl
  subst ep
  refine ⟨.ref p,ev0,_,o',R',_,h2,fun v r H3 s3 rv h3=>?_⟩
  have vw:=rv.view
  split at h3
  ·rename_i n en
   rw [en] at vw
   cases (show v=_ from vw)
   split at h3
   ·rename_i r' er
    obtain ⟨v',ev,rv'⟩:=Tw rvs er
    exact .inl ⟨p,vs,n,v',rfl,rfl,SqL.of (s3 _ _ zi),ev,k4 v' r'.ret H3 (R'.same.trans s3) (RV.ret R (rv'.same (s2.trans s3))) h3⟩
   ·exact h3.elim
  ·exact h3.elim
noncomputable def popD (ds:List D):Option (List D × D):=match ds.getLast? with
 | some d=>some (ds.dropLast,d)
 | none=>none
theorem Xf (ds:List D) (d:D):popD (ds ++ [d])=some (ds,d):=by
 unfold popD
 simp
theorem On {ds ds':List D} {d:D} (h:popD ds=some (ds',d)):ds=ds' ++ [d]:=by
 unfold popD at h
 split at h
 ·rename_i x e
  cases h
  obtain ⟨y,hy⟩:=List.getLast?_eq_some_iff.mp e
  rw [hy]
  simp
 ·cases h
theorem X8 {K:W.Frag} {H:Hp} {O:List Addr} {ds ds':List D} {d:D} {xs:List V} (r:Reps K H O ds xs) (h:popD ds=some (ds',d)):∃ y,xs[xs.length - 1]?=some y /\ Rep K H O d y /\ Reps K H O ds' xs.dropLast:=by
 have e:=On h
 subst e
 have l:=r.length
 rw [zLa] at l
 obtain ⟨y,ey,hy⟩:=r.get (i:=ds'.length) (d:=d) (by simp)
 refine ⟨y,by rw [l]; simpa using ey,hy,?_⟩
 have:=r.dropLast
 simpa using this
noncomputable def sPop (i j:Nat):TDS:=fun ρ Z=>match slot ρ i with
 | some ⟨.own,.lst ds⟩=>match popD ds with
  | some (ds',d)=>Z.nx (setS (setS ρ i (dO (.lst ds'))) j (dv d))
  | none=>False
 | _=>False
theorem Lh (i j:Nat) {x y:Str} {np apos cpos pos':Pos} (hN:X.N.Nodup) (hi:X.N[i]?=some x:=by rfl) (hj:X.N[j]?=some y:=by rfl) (hy:Loc X.env.scope y:=by first | exact Or.inl rfl | exact Or.inr rfl) (hv:Vis X.env.scope x:=by first | exact Or.inl rfl | exact Or.inr (Or.inl rfl) | exact Or.inr (Or.inr rfl))
  (hd:(x == ("__debug__" : Str))=false:=by decide) (hcd:(x == ("__classdict__" : Str))=false:=by decide)
  (hp:∀ {ta:TE},X.N.Nodup->PE X (.Name x np) ta->PS X (.Assign [.Name y pos'] (.Call (.Attribute (.Name x np) "pop" apos) [] [] cpos) pos) (tAsg (tBM0 X.K "list" rPop ta) (kz j)):=by
   intro ta hN h1
   exact qf hN rfl (by walk_at "o") (b6 PySem.F.plainAttrs_list PySem.F.slot_list_pop PySem.F.type_list_pop U6 h1)) :
  SD Γ X (.Assign [.Name y pos'] (.Call (.Attribute (.Name x np) "pop" apos) [] [] cpos) pos) (sPop i j):=fun H₀=>impS (hp hN (vf hi hv hd hcd)) fun D σ H h=>by
 obtain ⟨ρ,o,R,Z,hZ,k1,k2,k3,k4⟩:=h
 unfold sPop at hZ
 split at hZ
 ·rename_i ds es
  obtain ⟨v0,ev0,q0⟩:=R.slots i _ (yw es)
  rcases q0 with ⟨k,_⟩ | ⟨_,a,rfl,m,c⟩
  ·cases k
  obtain ⟨xs,hx,rx⟩:=c
  split at hZ
  ·rename_i ds' d ep
   obtain ⟨yv,ey,hyv,rd⟩:=X8 rx ep
   obtain ⟨R2,g2⟩:=R.chg (d':=.lst ds') (ho:=.lst xs.dropLast) (yw es) ev0 m ⟨fun _ z=>(by cases z),fun _ _ z=>(by cases z)⟩ fun gr=>⟨xs.dropLast,zi,gr _ _ rd⟩
   refine ⟨.ref a,ev0,.inl ⟨rfl,xs,SqL.of hx⟩,a,xs,yv,rfl,rfl,hx,ey,?_⟩
   exact k1 _ _ _ o g2 (R2.setV j (Rep.grow g2 _ _ hyv)) hZ
  ·exact hZ.elim
 ·exact hZ.elim
noncomputable def sExt (i:Nat) (t:TDs):TDS:=fun ρ Z=>match slot ρ i with
 | some ⟨.own,.lst ds⟩=>t ρ fun rs=>wr rs=true /\ Nat.ble rs.length 1000=true /\ ds.length <= 100000 /\ Z.nx (setS ρ i (dO (.lst (ds ++ rs.map EV.d))))
 | _=>False
theorem Vh (i:Nat) {x:Str} {np apos cpos lpos:Pos} (h:EA Γ X es t) (hi:X.N[i]?=some x:=by rfl) (hv:Vis X.env.scope x:=by first | exact Or.inl rfl | exact Or.inr (Or.inl rfl) | exact Or.inr (Or.inr rfl))
  (hd:(x == ("__debug__" : Str))=false:=by decide) (hcd:(x == ("__classdict__" : Str))=false:=by decide)
  (hp:∀ {ta:TE} {tc:TA},PE X (.Name x np) ta->PA X es tc->PS X (.Expr (.Call (.Attribute (.Name x np) "extend" apos) [.List es lpos] [] cpos) pos)
    (Wa (tBM X.K "list" Vo ta (So (tLst tc) tNil))):=by
   intro ta tc h1 h3
   exact ue (Ri PySem.F.plainAttrs_list PySem.F.slot_list_extend PySem.F.type_list_extend U7 h1 (w8 (Xi h3) u9))) :
  SD Γ X (.Expr (.Call (.Attribute (.Name x np) "extend" apos) [.List es lpos] [] cpos) pos) (sExt i t):=fun H₀=>impS (hp (vf hi hv hd hcd) (h H₀)) fun D σ H h=>by
 obtain ⟨ρ,o,R,Z,hZ,k1,k2,k3,k4⟩:=h
 unfold sExt at hZ
 split at hZ
 ·rename_i ds es'
  obtain ⟨v0,ev0,q0⟩:=R.slots i _ (yw es')
  rcases q0 with ⟨k,_⟩ | ⟨_,a,rfl,m,c⟩
  ·cases k
  obtain ⟨xs,hx,rx⟩:=c
  refine ⟨.ref a,ev0,.inl ⟨rfl,xs,SqL.of hx⟩,?_⟩
  refine ⟨ρ,o,R,_,hZ,fun vs rs H1 s1 rvs h1=>?_⟩
  obtain ⟨hso,hle,hl,hn⟩:=h1
  have l1:=rvs.length
  have hle':=Nat.le_of_ble_eq_true hle
  refine ⟨by rw [l1]; exact uz hle,fun p hpn=>?_⟩
  have s2:=zp hpn (.lst vs)
  have s12:=s1.trans s2
  have R1:=R.to s12
  have rx1:=Reps.grow (Grow.same s12) _ _ rx
  refine ⟨a,p,xs,vs,rfl,rfl,s12 _ _ hx,zi,?_,?_⟩
  ·rw [rx.length,l1]
   exact Nat.le_trans (Nat.add_le_add hl hle') (by decide)
  ·obtain ⟨R2,g2⟩:=R1.chg (d':=.lst (ds ++ rs.map EV.d)) (ho:=.lst (xs ++ vs)) (yw es') ev0 m ⟨fun _ z=>(by cases z),fun _ _ z=>(by cases z)⟩ fun gr=>⟨xs ++ vs,zi,gr _ _ (rx1.append (Reps.grow (Grow.same s2) _ _ (rvs.reps (wy hso))))⟩
   exact k1 _ σ _ o ((Grow.same s12).trans g2) R2 hn
 ·exact hZ.elim
noncomputable def sIsB:D->D->(EV->Prop)->Prop:=fun x y φ=>match x,y with
 | .bl c,.bl d=>φ (dv (.bl (c == d)))
 | _,_=>False
noncomputable def h7:D->D->(EV->Prop)->Prop:=fun x y φ=>match x,y with
 | .bl c,.bl d=>φ (dv (.bl (c != d)))
 | _,_=>False
theorem Y5 {K:W.Frag}:tm K (fun x y H Q=>∃ c d,x=.bl c /\ y=.bl d /\ Q (.bl (c != d)) H) h7:=by
 intro H O x y vx vy φ Q ho hx hy h k
 unfold h7 at h
 split at h
 ·exact ⟨_,_,hx,hy,k _ _ H (Same.refl H) (by exact rfl) h⟩
 ·exact h.elim
theorem T9 (ha:ED Γ X a ta) (hb:ED Γ X b tb):ET Γ X (.Compare a [.IsNot] [b] pos) (tBo (d2 h7 ta tb)):=um N2 Y5 ha hb (uh _)
end
end DL
namespace DL
open PySem PySem.Spec L2 L3
open PyProof.Rows hiding St
noncomputable def xr:D->Bool
 | .int _=>true
 | _=>false
noncomputable def uf:D->Bool
 | .ty _=>false
 | .cn _=>false
 | .scr _=>false
 | .dz _=>false
 | .exc _=>false
 | .fd _=>false
 | .ob _ _ _=>false
 | _=>true
noncomputable def g1 (g:D->(EV->Prop)->Prop):FT:=fun ds φ=>match ds with
 | [d]=>g d φ
 | _=>False
noncomputable def g2 (g:D->D->(EV->Prop)->Prop):FT:=fun ds φ=>match ds with
 | [d,e]=>g d e φ
 | _=>False
noncomputable def g3 (g:D->D->D->(EV->Prop)->Prop):FT:=fun ds φ=>match ds with
 | [d,e,f]=>g d e f φ
 | _=>False
theorem Hb {g:D->(EV->Prop)->Prop} {ds:List D} {φ:EV->Prop} (h:g1 g ds φ):∃ d,ds=[d] /\ g d φ:=by
 unfold g1 at h
 split at h
 ·exact ⟨_,rfl,h⟩
 ·exact h.elim
theorem Gw {g:D->D->(EV->Prop)->Prop} {ds:List D} {φ:EV->Prop} (h:g2 g ds φ):∃ d e,ds=[d,e] /\ g d e φ:=by
 unfold g2 at h
 split at h
 ·exact ⟨_,_,rfl,h⟩
 ·exact h.elim
noncomputable def uc:FT:=g1 fun d φ=>uf d=true /\ φ (dv (.bl (xr d)))
noncomputable def Su:FT:=fun ds φ=>match ds with
 | [.scr ns,.int k]=>0 <= k /\ φ (dv (.int (ns.getD k.toNat 0)))
 | _=>False
theorem Ss {ds:List D} {φ:EV->Prop} (h:Su ds φ):∃ (ns:List Int) (k:Nat),ds=[.scr ns,.int k] /\ φ (dv (.int (ns.getD k 0))):=by
 unfold Su at h
 split at h
 ·rename_i ns k
  obtain ⟨h0,h⟩:=h
  exact ⟨ns,k.toNat,by rw [Int.toNat_of_nonneg h0],h⟩
 ·exact h.elim
theorem zg {t u:TDS} {ρ:DE} {Z:DZ} (J:DE->Prop) (h1:t ρ { Z with nx:=J }) (h2:∀ ρ2,J ρ2->u ρ2 Z):sSeq (sCut t) u ρ Z:=⟨J,h1,h2⟩
theorem Mq {i:Nat} {ρ:DE} {ds:List D} {φ:Bool->Prop} (e:slot ρ i=some (dO (.lst ds))) (h:φ (!ds.isEmpty)):tTru (tj i) ρ φ:=by
 unfold tTru tj
 rw [e]
 exact h
theorem sv:bootBuiltins "ValueError" = some (.type "ValueError"):=by decide +kernel
theorem vm:W.kitMeta "ValueError" = true:=by decide +kernel
theorem Ui {K:W.Frag} {C:Addr} {T:String} {b:Bool} (hm:W.kitMeta T=true) (h:W.subIn K (.ref C) (.type T)=some b):W.kitOne K (.ref C) (.type T)=some b:=by
 unfold W.kitOne
 rw [if_neg (fun z=>by cases beq_iff_eq.mp z)]
 unfold W.kitCls
 dsimp only
 rw [if_pos hm]
 exact h
end DL
namespace DL
open PySem PySem.Spec L2 L3
open PyProof.Rows hiding St
variable {Γ:Hp->Prop}
noncomputable def Gq (d:D):Prop:=∃ (ks:List Str) (ns:List Int),d=.dk (ks.map Sum.inr) (ns.map D.int)
section
variable {X:Cx} {pn:List (Addr × Obj)} {σ:St} {H:Hp} {s:Shared}
noncomputable def okS (d:D):Prop:=okD 39 d \/ Gq d
end
section
variable {X:Cx} {a b e:Expr} {es:List Expr} {t:TDs} {ta tb te:TD} {p pos:Pos} {tg:Expr}
noncomputable def sClr (i:Nat):TDS:=fun ρ Z=>match slot ρ i with
 | some ⟨.own,.lst ds⟩=>Z.nx (setS ρ i (dO (.lst [])))
 | _=>False
theorem R8 (i:Nat) {x:Str} {np apos cpos:Pos} (hi:X.N[i]?=some x:=by rfl) (hv:Vis X.env.scope x:=by first | exact Or.inl rfl | exact Or.inr (Or.inl rfl) | exact Or.inr (Or.inr rfl))
  (hd:(x == ("__debug__" : Str))=false:=by decide) (hcd:(x == ("__classdict__" : Str))=false:=by decide)
  (hp:∀ {ta:TE},PE X (.Name x np) ta->PS X (.Expr (.Call (.Attribute (.Name x np) "clear" apos) [] [] cpos) pos) (Wa (tBM0 X.K "list" Pa ta)):=by
   intro ta h1
   exact ue (b6 PySem.F.plainAttrs_list PySem.F.slot_list_clear PySem.F.type_list_clear Ro h1)) :
  SD Γ X (.Expr (.Call (.Attribute (.Name x np) "clear" apos) [] [] cpos) pos) (sClr i):=fun H₀=>impS (hp (vf hi hv hd hcd)) fun D σ H h=>by
 obtain ⟨ρ,o,R,Z,hZ,k1,k2,k3,k4⟩:=h
 unfold sClr at hZ
 split at hZ
 ·rename_i ds es
  obtain ⟨v0,ev0,q0⟩:=R.slots i _ (yw es)
  rcases q0 with ⟨k,_⟩ | ⟨_,a,rfl,m,c⟩
  ·cases k
  obtain ⟨xs,hx,rx⟩:=c
  obtain ⟨R2,g2⟩:=R.chg (d':=.lst []) (ho:=.lst []) (yw es) ev0 m ⟨fun _ z=>(by cases z),fun _ _ z=>(by cases z)⟩ fun gr=>⟨[],zi,rfl⟩
  exact ⟨.ref a,ev0,.inl ⟨rfl,xs,SqL.of hx⟩,a,xs,rfl,rfl,hx,k1 _ σ _ o g2 R2 hZ⟩
 ·exact hZ.elim
end
end DL
namespace L2
open PySem PySem.Spec PyProof.Rows
theorem ua:entryFor table "dict.update.loop" = some Builtin.«dict.update.loop»:=entryFor_of_tree (by kernel_rfl)
theorem xp:plainId "dict.update.loop" = true:=by decide +kernel
theorem kj:typeLookup (.type "list") "keys" = pure none:=by rw [typeLookup_type,builtinLookup_eq_fast]; kernel_rfl
section
variable {prog:Program} {w:World} {A:Around} {E:Value->Shared->Prop} {s:Shared}
theorem Uk {a:Addr} {xs:Array Value} {Q:Option Value->Shared->Prop} (hl:PlainL s.heap a xs) (hA:A.handled=none)
  (h:∀ h' tk,(∀ b o,s.heap.get? b=some o->h'.get? b=some o)->Q none { s with heap:=h',toks:=tk }):wpAny (model prog w) A (getAttr? (.ref a) "keys") Q E s:=by
 obtain ⟨o,k,hx,hc,hd,hdat⟩:=hl
 obtain ⟨c,dct,dat,sl⟩:=o
 simp only at hc hdat hd
 subst hc hdat hd
 obtain ⟨hp,g,d,tk,os⟩:=s
 have hT:∀ tk',(⟨hp,g,d,tk',os⟩:Shared).TypeIs (.ref a) "list":=fun _=>⟨_,hx,rfl⟩
 have f1:=sub_AttributeError
 have f3:=F.slot_list_getattribute.lookup
 have f4:=F.slot_list_getattribute.bind (.ref a)
 have f5:=am_list_getattr_none
 unfold getAttr? getAttrBy? getAttrBy
 repeat (any_goals (first | assumption | exact hT _ | ((with_reducible show wpAny _ _ (call (Value.builtin "list.__getattribute__") _ _) _ _ _); refine call_meets F.slot_list_getattribute (hT _) am_entry_list_getattribute (F.args_list_getattribute_2 _ _) (meets_getattribute_miss_list a xs k sl "keys" _ kj (by decide +kernel) (by size_fits)) ⟨hx,hA,fun h' tk' e hx'=>?_⟩) | wp_step))
 obtain ⟨t',u',he⟩:=hx'.there
 show wpAny _ _ (getattributeRaised _ _ _ _ _ _ _) _ _ _
 unfold getattributeRaised
 repeat (any_goals (first | assumption | wp_step))
 exact h _ _ hx'.keeps
end
section
variable {prog:Program} {w:World} {K:Type} [DecidableEq K] {knd:KeyKind prog w K} {A:Around} {s:Shared} {R:Result->Shared->Prop}
noncomputable def W5 (knd:KeyKind prog w K) (h:Heap) (v:Value) (kx:K × Value):Prop:=∃ b o n key,v=.ref b /\ h.get? b=some o /\ o.cls=.type "tuple" /\ o.data=.seq #[key,kx.2] n /\ knd.is kx.1 key=true
theorem ja {kvs:List (K × Value)} {k:K} {x:Value} (h:k ∉ kvs.map (·.1)):stored kvs k x=kvs ++ [(k,x)]:=by
 unfold stored
 rw [if_neg]
 intro z
 rw [List.any_eq_true] at z
 obtain ⟨p,hp,e⟩:=z
 exact h (List.mem_map.mpr ⟨p,hp,by simpa using e⟩)
theorem Sf (hh:A.handled=none) (d it l:Addr) (hdi:d ≠ it) (hdl:d ≠ l) (hli:l ≠ it) (its:List Value) (more:List (K × Value)) (hlen:its.length=more.length) (hnd:(more.map (·.1)).Nodup) (hsz:more.length <= sizeLine) :
  ∀ (k i:Nat) (s:Shared),its.length=i + k->s.heap.IsListIter it l i->s.heap.IsList l its.toArray->s.heap.DictOf knd d (more.take i) ->
  (∀ (j:Nat) v kx,its[j]?=some v->more[j]?=some kx->W5 knd s.heap v kx) ->
  (∀ h' tk,h'.DictOf knd d more->(∀ b o,b ≠ d->b ≠ it->s.heap.get? b=some o->h'.get? b=some o)->R (.ok (.ret .none)) { s with heap:=h',toks:=tk }) ->
  codeAny (model prog w) A (.builtin "dict.update.loop" ⟨[.ref d,.ref it,rawInt (i:Int),.none],[]⟩) R s:=by
 intro k
 induction k with
 | zero =>
  intro i s hk hi hl hd hp hR
  refine codeAny_builtin ua ?_
  rw [Around.under_plainId xp _]
  have W:=Walks.list (prog:=prog) (w:=w) (A:=A.in1) hh it l hli its.toArray
  show wpAny _ A.in1 (pyNext (.ref it) >>= _) _ _ s
  refine wpAny_bind (W.done s _ _ ⟨by simpa [hk] using hi,hl⟩ fun h' tk hk'=>?_)
  show wpAny _ A.in1 (Builtin.Dict.addKeywords d [] >>= _) _ _ _
  refine wpAny_bind (wpAny_pure (wpAny_pure ?_))
  refine hR h' tk ?_ fun b o _ hb e=>hk' b o (by simpa using hb) e
  rw [List.take_of_length_le (by omega)] at hd
  obtain ⟨o,es,ep,ho,r⟩:=hd
  exact ⟨o,es,ep,hk' d o (by simpa using hdi) ho,r⟩
 | succ k ih =>
  intro i s hk hi hl hd hp hR
  refine codeAny_builtin ua ?_
  rw [Around.under_plainId xp _]
  have W:=Walks.list (prog:=prog) (w:=w) (A:=A.in1) hh it l hli its.toArray
  show wpAny _ A.in1 (pyNext (.ref it) >>= _) _ _ s
  refine wpAny_bind (W.item i s _ _ (by simp; omega) ⟨hi,hl⟩ fun v h' tk hv hst' hk'=>?_)
  have hv':its[i]?=some v:=by simpa using hv
  have him:i < more.length:=by omega
  obtain ⟨kx,ekx⟩:∃ kx,more[i]?=some kx:=⟨more[i],List.getElem?_eq_getElem him⟩
  have hd':h'.DictOf knd d (more.take i):=by
   obtain ⟨o,es,ep,ho,r⟩:=hd
   exact ⟨o,es,ep,hk' d o (by simpa using hdi) ho,r⟩
  have hp':∀ (j:Nat) v kx,its[j]?=some v->more[j]?=some kx->W5 knd h' v kx:=fun j v kx h1 h2=>by
   obtain ⟨b,o,n,key,e1,e2,e3,e4,e5⟩:=hp j v kx h1 h2
   refine ⟨b,o,n,key,e1,hk' b o ?_ e2,e3,e4,e5⟩
   intro z
   have:b=it:=by simpa using z
   subst this
   obtain ⟨o',ho',hc',_⟩:=hi
   rw [ho'] at e2
   cases e2
   rw [hc'] at e3
   exact absurd e3 (by decide)
  obtain ⟨b,o,n,key,rfl,hb,hbc,hbd,hkey⟩:=hp' i v kx hv' ekx
  have hT:({ s with heap:=h',toks:=tk }:Shared).TypeIs (.ref b) "tuple":=⟨o,hb,hbc⟩
  refine wpAny_bind (wpAny_holding ?_)
  refine wpAny_bind (wpAny_tryCatch ?_)
  show wpAny _ A.in1 (typeOf (.ref b) >>= _) _ _ _
  refine wpAny_bind (wpAny_typeOf hT ?_)
  show wpAny _ A.in1 (seqItems? (.ref b) >>= _) _ _ _
  refine wpAny_bind (wpAny_seqItems hb hbd (wpAny_pure ?_))
  show wpAny _ A.in1 (holding [key,kx.2] (dictSet d key kx.2)) _ _ _
  have hnew:kx.1 ∉ (more.take i).map (·.1):=by
   have e:more.take (i + 1)=more.take i ++ [kx]:=by rw [List.take_succ,ekx]; rfl
   have h4:((more.take (i + 1)).map (·.1)).Nodup:=hnd.sublist ((List.take_sublist _ _).map _)
   rw [e,zMa,List.nodup_append] at h4
   intro z
   exact h4.2.2 _ z kx.1 (by simp) rfl
  refine wpAny_holding (wpAny_dictSet_pairs (hsz:=by rw [List.length_take]; omega) hkey hd' fun h2 dd hs=>?_)
  rw [ja hnew,show more.take i ++ [(kx.1,kx.2)]=more.take (i + 1) by rw [List.take_succ,ekx]; rfl] at dd
  refine wpAny_pure ⟨plainId_quiet xp _,?_⟩
  have keep:∀ b o,b ≠ d->h'.get? b=some o->h2.get? b=some o:=fun b o hb e=>(hs.2 b hb).trans e
  refine ih (i + 1) _ (by omega) ?_ ?_ dd ?_ fun h3 tk3 d3 k3=>?_
  ·obtain ⟨o',ho',r'⟩:=hst'.1
   exact ⟨o',keep _ _ (Ne.symm hdi) ho',r'⟩
  ·obtain ⟨o',ho',r'⟩:=hst'.2
   exact ⟨o',keep _ _ (Ne.symm hdl) ho',r'⟩
  ·intro j v kx h1 h2'
   obtain ⟨b,o,n,key,e1,e2,e3,e4,e5⟩:=hp' j v kx h1 h2'
   refine ⟨b,o,n,key,e1,keep b o ?_ e2,e3,e4,e5⟩
   intro z
   subst z
   obtain ⟨o',es,ep,ho',hc',hdat,_⟩:=hd'
   rw [ho'] at e2
   cases e2
   rw [hdat] at e4
   cases e4
  ·exact hR h3 tk3 d3 fun b o h1 h2' e=>k3 b o h1 h2' (keep b o h1 (hk' b o (by simpa using h2') e))
theorem kg {E:Value->Shared->Prop} {l:Addr} {its:List Value} {more:List (K × Value)} {Q:Value->Shared->Prop} (hh:A.handled=none) (hl:PlainL s.heap l its.toArray) (hlen:its.length=more.length) (hnd:(more.map (·.1)).Nodup) (hsz:more.length <= sizeLine)
  (hp:∀ (j:Nat) v kx,its[j]?=some v->more[j]?=some kx->W5 knd s.heap v kx)
  (h:∀ h' tk,h'.DictOf knd s.heap.objs.size more->(∀ b o,s.heap.get? b=some o->h'.get? b=some o)->Q (.ref s.heap.objs.size) { s with heap:=h',toks:=tk }) :
  wpAny (model prog w) A (call (.type "dict") [.ref l]) Q E s:=by
 refine callType_codes (Q₁:=fun obj s₁=>obj=.ref s.heap.objs.size /\ s₁={ s with heap:=s.heap.push { cls:=.type "dict", data:=.dict #[] } }) F.kt_called_dict (F.kt_typeCall_dict_1 _) F.entry_dict_init (kt_code_dict_new _ ⟨rfl,rfl⟩) ?_
 rintro obj s₁ ⟨rfl,rfl⟩
 have hnew:(s.heap.push { cls:=.type "dict", data:=.dict #[] }).DictOf knd s.heap.objs.size []:=Heap.DictOf.new s.heap
 have k1:∀ b o,s.heap.get? b=some o->(s.heap.push { cls:=.type "dict", data:=.dict #[] }).get? b=some o:=fun b o e=>Heap.get?_push_of_some _ e
 have hl1:=hl.keeps k1
 have hls:l < s.heap.objs.size:=by obtain ⟨o,n,e,_⟩:=hl; exact Heap.lt_size e
 refine ⟨hnew.typeIs,F.args_dict_init_2 _ _,?_⟩
 unfold Builtin.«dict.__init__»
 refine wpAny_bind ?_
 unfold Builtin.Dict.selfAndRest
 refine wpAny_bind (wpAny_notOrdered_dict hnew.typeIs ?_)
 show wpAny _ _ (pure (s.heap.objs.size,[Value.ref l])) _ _ _
 refine wpAny_pure ?_
 show wpAny _ _ (Builtin.Dict.updateFrom "dict.__init__" s.heap.objs.size (.ref l) [] .none) _ _ _
 unfold Builtin.Dict.updateFrom
 refine wpAny_bind (wpAny_typeOf hl1.isList.typeIs ?_)
 rw [if_pos (by decide)]
 refine wpAny_bind (Uk hl1 hh fun h2 tk2 k2=>?_)
 rw [if_pos (by rfl)]
 refine wpAny_bind (wpAny_rule ?_)
 have hl2:=(hl1.keeps k2).isList
 have hlt:l < h2.objs.size:=by obtain ⟨o,e,_⟩:=hl2; exact Heap.lt_size e
 refine wpAny_bind (wpAny_pyIter_list hl2 ?_)
 have hdlt:s.heap.objs.size < h2.objs.size:=by
  obtain ⟨o,es,ep,ho,_⟩:=hnew
  exact Heap.lt_size (k2 _ _ ho)
 refine wpAny_pure ⟨plainId_quiet xp _,?_⟩
 refine Sf (knd:=knd) (A:=A.in1) hh s.heap.objs.size h2.objs.size l (Nat.ne_of_lt hdlt) (Nat.ne_of_gt hls) (Nat.ne_of_lt hlt) its more hlen hnd hsz its.length 0 _ (by omega) ?_ ?_ ?_ ?_ fun h3 tk3 d3 k3=>?_
 ·exact ⟨_,Heap.get?_push_size _ rfl,rfl,rfl⟩
 ·exact hl2.push _
 ·obtain ⟨o,es,ep,ho,r⟩:=hnew
  exact ⟨o,es,ep,Heap.get?_push_of_some _ (k2 _ _ ho),r⟩
 ·intro j v kx h1 h2'
  obtain ⟨b,o,n,key,e1,e2,e3,e4,e5⟩:=hp j v kx h1 h2'
  exact ⟨b,o,n,key,e1,Heap.get?_push_of_some _ (k2 _ _ (k1 _ _ e2)),e3,e4,e5⟩
 ·refine ⟨rfl,h h3 tk3 d3 fun b o e=>k3 b o ?_ ?_ (Heap.get?_push_of_some _ (k2 _ _ (k1 _ _ e)))⟩
  ·exact Nat.ne_of_lt (Heap.lt_size e)
  ·exact Nat.ne_of_lt (Nat.lt_trans (Heap.lt_size e) hdlt)
end
section
variable {X:Cx}
noncomputable def Tz (K:W.Frag) (H:Hp):List V->List (Key × V)->Prop:=Paired fun p kv=>∃ b,p=V.ref b /\ SqT K H b [kV kv.1,kv.2]
theorem V3 (hc:X.calm=true):u1 X (.type "dict") (fun xs H Q=>∃ a ps kvs,xs=[.ref a] /\ SqL X.K H a ps /\ Tz X.K H ps kvs /\ (kvs.map (·.1)).Nodup /\ ∀ p,H p=none->Q (.ref p) (upd H p (.dK kvs))):=by
 intro pn s σ H xs us Q I r h
 obtain ⟨a,ps,kvs,rfl,ha,hp,hn,q⟩:=h
 obtain ⟨u,rfl,ru⟩:=ci r
 cases ru
 obtain ⟨its,rv,pl,hz⟩:=I.list ha
 have hlen:ps.length=kvs.length:=hp.length
 have hli:=rv.length
 have ex:∃ more:List (Key × Value),KV kvs more /\ ∀ (j:Nat) v kx,its[j]?=some v->more[j]?=some kx->W5 (yd X.prog X.w) s.heap v kx:=by
  clear hn q hz pl hlen hli ha
  induction rv generalizing kvs with
  | nil=>cases hp; exact ⟨[],.nil,fun j v kx e=>by simp at e⟩
  | cons r1 r2 ih =>
   cases hp with
   | cons h t =>
    obtain ⟨more,k1,k2⟩:=ih _ t
    obtain ⟨b,rfl,sq⟩:=h
    cases r1
    obtain ⟨ts,rt,⟨o,e1,e2,n,e3⟩,_⟩:=I.tuple sq
    cases rt with
    | cons t1 rt =>
     cases rt with
     | cons t2 rt =>
      cases rt
      rename_i kk key x
      refine ⟨(_,x) :: more,.cons ⟨rfl,t2⟩ k1,fun j v kx h1 h2=>?_⟩
      cases j with
      | zero =>
       simp at h1 h2
       subst h1 h2
       exact ⟨b,o,n,key,rfl,e1,e2,e3,Q3 t1⟩
      | succ j=>exact k2 j v kx (by simpa using h1) (by simpa using h2)
 obtain ⟨more,k1,k2⟩:=ex
 have hml:kvs.length=more.length:=k1.length
 have hkeys:more.map (·.1)=kvs.map (·.1):=by
  clear hn q hp hlen k2 hml
  induction k1 with
  | nil=>rfl
  | cons h t ih=>rw [List.map_cons,List.map_cons,ih,h.1]
 have hb:=I.big
 refine kg (knd:=yd X.prog X.w) (I.ok.hd hc) pl (by omega) (by rw [hkeys]; exact hn) (by omega) k2 fun h' tk hd keep=>?_
 refine ⟨.ref s.heap.objs.size,_,I.laid (t':=tk) (a:=s.heap.objs.size) (o:=.dK kvs) keep (Nat.le_refl _) ?_,rfl,q _ (I.hok.fresh (Nat.le_refl _))⟩
 exact Pr (by omega) (by simpa using (Nat.ne_of_gt hb)) k1 hd
end
end L2
namespace DL
open PySem PySem.Spec L2 L3
open PyProof.Rows hiding St
variable {Γ:Hp->Prop}
section
variable {X:Cx} {e ke:Expr} {es:List Expr} {t:TDs} {te tk:TD} {p p2 pos pos2:Pos}
noncomputable def kD:Key->D
 | .inl i=>.int i
 | .inr x=>.str x
noncomputable def Vy (ks:List Key) (ds:List D):List D:=(ks.zip ds).map fun q=>.tup [kD q.1,q.2]
noncomputable def sDictP:FT:=fun xs φ=>match xs with
 | [.lst l]=>∃ ks ds,l=Vy ks ds /\ ks.length=ds.length /\ ks.Nodup /\ φ (df (.dk ks ds))
 | _=>False
theorem Ln {K:W.Frag} {H:Hp} {O:List Addr} {k:Key} {v:V} (h:Rep K H O (kD k) v):v=kV k:=by
 cases k with
 | inl i=>exact h
 | inr x=>exact h
theorem jd {K:W.Frag} {H:Hp} {O:List Addr}:∀ (ks:List Key) (ds:List D) (ps:List V),ks.length=ds.length->Reps K H O (Vy ks ds) ps->∃ xs,Tz K H ps (ks.zip xs) /\ Reps K H O ds xs
 | [],[],ps,_,h=>by
  cases (show ps=[] from h)
  exact ⟨[],.nil,rfl⟩
 | [],_ :: _,_,h,_=>by cases h
 | _ :: _,[],_,h,_=>by cases h
 | k :: ks,d :: ds,ps,hl,h=>by
  obtain ⟨v,ws,rfl,⟨a,zs,rfl,sq,r⟩,hr⟩:=h
  obtain ⟨v1,w1,rfl,r1,v2,w2,rfl,r2,rfl⟩:=r
  cases Ln r1
  obtain ⟨xs,h1,h2⟩:=jd ks ds ws (by simpa using hl) hr
  exact ⟨v2 :: xs,.cons ⟨a,rfl,sq.1⟩ h1,v2,xs,rfl,r2,h2⟩
theorem rc {α β:Type}:∀ (ks:List α) (xs:List β),ks.length=xs.length->(ks.zip xs).map (·.1)=ks
 | [],_,_=>rfl
 | k :: ks,[],h=>by cases h
 | k :: ks,x :: xs,h=>by
  rw [List.zip_cons_cons,List.map_cons,rc ks xs (by simpa using h)]
theorem Qm (hm:X.mg "dict" = none) (ha:EA Γ X (e :: es) t) (hc:X.calm=true:=by rfl) (hg:Gl X "dict":=by rfl) (he:starEach (e :: es) X.env=(false,eval e X.env) :: starEach es X.env:=by rfl) (hpl:(backTo pos (starEach es X.env)).any (·.1)=false:=by rfl):ED Γ X (.Call (.Name "dict" p) (e :: es) [] pos) (dCB sDictP t) :=
 k7 (V3 hc) (fun H O ds vs φ Q ho hv h k=>by
  unfold sDictP at h
  split at h
  ·obtain ⟨ks,ds,rfl,hl,nd,h⟩:=h
   obtain ⟨v,ws,rfl,⟨a,xs,rfl,q,r⟩,rfl⟩:=hv
   obtain ⟨zs,h1,h2⟩:=jd ks ds xs hl r
   have hz:ks.length=zs.length:=by rw [hl,h2.length]
   exact ⟨a,xs,_,rfl,SqL.of q,h1,by rw [rc ks zs hz]; exact nd,fun p hp=>k _ (df (.dk _ _)) _ (zp hp _) ⟨p,rfl,hp,ho p hp,zs,zi,hl,nd,Reps.grow (d6 hp) _ _ h2⟩ h⟩
  ·exact h.elim) hm boot_dict' ha hg (by decide) (by decide) he hpl
end
end DL
namespace L2
open PySem PySem.Spec PyProof.Rows
section
variable {X:Cx} {tg:Expr} {pn:List (Addr × Obj)} {σ:St} {H:Hp} {s:Shared} {a:Addr} {ob:Obj} {kvs:List (Key × V)}
end
end L2
namespace DL
open PySem PySem.Spec L2 L3
open PyProof.Rows hiding St
variable {Γ:Hp->Prop}
section
variable {X:Cx} {e:Expr} {es:List Expr} {t:TDs} {te:TD} {p pos:Pos}
noncomputable def G7 (i:Nat) (te:TD):TDS:=fun ρ Z=>match slot ρ i with
 | some ⟨.val,.int a⟩=>te ρ fun r=>match r.d with
  | .int b=>IntMulOk a b /\ Z.nx (setS ρ i (dv (.int (a * b))))
  | _=>False
 | _=>False
noncomputable def Oc (i:Nat):TDS:=fun ρ Z=>match slot ρ i with
 | some ⟨.own,.lst ds⟩=>match popD ds with
  | some (ds',d)=>Z.nx (setS ρ i (dO (.lst ds')))
  | none=>False
 | _=>False
theorem Ob (i:Nat) {x:Str} {np apos cpos:Pos} (hi:X.N[i]?=some x:=by rfl) (hv:Vis X.env.scope x:=by first | exact Or.inl rfl | exact Or.inr (Or.inl rfl) | exact Or.inr (Or.inr rfl))
  (hd:(x == ("__debug__" : Str))=false:=by decide) (hcd:(x == ("__classdict__" : Str))=false:=by decide)
  (hp:∀ {ta:TE},PE X (.Name x np) ta->PS X (.Expr (.Call (.Attribute (.Name x np) "pop" apos) [] [] cpos) pos) (Wa (tBM0 X.K "list" rPop ta)):=by
   intro ta h1
   exact ue (b6 PySem.F.plainAttrs_list PySem.F.slot_list_pop PySem.F.type_list_pop U6 h1)) :
  SD Γ X (.Expr (.Call (.Attribute (.Name x np) "pop" apos) [] [] cpos) pos) (Oc i):=fun H₀=>impS (hp (vf hi hv hd hcd)) fun D σ H h=>by
 obtain ⟨ρ,o,R,Z,hZ,k1,k2,k3,k4⟩:=h
 unfold Oc at hZ
 split at hZ
 ·rename_i ds es
  obtain ⟨v0,ev0,q0⟩:=R.slots i _ (yw es)
  rcases q0 with ⟨k,_⟩ | ⟨_,a,rfl,m,c⟩
  ·cases k
  obtain ⟨xs,hx,rx⟩:=c
  split at hZ
  ·rename_i ds' d ep
   obtain ⟨yv,ey,hyv,rd⟩:=X8 rx ep
   obtain ⟨R2,g2⟩:=R.chg (d':=.lst ds') (ho:=.lst xs.dropLast) (yw es) ev0 m ⟨fun _ z=>(by cases z),fun _ _ z=>(by cases z)⟩ fun gr=>⟨xs.dropLast,zi,gr _ _ rd⟩
   refine ⟨.ref a,ev0,.inl ⟨rfl,xs,SqL.of hx⟩,a,xs,yv,rfl,rfl,hx,ey,?_⟩
   exact k1 _ _ _ o g2 R2 hZ
  ·exact hZ.elim
 ·exact hZ.elim
end
end DL
namespace L2
open PySem PySem.Spec PyProof.Rows
noncomputable def K7 {α:Type} (xs:List α) (lo hi st:Option Int):List α :=
 let b:=sliceBounds lo hi st xs.length
 (sliceRange b.1 b.2.1 b.2.2).filterMap fun i=>xs[i]?
section
variable {X:Cx} {e:Expr} {te:TE} {lo hi:Option Expr} {st:Expr} {tl th ts:TO} {pos p2:Pos}
noncomputable def O3 (K:W.Frag) (te:TE) (tl th ts:TO):TE:=fun σ H Q=>te σ H fun x H1=>tl σ H1 fun l H2=>th σ H2 fun u H3=>ts σ H3 fun k H4=>∃ a xs,x=.ref a /\ SqL K H4 a xs /\ k ≠ some 0 /\ ∀ p,H4 p=none->Q (.ref p) (upd H4 p (.lst (K7 xs l u k)))
end
end L2
namespace DL
open PySem PySem.Spec L2 L3
open PyProof.Rows hiding St
variable {Γ:Hp->Prop}
noncomputable abbrev TK:=List Key
noncomputable instance decMemTK (k:TK) (ks:List TK):Decidable (k ∈ ks):=decidable_of_iff (ks.any (fun x=>decide (x=k))=true) (by simp)
end DL
namespace L2
open PySem PySem.Spec PySem.W PyProof.Rows
noncomputable def RawD (h:Heap) (d:Addr) (rows:Array DictEntry) (ep:Nat):Prop:=∃ o,h.get? d=some o /\ o.ExactDict /\ o.data=.dict rows ep
theorem RawD.lt {h:Heap} {d:Addr} {rows:Array DictEntry} {ep:Nat} (x:RawD h d rows ep):d < h.objs.size:=let ⟨_,g,_⟩:=x; Heap.lt_size g
section
variable {n:Nat} {cmp:Nat->Nat->(Bool->Shared->Prop)->Shared->Prop} {s:Shared}
noncomputable abbrev POrd (n:Nat) (p:Array Nat):Prop:=p.Perm (List.toArray (List.range n))
theorem POrd.lt {p:Array Nat} (h:POrd n p) (hn:0 < n) (i:Nat):p.getD i 0 < n:=by
 by_cases hi:i < p.size
 ·have e:p.getD i 0=p[i]:=by simp [Array.getD,hi]
  rw [e]
  have m:p[i] ∈ List.toArray (List.range n):=h.mem_iff.mp (Array.getElem_mem hi)
  simpa using m
 ·have e:p.getD i 0=0:=by simp [Array.getD,hi]
  omega
noncomputable abbrev Asks (n:Nat) (cmp:Nat->Nat->(Bool->Shared->Prop)->Shared->Prop) (s:Shared):Prop:=∀ i j C,i < n->j < n->(∀ b,C b s)->cmp i j C s
end
theorem xx {α:Type}:∀ l:List α,(l.zip l).map (fun x=>x.2)=l
 | []=>rfl
 | a :: l=>by rw [List.zip_cons_cons,List.map_cons,xx l]
noncomputable def Gp:Key->Option Int
 | .inl i=>some i
 | .inr _=>none
section
variable {n:Nat} {lt:Nat->Nat->Bool} {cmp:Nat->Nat->(Bool->Shared->Prop)->Shared->Prop} {s:Shared}
theorem POrd.size {p:Array Nat} (h:POrd n p):p.size=n:=by
 have:=h.size_eq
 simpa using this
end
end L2
namespace DL
open PySem PySem.Spec L2 L3
open PyProof.Rows hiding St
variable {Γ:Hp->Prop}
noncomputable def zK (k:TK):List Int:=k.filterMap Gp
section
variable {X:Cx} {σ:St} {scope:Scope} {T F:List Str} {js:List Nat} {tg iter elt:Expr} {ifs:List Expr} {pos:Pos} {ti:TID} {g2:TG} {g:TGD} {tc:TDb} {te:TD}
noncomputable def Tp (ti:TID) (n:Nat) (js:List Nat) (g:TGD) (tc:TDb) (te:TD):TD:=fun ρ φ=>ti ρ fun ds=>∃ P:Nat->List D->Prop,ds.length <= 100000 /\ P 0 [] /\
 (∀ (i:Nat) (d:D) (es:List D),ds[i]?=some d->es.length <= i->P i es->g d (ρ0 n js ρ) fun ρ'=>tc ρ' fun c=>(c=true->te ρ' fun r=>(match r.k with | .own=>False | _=>True) /\ P (i + 1) (es ++ [r.d])) /\ (c=false->P (i + 1) es)) /\ ∀ es,P ds.length es->φ (df (.lst es))
theorem Wm {H₀:Hp} (nd:js.Nodup) (hl:c9 X.K g2 g):∀ σ H Q,vo X.K H₀ (Tp ti T.length js g tc te) σ H Q->Sq (Nd X.K H₀ ti) T js g2 (bh X.K H₀ tc) (vo X.K H₀ te) σ H Q:=fun σ H Q q=>by
  obtain ⟨ρ,o,R,φ,hφ,k⟩:=q
  refine ⟨ρ,o,R,_,hφ,fun J ds P H1 s1 I hP ⟨PP,hlen,P0,turn,fin⟩ Da hDa=>?_⟩
  have R1:=R.to s1
  have gD:∀ {H':Hp},Same H1 H'->Grow (o.map Prod.snd) (Da :: o.map Prod.snd) H1 H':=fun s=>⟨fun b u h nb=>⟨s b u h,fun z=>(List.mem_cons.mp z).elim (fun e=>zf h hDa e) nb⟩,fun b xs h=>s b _ h,fun b ob u h=>s b _ h⟩
  refine ⟨fun i m ys H'=>m=ds.length - i /\ i <= ds.length /\ Same H1 H' /\ H' Da=some (.lst ys) /\ ∃ es,es.length <= i /\ PP i es /\ Reps X.K H' (Da :: o.map Prod.snd) es ys,
   ⟨_,rfl,Nat.zero_le _,zp hDa _,zi,[],Nat.le_refl _,P0,rfl⟩,?_⟩
  rintro i m ys H' ⟨rfl,hi',s2,hD',es,le,pe,rp⟩
  refine ⟨hD',?_⟩
  have hP':=I.keep _ _ _ _ hP (gD s2)
  by_cases hlt:i < ds.length
  ·have ed:ds[i]?=some ds[i]:=by simp [hlt]
   obtain ⟨j1,j2⟩:=I.go H' _ i _ hP' ed
   refine .inr ⟨j1,fun zs H2=>Same H1 H2 /\ H2 Da=some (.lst zs) /\ ∃ es,es.length <= i + 1 /\ PP (i + 1) es /\ Reps X.K H2 (Da :: o.map Prod.snd) es zs,fun zs H2 ⟨a1,a2,a3⟩=>⟨_,(by omega:ds.length - (i + 1) < ds.length - i),rfl,hlt,a1,a2,a3⟩,fun x H2 y=>?_⟩
   obtain ⟨s3,rx⟩:=j2 x H2 y
   have s13:=s2.trans s3
   have hD2:=s3 _ _ hD'
   have RB:=je (n:=T.length) R1 nd hDa s13 hD2 T rfl
   have hO:((T.length + js.length,Da) :: o.map fun p=>(ixO T.length js p.1,p.2)).map Prod.snd=Da :: o.map Prod.snd:=by
    rw [List.map_cons,List.map_map]
    rfl
   have rpl:ys.length <= 100000:=by
    rw [rp.length]
    omega
   refine hl H₀ H2 (st0 T js σ) (ρ0 T.length js ρ) _ _ x _ _ RB (by rw [hO]; exact rx) (turn i _ es ed le pe) fun ρ' σ' R' q'=>?_
   refine ⟨ρ',_,R',_,q',fun c H3 s4 h4=>?_⟩
   have hD3:=s4 _ _ hD2
   cases c with
   | false =>
    exact iteF ⟨s13.trans s4,hD3,es,Nat.le_succ_of_le le,h4.2 rfl,Reps.grow (Grow.same (s3.trans s4)) _ _ rp⟩
   | true =>
    refine iteT ⟨ρ',_,R'.to s4,_,h4.1 rfl,fun v r H4 s5 rv h5=>?_⟩
    have hD4:=s5 _ _ hD3
    have rd:=rv.solid (v3 h5.1)
    rw [hO] at rd
    have ne:∀ b u,H1 b=some u->b ≠ Da:=fun b u h=>zf h hDa
    have gu:Grow (Da :: o.map Prod.snd) (Da :: o.map Prod.snd) H4 (upd H4 Da (.lst (ys ++ [v]))) :=
     ⟨fun b u h n=>⟨by rw [zj (fun z=>n (List.mem_cons.mpr (.inl z)))]; exact h,n⟩,fun b xs h=>by rw [zj (fun z=>by rw [z,hD4] at h; cases h)]; exact h,fun b ob u h=>by rw [zj (fun z=>by rw [z,hD4] at h; cases h)]; exact h⟩
    refine ⟨hD4,Nat.lt_of_le_of_lt rpl (by decide),⟨fun b u h=>?_,zi,es ++ [r.d],by rw [zLa]; exact Nat.succ_le_succ le,h5.2,?_⟩⟩
    ·rw [zj (ne b u h)]
     exact s5 _ _ (s4 _ _ (s13 b u h))
    ·exact Reps.grow gu _ _ ((Reps.grow (Grow.same (s3.trans (s4.trans s5))) _ _ rp).append (Reps.one rd))
  ·have e:i=ds.length:=by omega
   subst e
   refine .inl ⟨I.stop H' _ hP',?_⟩
   exact k (.ref Da) (df (.lst es)) H' (s1.trans s2) ⟨Da,rfl,s1.free hDa,R.ofree (s1.free hDa),ys,hD',rp⟩ (fin es pe)
theorem Xy (hi:EI Γ X tg iter ti) (S:zw X.env.scope scope T F) (hjs:Paired (fun x j=>X.N[j]?=some x) F js) (nd:js.Nodup)
  (hg:∀ cl C fp s H,PG (yf X (T ++ F) scope cl C fp s H) tg g2) (hk:cf T.length g2) (hl:c9 X.K g2 g)
  (ht:∀ cl C fp s H,EIf Γ (yf X (T ++ F) scope cl C fp s H) ifs tc) (he:∀ cl C fp s H,ED Γ (yf X (T ++ F) scope cl C fp s H) elt te)
  (hc:X.calm=true:=by rfl) (hs:∀ x,foldedSetIterable iter X.env x=pure x:=by intro _; rfl):ED Γ X (.ListComp elt [⟨tg,iter,ifs,0⟩] scope pos) (Tp ti T.length js g tc te):=fun H₀ =>
 impE (Vu (tc:=bh X.K H₀.1 tc) (te:=vo X.K H₀.1 te) hc (hi H₀) S hjs hg hk (fun cl C fp s H=>ht cl C fp s H H₀) (fun cl C fp s H=>he cl C fp s H H₀) hs) (Wm nd hl)
theorem Ze {ti:TID} {n:Nat} {js:List Nat} {g:TGD} {tc:TDb} {te:TD} {ρ:DE} {φ:EV->Prop} (ds:List D) (h:∀ ψ:List D->Prop,ψ ds->ti ρ ψ) (P:Nat->List D->Prop) (hl:ds.length <= 100000) (h0:P 0 [])
  (ht:∀ (i:Nat) (d:D) (es:List D),ds[i]?=some d->es.length <= i->P i es->g d (ρ0 n js ρ) fun ρ'=>tc ρ' fun c=>(c=true->te ρ' fun r=>(match r.k with | .own=>False | _=>True) /\ P (i + 1) (es ++ [r.d])) /\ (c=false->P (i + 1) es)) (hφ:∀ es,P ds.length es->φ (df (.lst es))):Tp ti n js g tc te ρ φ:=h _ ⟨P,hl,h0,ht,hφ⟩
end
end DL
namespace L2
open PySem PySem.Spec PyProof.Rows
theorem uu:∀ {ts:List Str} {us:List Value},Vals (ts.map V.str) us->∃ l:List (Str × Tok),us=strValues l /\ l.map (·.1)=ts
 | [],_,.nil=>⟨[],rfl,rfl⟩
 | t :: ts,_,.cons r q=>by
  obtain ⟨k,rfl⟩:=r
  obtain ⟨l,rfl,e⟩:=uu q
  exact ⟨(t,k) :: l,rfl,by rw [List.map_cons,e]⟩
theorem bp (n:Nat):∀ (ts:List Str) (a:Nat),ts.foldl (fun acc (t:Str)=>acc + t.length + n) a=a + (ts.map fun t=>t.length + n).sum
 | [],a=>by simp
 | t :: ts,a=>by
  rw [List.foldl_cons,bp n ts,List.map_cons,List.sum_cons]
  omega
section
variable {X:Cx}
theorem N7:MtR X "str.join" (fun x xs H Q=>∃ sep p ts,x=.str sep /\ xs=[.ref p] /\ (SqL X.K H p (ts.map V.str) \/ SqT X.K H p (ts.map V.str)) /\ (ts.map fun t=>t.length + sep.length).sum <= sizeLine /\ Q (.str (Str.join sep ts)) H):=by
 intro pn s σ H x xs v us Q I rx rs h
 obtain ⟨sep,p,ts,rfl,rfl,hq,hb,q⟩:=h
 obtain ⟨t,rfl⟩:=rx
 obtain ⟨u,rfl,ru⟩:=ci rs
 cases ru
 have fin:∀ l:List (Str × Tok),l.map (·.1)=ts->(joinMade sep l).post (fun v s'=>EP X pn σ Q v s') s:=fun l el=>by
  have lg:(Builtin.Str.glued sep ts).length <= sizeLine:=by
   rw [size_glued]
   refine Nat.le_trans ?_ hb
   have e:(ts.map fun t=>t.length + sep.length).sum=(ts.map (·.length)).sum + ts.length * sep.length:=by
    clear hb q hq el
    induction ts with
    | nil=>simp
    | cons t ts ih=>simp [ih,Nat.add_mul]; omega
   rw [e]
   exact Nat.add_le_add_left (Nat.mul_le_mul_right _ (Nat.sub_le _ _)) _
  have two:EP X pn σ Q (.str (Builtin.Str.glued sep ts) s.toks) { s with toks:=s.toks + 1 }:=⟨.str (Str.join sep ts),H,I.tok _,⟨s.toks,by rw [PySem.StrLaws.glued_eq_join]⟩,q⟩
  match l,el with
  | [],el=>subst el; exact ⟨lg,two⟩
  | [p],el=>subst el; exact ⟨.str p.1,H,I,⟨p.2,rfl⟩,q⟩
  | p :: r :: l,el=>subst el; exact ⟨lg,two⟩
 have hl:∀ l:List (Str × Tok),l.map (·.1)=ts->Builtin.Str.tooLong ((l.map (·.1)).toArray.foldl (· + ·.length + sep.length) 0)=false:=fun l el=>by
  rw [el]
  unfold Builtin.Str.tooLong
  simp only [List.foldl_toArray]
  rw [bp]
  simp
  omega
 rcases hq with hq | hq
 ·obtain ⟨its,rv,pl,hz⟩:=I.list hq
  obtain ⟨l,rfl,el⟩:=uu rv
  exact call_meets PySem.F.slot_str_join (typeIs_str s sep t) PySem.F.entry_str_join (PySem.F.args_str_join_2 _ _) (meets_str_join_list sep t p l (hl l el)) ⟨pl.isList,fin l el⟩
 ·obtain ⟨its,rv,pl,hz⟩:=I.tuple hq
  obtain ⟨l,rfl,el⟩:=uu rv
  obtain ⟨o,g,c,n,d⟩:=pl
  exact call_meets PySem.F.slot_str_join (typeIs_str s sep t) PySem.F.entry_str_join (PySem.F.args_str_join_2 _ _) (meets_str_join_tuple sep t p l (hl l el)) ⟨⟨o,n,g,c,d⟩,fin l el⟩
end
end L2
namespace DL
open PySem PySem.Spec L2 L3
open PyProof.Rows hiding St
variable {Γ:Hp->Prop}
theorem uw {K:W.Frag} {H:Hp} {O:List Addr}:∀ {ns:List Str} {xs:List V},Reps K H O (ns.map D.str) xs->xs=ns.map V.str
 | [],_,h=>h
 | n :: ns,xs,h=>by
  obtain ⟨v,r,rfl,q,t⟩:=h
  cases (show v=_ from q)
  rw [uw t]
  rfl
section
variable {X:Cx} {o e:Expr} {td te:TD} {apos cpos:Pos}
noncomputable def Pt (td te:TD):TD:=fun ρ φ=>td ρ fun x=>match x.d with
 | .str sep=>te ρ fun y=>(match y.d with
  | .lst ds=>∃ ts:List Str,ds=ts.map D.str /\ (ts.map fun t=>t.length + sep.length).sum <= sizeLine /\ φ (dv (.str (Str.join sep ts)))
  | .tup ds=>∃ ts:List Str,ds=ts.map D.str /\ (ts.map fun t=>t.length + sep.length).sum <= sizeLine /\ φ (dv (.str (Str.join sep ts)))
  | _=>False)
 | _=>False
theorem Qj (ho:ED Γ X o td) (he:ED Γ X e te) (hbase:attributeBase o "join" X.env (eval o X.env)=eval o X.env:=by rfl)
  (hfew:((backTo cpos (starEach [e] X.env)).all (fun x=>!x.1) && (backToKw cpos (keywordEach [] X.env)).all (fun x=>x.1.isSome) && decide (([e]:List Expr).length + ([]:List Keyword).length + (if ([]:List Keyword).isEmpty then 0 else 1) < 30))=true:=by rfl)
  (hline:(apos.endLine == cpos.line)=true:=by rfl) (hs:starEach [e] X.env=(false,eval e X.env) :: starEach [] X.env:=by rfl) (hpl:(backTo cpos (starEach [] X.env)).any (·.1)=false:=by rfl) :
  ED Γ X (.Call (.Attribute o "join" apos) [e] [] cpos) (Pt td te):=fun H₀ =>
 impE (Ri PySem.F.plainAttrs_str PySem.F.slot_str_join PySem.F.type_str_join N7 (ho H₀) (w8 (he H₀) u9 hs) hbase hfew hline hs hpl) fun σ H Q q=>by
  obtain ⟨ρ,oo,R,φ,hφ,kk⟩:=q
  refine ⟨ρ,oo,R,_,hφ,fun v r H1 s1 rv h1=>?_⟩
  obtain ⟨kd,d⟩:=r
  cases d with
  | str sep =>
   cases (show v=_ from rv.view)
   refine ⟨rfl,ρ,oo,R.to s1,_,h1,fun v2 r2 H2 s2 rv2 h2=>?_⟩
   obtain ⟨kd2,d2⟩:=r2
   cases d2 with
   | lst ds =>
    obtain ⟨ts,rfl,hb,h2⟩:=h2
    obtain ⟨a,xs,rfl,q,rp⟩:=rv2.view
    cases uw rp
    exact ⟨sep,a,ts,rfl,rfl,.inl (SqL.of q),hb,kk _ (dv (.str (Str.join sep ts))) H2 (s1.trans s2) (by exact rfl) h2⟩
   | tup ds =>
    obtain ⟨ts,rfl,hb,h2⟩:=h2
    obtain ⟨a,xs,rfl,q,rp⟩:=rv2.view
    cases uw rp
    exact ⟨sep,a,ts,rfl,rfl,.inr q.1,hb,kk _ (dv (.str (Str.join sep ts))) H2 (s1.trans s2) (by exact rfl) h2⟩
   | _=>exact h2.elim
  | _=>exact h1.elim
end
end DL
namespace LQ
open PySem PySem.Spec L2 L3
open PyProof.Rows hiding St
noncomputable def dd (l:List Str) (k:Str):List Str:=if k ∈ l then l else l ++ [k]
noncomputable def fm (val:Nat->Str) (i:Nat):List Str:=((List.range i).map val).foldl dd []
section
variable {X:Cx}
end
theorem v5:entryFor table "dict.update.loop" = some Builtin.«dict.update.loop»:=entryFor_of_tree (by kernel_rfl)
theorem yt:plainId "dict.update.loop" = true:=by decide +kernel
end LQ
namespace LQ
open PySem PySem.Spec PyProof.Rows
section
variable {P:Program} {w:World} {A:Around} {E:Value->Shared->Prop} {s:Shared}
structure ZAt (g:Heap) (z ti to i1 i2 l1 l2:Addr) (f:Value) (k:Nat):Prop where
 zz:IsZip g z ti to f
 its:IsPair g ti (.ref i1) (.ref i2)
 out:∃ a b,IsPair g to a b
 one:g.IsTupleIter i1 l1 k
 two:g.IsListIter i2 l2 k
structure ZNe (z ti to i1 i2:Addr):Prop where
 ab:ti ≠ z
 ac:to ≠ z
 ad:i1 ≠ z
 ae:i2 ≠ z
 bc:ti ≠ to
 bd:ti ≠ i1
 be:ti ≠ i2
 cd:to ≠ i1
 ce:to ≠ i2
 de:i1 ≠ i2
end
end LQ
namespace LQ
open PySem PySem.Spec L2 L3
open PyProof.Rows hiding St
end LQ
namespace DL
open PySem PySem.Spec L2 L3
open PyProof.Rows hiding St
variable {Γ:Hp->Prop}
theorem cv {K:W.Frag} {H:Hp} {O:List Addr}:∀ {ns:List Str} {xs:List V},Reps K H O (ns.map D.str) xs->xs=ns.map V.str
 | [],_,h=>h
 | n :: ns,xs,h=>by
  obtain ⟨v,r,rfl,q,t⟩:=h
  cases (show v=_ from q)
  rw [cv t]
  rfl
end DL
namespace L2
open PySem PySem.Spec PySem.W PyProof.Rows
noncomputable def Gn (D:Addr) (i n ep:Nat) (x0 x1 o1 o2:Value):Obj:={ cls:=.type "dict_itemiterator", dict:=none,data:=.fields #[x0,x1,.ref D,.int i 0,.int n 0,.int ep 0,o1,o2],slots:=#[] }
noncomputable def RawJ (h:Heap) (J D:Addr) (i n ep:Nat):Prop:=∃ x0 x1 o1 o2,h.get? J=some (Gn D i n ep x0 x1 o1 o2) /\ ((x0=.none /\ x1=.bool false) \/ ∃ (b:Addr) (f:Bool) (ob:Obj),x0=rawInt b /\ x1=.bool f /\ h.get? b=some ob /\ b ≠ J)
noncomputable def Gf (e:DictEntry):Obj:={ cls:=.type "tuple", data:=.seq #[e.key,e.val] }
theorem RawJ.lt {h:Heap} {J D:Addr} {i n ep:Nat} (y:RawJ h J D i n ep):J < h.objs.size:=let ⟨_,_,_,_,e,_⟩:=y; Heap.lt_size e
noncomputable def S6 (h:Heap) (rows:Array DictEntry) (J:Addr) (as:List Addr):Prop:=(∀ a ∈ as,J < a) /\ as.Nodup /\ ∀ (j:Nat) a,as[j]?=some a->∃ e,rows[j]?=some e /\ h.get? a=some (Gf e)
theorem S6.lt {h:Heap} {rows:Array DictEntry} {J a:Addr} {as:List Addr} (p:S6 h rows J as) (m:a ∈ as):a < h.objs.size:=by
 obtain ⟨j,hj⟩:=List.getElem?_of_mem m
 obtain ⟨e,_,g⟩:=p.2.2 j a hj
 exact Heap.lt_size g
end L2
namespace L3
open PySem PySem.Spec L2
open PyProof.Rows hiding St
section
variable {P:Program} {w:World} {A:Around} {E:Value->Shared->Prop} {s:Shared}
theorem Qv {α:Type} {M:Model} {A:Around} {a:Addr} {k:Option Obj->Sem α} {Q:α->Shared->Prop} {E:Value->Shared->Prop} {s:Shared} (h:wpAny M A (k (s.heap.get? a)) Q E s):wpAny M A (Sem.loadIfAlive a k) Q E s:=fun Γ p hΓ=>by
 rw [Sem.wp_loadIfAlive]
 exact h Γ p hΓ
noncomputable def ZipF (h:Heap) (z ti to a:Addr) (fb:Bool):Prop:=h.get? z=some { cls:=.type "zip", dict:=none,data:=.fields #[rawInt a,.bool fb,.bool false,.ref ti,.ref to],slots:=#[] }
theorem T5 {z ti to a:Addr} {fb:Bool} {o:Obj} {Q:Bool->Shared->Prop} (hz:ZipF s.heap z ti to a fb) (ha:s.heap.get? a=some o)
  (hQ:∀ g,ZipF g z ti to a true->Heap.SameBut z s.heap g->Q false { s with heap:=g }):wpAny (model P w) A (Builtin.SmallTypes.ownedTupleIsFree (.ref z)) Q E s:=by
 unfold Builtin.SmallTypes.ownedTupleIsFree
 refine wpAny_bind (wpAny_field hz rfl (x:=rawInt a) rfl ?_)
 show wpAny _ _ (Sem.loadIfAlive (Int.toNat (a:Int)) _) _ _ _
 refine Qv ?_
 rw [Int.toNat_natCast,ha]
 show wpAny _ _ (field (.ref z) 1 >>= _) _ _ _
 refine wpAny_bind (wpAny_field hz rfl (x:=.bool fb) rfl ?_)
 cases fb with
 | true=>exact wpAny_pure (hQ s.heap hz (Heap.SameBut.refl _ _))
 | false =>
  show wpAny _ _ (setField (.ref z) 1 (.bool true) >>= _) _ _ _
  refine wpAny_bind (wpAny_setField_rec hz (by simp) fun g z1 s1=>?_)
  exact wpAny_pure (hQ g z1 s1)
theorem V6 {b1 b2:Bool} {z ti to i1 i2 l1 l2 a:Addr} {fb:Bool} {o:Obj} {k:Nat} {xs ys:Array Value} {x y:Value} {Q:Value->Shared->Prop} (n1:i1 ≠ z) (n2:i2 ≠ z) (n12:i1 ≠ i2) (nt:ti ≠ z) (nti1:ti ≠ i1) (l1z:l1 ≠ z) (l2z:l2 ≠ z) (l21:l2 ≠ i1)
  (hz:ZipF s.heap z ti to a fb) (ha:s.heap.get? a=some o) (hti:IsPair s.heap ti (.ref i1) (.ref i2)) (h1:ItAt b1 s.heap i1 l1 k) (h2:ItAt b2 s.heap i2 l2 k) (t1:SqAt b1 s.heap l1 xs) (t2:SqAt b2 s.heap l2 ys) (hx:xs[k]?=some x) (hy:ys[k]?=some y)
  (hQ:∀ g,ZipF g z ti to a true->ItAt b1 g i1 l1 (k + 1)->ItAt b2 g i2 l2 (k + 1)->IsPair g s.heap.objs.size x y->g.objs.size=s.heap.objs.size + 1->(∀ c o,c ≠ z->c ≠ i1->c ≠ i2->s.heap.get? c=some o->g.get? c=some o)->Q (.ref s.heap.objs.size) { s with heap:=g }) :
  wpAny (model P w) A (Builtin.«zip.__next__» ⟨[.ref z],[]⟩) (fun fin s'=>∃ v,fin=.done (.ret v) /\ Q v s') E s:=by
 show wpAny _ _ (field (.ref z) 2 >>= _) _ _ _
 refine wpAny_bind (wpAny_field hz rfl (x:=.bool false) rfl ?_)
 show wpAny _ _ (field (.ref z) 3 >>= _) _ _ _
 refine wpAny_bind (wpAny_field hz rfl (x:=.ref ti) rfl ?_)
 refine wpAny_bind (wpAny_seqItems hti rfl ?_)
 show wpAny _ _ (Builtin.SmallTypes.ownedTupleIsFree (.ref z) >>= _) _ _ _
 refine wpAny_bind (T5 hz ha fun g1 z1 s1=>?_)
 simp only [Bool.false_eq_true,if_false]
 refine wpAny_bind ?_
 rw [<- Array.forIn_toList]
 simp only [List.forIn_cons,List.forIn_nil]
 refine wpAny_bind (wpAny_bind (wpAny_holding ?_))
 show wpAny _ _ (Builtin.SmallTypes.nextOf (.ref i1) >>= _) _ _ _
 refine wpAny_bind (v4 (h1.at fun o e=>s1.extBut _ o n1 e) (t1.at fun o e=>s1.extBut _ o l1z e) hx fun g2 p2 s2=>wpAny_pure (wpAny_pure ?_))
 refine wpAny_bind (wpAny_bind (wpAny_holding ?_))
 show wpAny _ _ (Builtin.SmallTypes.nextOf (.ref i2) >>= _) _ _ _
 refine wpAny_bind (v4 (h2.at fun o e=>s2.extBut _ o n12.symm (s1.extBut _ o n2 e)) (t2.at fun o e=>s2.extBut _ o l21 (s1.extBut _ o l2z e)) hy fun g3 p3 s3=>wpAny_pure (wpAny_pure (wpAny_pure ?_)))
 show wpAny _ _ (newTuple [x,y] >>= _) _ _ _
 refine wpAny_bind (wpAny_newTuple ?_)
 have sz:g3.objs.size=s.heap.objs.size:=by rw [s3.1,s2.1,s1.1]
 refine wpAny_pure ⟨_,rfl,?_⟩
 show Q (.ref g3.objs.size) _
 rw [sz]
 have up:∀ c o,c ≠ z->c ≠ i1->c ≠ i2->s.heap.get? c=some o->(g3.push { cls:=.type "tuple", data:=.seq #[x,y] }).get? c=some o:=fun c o c1 c2 c3 e=>Heap.get?_push_of_some _ (s3.extBut _ _ c3 (s2.extBut _ _ c2 (s1.extBut _ _ c1 e)))
 refine hQ _ (Heap.get?_push_of_some _ (s3.extBut _ _ n2.symm (s2.extBut _ _ n1.symm z1))) ((p2.at fun o e=>s3.extBut _ o n12 e).at fun o e=>Heap.get?_push_of_some _ e) (p3.at fun o e=>Heap.get?_push_of_some _ e) ?_ (by rw [Heap.size_push,sz]) up
 have:=Heap.get?_push_size g3 (o:=({ cls:=.type "tuple", data:=.seq #[x,y] }:Obj)) rfl
 rw [sz] at this
 exact this
theorem S9 {b1 b2:Bool} {z ti to i1 i2 l1 l2 a:Addr} {fb:Bool} {o:Obj} {k:Nat} {xs:Array Value} {Q:Fin->Shared->Prop} (hh:A.handled=none) (n1:i1 ≠ z) (l1z:l1 ≠ z)
  (hz:ZipF s.heap z ti to a fb) (ha:s.heap.get? a=some o) (hti:IsPair s.heap ti (.ref i1) (.ref i2)) (h1:ItAt b1 s.heap i1 l1 k) (t1:SqAt b1 s.heap l1 xs) (hx:xs[k]?=none)
  (hE:∀ g e,(∀ c o,c ≠ z->c ≠ i1->s.heap.get? c=some o->g.get? c=some o)->(∃ o,g.get? e=some o /\ o.cls=.type "StopIteration")->E (.ref e) { s with heap:=g }) :
  wpAny (model P w) A (Builtin.«zip.__next__» ⟨[.ref z],[]⟩) Q E s:=by
 show wpAny _ _ (field (.ref z) 2 >>= _) _ _ _
 refine wpAny_bind (wpAny_field hz rfl (x:=.bool false) rfl ?_)
 show wpAny _ _ (field (.ref z) 3 >>= _) _ _ _
 refine wpAny_bind (wpAny_field hz rfl (x:=.ref ti) rfl ?_)
 refine wpAny_bind (wpAny_seqItems hti rfl ?_)
 show wpAny _ _ (Builtin.SmallTypes.ownedTupleIsFree (.ref z) >>= _) _ _ _
 refine wpAny_bind (T5 hz ha fun g1 z1 s1=>?_)
 simp only [Bool.false_eq_true,if_false]
 refine wpAny_bind ?_
 rw [<- Array.forIn_toList]
 simp only [List.forIn_cons,List.forIn_nil]
 refine wpAny_bind (wpAny_bind (wpAny_holding ?_))
 show wpAny _ _ (Builtin.SmallTypes.nextOf (.ref i1) >>= _) _ _ _
 refine wpAny_bind (qh hh (h1.at fun o e=>s1.extBut _ o n1 e) (t1.at fun o e=>s1.extBut _ o l1z e) hx fun g2 e k2 he=>?_)
 exact hE g2 e (fun c o c1 c2 q=>k2 c o c2 (s1.extBut _ _ c1 q)) he
theorem Wi {b1 b2:Bool} {z ti to i1 i2 l1 l2 a:Addr} {fb:Bool} {o:Obj} {k:Nat} {xs ys:Array Value} {x y:Value} {Q:Option Value->Shared->Prop} (n1:i1 ≠ z) (n2:i2 ≠ z) (n12:i1 ≠ i2) (nt:ti ≠ z) (nti1:ti ≠ i1) (l1z:l1 ≠ z) (l2z:l2 ≠ z) (l21:l2 ≠ i1)
  (hz:ZipF s.heap z ti to a fb) (ha:s.heap.get? a=some o) (hti:IsPair s.heap ti (.ref i1) (.ref i2)) (h1:ItAt b1 s.heap i1 l1 k) (h2:ItAt b2 s.heap i2 l2 k) (t1:SqAt b1 s.heap l1 xs) (t2:SqAt b2 s.heap l2 ys) (hx:xs[k]?=some x) (hy:ys[k]?=some y)
  (hQ:∀ g,ZipF g z ti to a true->ItAt b1 g i1 l1 (k + 1)->ItAt b2 g i2 l2 (k + 1)->IsPair g s.heap.objs.size x y->g.objs.size=s.heap.objs.size + 1->(∀ c o,c ≠ z->c ≠ i1->c ≠ i2->s.heap.get? c=some o->g.get? c=some o)->Q (some (.ref s.heap.objs.size)) { s with heap:=g }) :
  wpAny (model P w) A (pyNext (.ref z)) Q E s:=by
 have ty:s.TypeIs (.ref z) "zip":=⟨_,hz,rfl⟩
 unfold pyNext
 exact wpAny_bind (wpAny_attempt (wpAny_callSpecial?_slot (name:=Str.ofString "__next__") ty F.slot_zip_next (wpAny_call_entry F.slot_zip_next ty F.entry_zip_next (V6 n1 n2 n12 nt nti1 l1z l2z l21 hz ha hti h1 h2 t1 t2 hx hy fun g q1 q2 q3 q4 q5 q6=>wpAny_pure (hQ g q1 q2 q3 q4 q5 q6)) (F.args_zip_next_1 _))))
theorem U5 {b1:Bool} {z ti to i1 i2 l1 a:Addr} {fb:Bool} {o:Obj} {k:Nat} {xs:Array Value} {Q:Option Value->Shared->Prop} (hh:A.handled=none) (n1:i1 ≠ z) (l1z:l1 ≠ z)
  (hz:ZipF s.heap z ti to a fb) (ha:s.heap.get? a=some o) (hti:IsPair s.heap ti (.ref i1) (.ref i2)) (h1:ItAt b1 s.heap i1 l1 k) (t1:SqAt b1 s.heap l1 xs) (hx:xs[k]?=none)
  (hQ:∀ g,(∀ c o,c ≠ z->c ≠ i1->s.heap.get? c=some o->g.get? c=some o)->Q none { s with heap:=g }):wpAny (model P w) A (pyNext (.ref z)) Q E s:=by
 have ty:s.TypeIs (.ref z) "zip":=⟨_,hz,rfl⟩
 unfold pyNext
 refine wpAny_bind (wpAny_attempt (wpAny_callSpecial?_slot (name:=Str.ofString "__next__") ty F.slot_zip_next (wpAny_call_entry F.slot_zip_next ty F.entry_zip_next (S9 (b2:=b1) (l2:=l1) hh n1 l1z hz ha hti h1 t1 hx fun g e kp he=>?_) (F.args_zip_next_1 _))))
 obtain ⟨o,ho,hc⟩:=he
 refine wpAny_bind (wpAny_isInstance (T:="StopIteration") (b:=true) ⟨o,ho,hc⟩ isSubtype_stop ?_)
 exact wpAny_pure (hQ _ kp)
end
noncomputable def PairsZ (h:Heap) (xs ys:Array Value) (J:Addr) (as:List Addr):Prop:=(∀ a ∈ as,J < a) /\ as.Nodup /\ ∀ (j:Nat) a,as[j]?=some a->∃ x y,xs[j]?=some x /\ ys[j]?=some y /\ IsPair h a x y
theorem PairsZ.lt {h:Heap} {xs ys:Array Value} {J a:Addr} {as:List Addr} (p:PairsZ h xs ys J as) (m:a ∈ as):a < h.objs.size:=by
 obtain ⟨j,hj⟩:=List.getElem?_of_mem m
 obtain ⟨x,y,_,_,g⟩:=p.2.2 j a hj
 exact Heap.lt_size g
theorem PairsZ.alive {h:Heap} {xs ys:Array Value} {J a:Addr} {as:List Addr} (p:PairsZ h xs ys J as) (m:a ∈ as):∃ o,h.get? a=some o:=by
 obtain ⟨j,hj⟩:=List.getElem?_of_mem m
 obtain ⟨x,y,_,_,g⟩:=p.2.2 j a hj
 exact ⟨_,g⟩
theorem PairsZ.to {h k:Heap} {xs ys:Array Value} {J:Addr} {as:List Addr} (p:PairsZ h xs ys J as) (f:∀ a o,a ∈ as->h.get? a=some o->k.get? a=some o):PairsZ k xs ys J as :=
 ⟨p.1,p.2.1,fun j a e=>let ⟨x,y,e1,e2,g⟩:=p.2.2 j a e; ⟨x,y,e1,e2,f a _ (List.mem_of_getElem? e) g⟩⟩
theorem PairsZ.snoc {h:Heap} {xs ys:Array Value} {J a:Addr} {as:List Addr} {x y:Value} (p:PairsZ h xs ys J as) (ha:J < a) (nm:a ∉ as) (ex:xs[as.length]?=some x) (ey:ys[as.length]?=some y) (g:IsPair h a x y):PairsZ h xs ys J (as ++ [a]):=by
 refine ⟨fun b hb=>?_,?_,fun j b hj=>?_⟩
 ·rcases List.mem_append.mp hb with m | m
  ·exact p.1 b m
  ·rw [List.mem_singleton.mp m]; exact ha
 ·rw [List.nodup_append]
  refine ⟨p.2.1,by simp,fun x hx y hy z=>?_⟩
  rw [List.mem_singleton.mp hy] at z
  subst z
  exact nm hx
 ·by_cases hl:j < as.length
  ·rw [List.getElem?_append_left hl] at hj
   exact p.2.2 j b hj
  ·have:j=as.length:=by
    have:=(List.getElem?_eq_some_iff.mp hj).1
    simp at this
    omega
   subst this
   have eb:a=b:=by simpa using hj
   subst eb
   exact ⟨x,y,ex,ey,g⟩
noncomputable def ZS (b1 b2:Bool) (z ti to i1 i2 l1 l2:Addr) (as:List Addr) (i:Nat) (h:Heap):Prop :=
 (i=0 /\ ZAt b1 b2 h z ti to i1 i2 l1 l2 .none 0) \/ (∃ a fb,a ∈ as /\ ZipF h z ti to a fb /\ IsPair h ti (.ref i1) (.ref i2) /\ ItAt b1 h i1 l1 i /\ ItAt b2 h i2 l2 i)
theorem ZS.to {b1 b2:Bool} {z ti to i1 i2 l1 l2:Addr} {as:List Addr} {i:Nat} {h g:Heap} (Z:ZS b1 b2 z ti to i1 i2 l1 l2 as i h) (k:∀ c o,(c=z \/ c=ti \/ c=to \/ c=i1 \/ c=i2)->h.get? c=some o->g.get? c=some o):ZS b1 b2 z ti to i1 i2 l1 l2 as i g:=by
 rcases Z with ⟨e,Z⟩ | ⟨a,fb,m,z1,t1,p1,p2⟩
 ·obtain ⟨zz,its,⟨a,b,out⟩,one,two⟩:=Z
  exact .inl ⟨e,k _ _ (.inl rfl) zz,k _ _ (.inr (.inl rfl)) its,⟨a,b,k _ _ (.inr (.inr (.inl rfl))) out⟩,one.at fun o e=>k _ o (.inr (.inr (.inr (.inl rfl)))) e,two.at fun o e=>k _ o (.inr (.inr (.inr (.inr rfl)))) e⟩
 ·exact .inr ⟨a,fb,m,k _ _ (.inl rfl) z1,k _ _ (.inr (.inl rfl)) t1,p1.at fun o e=>k _ o (.inr (.inr (.inr (.inl rfl)))) e,p2.at fun o e=>k _ o (.inr (.inr (.inr (.inr rfl)))) e⟩
section
variable {P:Program} {w:World} {A:Around} {E:Value->Shared->Prop} {s:Shared} {b1 b2:Bool} {z ti to i1 i2 l1 l2 S:Addr} {xs ys:Array Value}
theorem Py {as:List Addr} {i:Nat} {x y:Value} {Q:Option Value->Shared->Prop} (D:ZNe z ti to i1 i2) (d1:ZOff z to i1 i2 l1) (d2:ZOff z to i1 i2 l2) (Z:ZS b1 b2 z ti to i1 i2 l1 l2 as i s.heap) (pa:PairsZ s.heap xs ys S as) (t1:SqAt b1 s.heap l1 xs) (t2:SqAt b2 s.heap l2 ys) (hx:xs[i]?=some x) (hy:ys[i]?=some y)
  (hQ:∀ g,ZS b1 b2 z ti to i1 i2 l1 l2 (as ++ [s.heap.objs.size]) (i + 1) g->IsPair g s.heap.objs.size x y->(∀ c o,ZOff z to i1 i2 c->s.heap.get? c=some o->g.get? c=some o)->Q (some (.ref s.heap.objs.size)) { s with heap:=g }) :
  wpAny (model P w) A (pyNext (.ref z)) Q E s:=by
 rcases Z with ⟨rfl,Z⟩ | ⟨a,fb,m,z1,ht,p1,p2⟩
 ·refine ba D d1 d2 Z t1 t2 hx hy fun g Z' pr kp=>hQ g (.inr ⟨s.heap.objs.size,false,List.mem_append_right _ (List.mem_singleton.mpr rfl),Z'.zz,Z'.its,Z'.one,Z'.two⟩) pr kp
 ·obtain ⟨o,ho⟩:=pa.alive m
  refine Wi D.ad D.ae D.de D.ab D.bd d1.1 d2.1 d2.2.2.1 z1 ho ht p1 p2 t1 t2 hx hy fun g q1 q2 q3 q4 q5 q6=>hQ g (.inr ⟨a,true,List.mem_append_left _ m,q1,q6 _ _ D.ab D.bd D.be ht,q2,q3⟩) q4 fun c o q e=>q6 c o q.1 q.2.2.1 q.2.2.2 e
theorem Mp {as:List Addr} {i:Nat} {Q:Option Value->Shared->Prop} (hh:A.handled=none) (D:ZNe z ti to i1 i2) (d1:ZOff z to i1 i2 l1) (d2:ZOff z to i1 i2 l2) (Z:ZS b1 b2 z ti to i1 i2 l1 l2 as i s.heap) (pa:PairsZ s.heap xs ys S as) (t1:SqAt b1 s.heap l1 xs) (t2:SqAt b2 s.heap l2 ys) (hx:xs[i]?=none)
  (hQ:∀ g,(∀ c o,ZOff z to i1 i2 c->s.heap.get? c=some o->g.get? c=some o)->Q none { s with heap:=g }):wpAny (model P w) A (pyNext (.ref z)) Q E s:=by
 rcases Z with ⟨rfl,Z⟩ | ⟨a,fb,m,z1,ht,p1,p2⟩
 ·exact Xl hh D d1 d2 Z t1 t2 (.inl hx) hQ
 ·obtain ⟨o,ho⟩:=pa.alive m
  exact U5 hh D.ad d1.1 z1 ho ht p1 t1 hx fun g k=>hQ g fun c o q e=>k c o q.1 q.2.2.1 e
end
section
variable {X:Cx} {pn:List (Addr × Obj)} {σ:St} {H2:Hp} {s2:Shared} {scope:Scope} {T F:List Str} {cl:List (Str × Addr)} {fp:List Addr} {js:List Nat} {tg iter elt:Expr} {ifs:List Expr} {pos:Pos}
 {g:TG} {tc:TT} {te:TE} {J:It} {it:Addr} {tn:Nat->Heap->Prop} {E:Value->Shared->Prop} {RR:Value->Addr->Result->Shared->Prop}
end
end L3
namespace L2
open PySem PySem.Spec PyProof.Rows
noncomputable def cutS (x:Str) (lo hi:Option Int):Str:=⟨((x.cps.toList.drop (HT.sIx x.length 0 lo)).take (HT.sIx x.length x.length hi - HT.sIx x.length 0 lo)).toArray⟩
theorem Mc (n:Nat) (lo:Option Int):(match lo with | none=>(0:Int) | some i=>max 0 (min (if i < 0 then i + (n:Int) else i) (n:Int)))=((min (HT.sIx n 0 lo) n:Nat):Int):=by
 cases lo with
 | none=>simp [HT.sIx]
 | some i =>
  simp only [HT.sIx]
  by_cases h:i < 0
  ·simp only [h,if_true] <;> omega
  ·simp only [h,if_false] <;> omega
theorem Md (n:Nat) (hi:Option Int):(match hi with | none=>(n:Int) | some i=>max 0 (min (if i < 0 then i + (n:Int) else i) (n:Int)))=((min (HT.sIx n n hi) n:Nat):Int):=by
 cases hi with
 | none=>simp [HT.sIx]
 | some i =>
  simp only [HT.sIx]
  by_cases h:i < 0
  ·simp only [h,if_true] <;> omega
  ·simp only [h,if_false] <;> omega
theorem jc (n d:Nat) (hd:d <= n) (o:Option Int):HT.sIx n d o <= n:=by
 cases o with
 | none=>exact hd
 | some i =>
  simp only [HT.sIx]
  by_cases h:i < 0
  ·simp only [h,if_true] <;> omega
  ·simp only [h,if_false] <;> omega
theorem Ni (lo hi:Option Int) (n:Nat):Builtin.Str.strSliceIndices lo hi 1 n=(List.range (HT.sIx n n hi - HT.sIx n 0 lo)).map (HT.sIx n 0 lo + ·):=by
 have e:Builtin.Str.strSliceIndices lo hi 1 n=sliceRange (match lo with | none=>(0:Int) | some i=>max 0 (min (if i < 0 then i + (n:Int) else i) (n:Int))) (match hi with | none=>(n:Int) | some i=>max 0 (min (if i < 0 then i + (n:Int) else i) (n:Int))) 1:=by
  unfold Builtin.Str.strSliceIndices
  simp only [show (1:Int) > 0 by decide,if_true]
  cases lo <;> cases hi <;> rfl
 rw [e,Mc,Md,Nat.min_eq_left (jc n 0 (Nat.zero_le _) lo),Nat.min_eq_left (jc n n (Nat.le_refl _) hi),sliceRange_one]
theorem Vg (x:Str) (lo hi:Option Int):Txt.slice x lo hi=cutS x lo hi:=by
 unfold Txt.slice
 rw [Ni]
 have pk:=pick_run x.cps (HT.sIx x.length 0 lo) (HT.sIx x.length x.length hi - HT.sIx x.length 0 lo)
 rw [pk]
 have n:x.length=x.cps.toList.length:=(Array.length_toList).symm
 split
 ·rename_i h
  simp only [zLm,List.length_range,Bool.and_eq_true,beq_iff_eq] at h
  have h2:=jc x.length x.length (Nat.le_refl _) hi
  have h1:=jc x.length 0 (Nat.zero_le _) lo
  have h3:HT.sIx x.length 0 lo=0:=by omega
  have h4:HT.sIx x.length x.length hi=x.length:=by omega
  unfold cutS
  rw [h3,h4,Nat.sub_zero,List.drop_zero,n,List.take_length]
 ·rfl
section
variable {X:Cx}
theorem Vx {v:Value} {o:Option Int} (h:IsPart v o):∃ p:Option (Int × Tok),p.map (·.1)=o /\ v=partValue p:=by
 cases o with
 | none=>exact ⟨none,rfl,by cases h; rfl⟩
 | some i=>first | (obtain ⟨t,rfl⟩:=h; exact ⟨some (i,t),rfl,rfl⟩) | (cases h; exact ⟨some (i,_),rfl,rfl⟩)
theorem Ld:SlR X (fun x lo hi H Q=>∃ z,x=.str z /\ z.length <= sizeLine /\ Q (.str (cutS z lo hi)) H):=by
 intro pn s σ H x v vl vu lo hi sl Q I rx hs pl pu h
 obtain ⟨z,rfl,hz,q⟩:=h
 obtain ⟨t,rfl⟩:=rx
 obtain ⟨p1,rfl,rfl⟩:=Vx pl
 obtain ⟨p2,rfl,rfl⟩:=Vx pu
 obtain ⟨o,ho,hc,hd⟩:=hs
 refine ⟨"str", _,F.slot_str_getitem.lookup,typeIs_str _ _ _,wpAny_getItem_str_slice (l:=p1) (u:=p2) (st:=none) ⟨o,ho,hc,hd⟩ rfl ?_⟩
 refine post_val_or_str ⟨Nat.le_trans (Txt.slice_le z _ _) hz,fun t' k=>⟨.str (cutS z (p1.map (·.1)) (p2.map (·.1))),H,I.tok _,⟨t',?_⟩,q⟩⟩
 rw [<- Vg]
 rfl
end
end L2
namespace DL
open PySem PySem.Spec L2 L3
open PyProof.Rows hiding St
variable {Γ:Hp->Prop}
section
variable {X:Cx} {o e:Expr} {td te:TD} {apos cpos pos:Pos}
noncomputable def sSlS:D->Option Int->Option Int->(EV->Prop)->Prop:=fun x lo hi φ=>match x with
 | .str z=>z.length <= sizeLine /\ φ (dv (.str (cutS z lo hi)))
 | _=>False
noncomputable def dSlS (te:TD) (tl th:TDo):TD:=fun ρ φ=>te ρ fun x=>tl ρ fun l=>th ρ fun u=>sSlS x.d l u φ
theorem Tc {lo hi:Option Expr} {tl th:TDo} {p2:Pos} (he:ED Γ X e te) (hl:EO Γ X lo tl) (hu:EO Γ X hi th):ED Γ X (.Subscript e (.Slice lo hi none p2) pos) (dSlS te tl th):=fun H₀ =>
 impE (gf Ld (he H₀) (hl H₀) (hu H₀)) fun σ H Q q=>by
  obtain ⟨ρ,o,R,φ,hφ,k⟩:=q
  refine ⟨ρ,o,R,_,hφ,fun v r H1 s1 rv h1=>⟨ρ,o,R.to s1,_,h1,fun l H2 s2 h2=>⟨ρ,o,R.to (s1.trans s2),_,h2,fun u H3 s3 h3=>?_⟩⟩⟩
  have s13:=(s1.trans s2).trans s3
  obtain ⟨kd,d⟩:=r
  cases d with
  | str z =>
   cases (show v=_ from rv.view)
   exact ⟨z,rfl,h3.1,k _ (dv (.str _)) H3 s13 (by exact rfl) h3.2⟩
  | _=>exact h3.elim
end
section
variable {X:Cx} {a b:Expr} {ta tb:TD} {pos:Pos}
noncomputable def rEqF (K:W.Frag) (neg:Bool):R2:=fun x y H Q=>∃ d e,Rep K H [] d x /\ Rep K H [] e y /\ okD 50 d /\ okD 50 e /\ Q (.bl (if neg then !eqD d e else eqD d e)) H
theorem Kr (hu:X.A.units + 64 < cLine):OpR X (compareOp .Eq) (rEqF X.K false):=by
 intro pn s σ H x y v u Q I rx ry h
 obtain ⟨d,e,h1,h2,o1,o2,q⟩:=h
 exact (dj I 50 d e x y v u X.A o1 o2 h1 h2 rx ry (by omega)).1 X.prog X.w X.xe _ ⟨.bl _,H,I,rfl,q⟩
theorem Ko (hu:X.A.units + 64 < cLine):OpR X (compareOp .NotEq) (rEqF X.K true):=by
 intro pn s σ H x y v u Q I rx ry h
 obtain ⟨d,e,h1,h2,o1,o2,q⟩:=h
 exact (dj I 50 d e x y v u X.A o1 o2 h1 h2 rx ry (by omega)).2.1 X.prog X.w X.xe _ ⟨.bl _,H,I,rfl,q⟩
noncomputable def sEqF:D->D->(EV->Prop)->Prop:=fun x y φ=>okD 50 x /\ okD 50 y /\ φ (dv (.bl (eqD x y)))
noncomputable def sNeF:D->D->(EV->Prop)->Prop:=fun x y φ=>okD 50 x /\ okD 50 y /\ φ (dv (.bl (!eqD x y)))
theorem Hj (hu:X.A.units + 64 < cLine) (ha:ED Γ X a ta) (hb:ED Γ X b tb):ED Γ X (.Compare a [.Eq] [b] pos) (d2 sEqF ta tb) :=
 Hk (Kr hu) (fun H O x y vx vy φ Q ho hx hy h k=>⟨x,y,hx.rep0,hy.rep0,h.1,h.2.1,k _ _ H (Same.refl H) (by exact rfl) h.2.2⟩) ha hb (uh _)
theorem Hc (hu:X.A.units + 64 < cLine) (ha:ED Γ X a ta) (hb:ED Γ X b tb):ET Γ X (.Compare a [.NotEq] [b] pos) (tBo (d2 sNeF ta tb)) :=
 um (Ko hu) (fun H O x y vx vy φ Q ho hx hy h k=>⟨x,y,hx.rep0,hy.rep0,h.1,h.2.1,k _ _ H (Same.refl H) (by exact rfl) h.2.2⟩) ha hb (uh _)
end
end DL
namespace DL
open PySem PySem.Spec L2 L3
open PyProof.Rows hiding St
theorem Ha {P:Program} {w:World} {K:W.Frag} {mg:Str->Option Value} {base:Heap} {k:Nat} {x:Str} {ps:List Str} {T:FTX} {T':FT} (F:FX P w K mg base k x ps T) (h:∀ ds φ,T' ds φ->T ds φ fun _=>False):FD P w K mg base k x ps T':=by
 obtain ⟨f,fd,ok,b,kp,m⟩:=F.ex
 refine ⟨f,fd,⟨fun vs H Q E hs=>?_,fun A outer s H args us vs Q E hr he hb hv hs=>?_⟩,b,kp,m⟩
 ·obtain ⟨ds,φ,hl,hR,hT,kk⟩:=hs
  exact ok.len vs H Q (fun _ _ _=>False) ⟨ds,φ,fun _=>False,hl,hR,h _ _ hT,kk,fun _ _ _ z=>z.elim⟩
 ·obtain ⟨ds,φ,hl,hR,hT,kk⟩:=hs
  refine codeAny_mono (ok.run A outer s H args us vs Q (fun _ _ _=>False) hr he hb hv ⟨ds,φ,fun _=>False,hl,hR,h _ _ hT,kk,fun _ _ _ z=>z.elim⟩) fun r s' q=>?_
  match r,q with
  | .ok (.ret u),q=>exact q
  | .error e,q =>
   obtain ⟨_,_,_,_,_,_,_,_,_,_,z⟩:=q
   exact z.elim
structure Gt (H H':Hp):Prop where
 tups:∀ b xs,H b=some (.tup xs)->H' b=some (.tup xs)
 frzs:∀ b o u,H b=some (.frz o u)->H' b=some (.frz o u)
theorem Gt.trans {H H1 H2:Hp} (a:Gt H H1) (b:Gt H1 H2):Gt H H2:=⟨fun c xs h=>b.tups c xs (a.tups c xs h),fun c o u h=>b.frzs c o u (a.frzs c o u h)⟩
theorem Gt.same {H H':Hp} (s:Same H H'):Gt H H':=⟨fun b xs h=>s b _ h,fun b o u h=>s b _ h⟩
section
variable {K:W.Frag} {H H':Hp} {O O':List Addr}
theorem Vf {a:Addr} {xs:List V} (g:Gt H H') (h:SqR K H a xs):SqR K H' a xs:=by
 refine ⟨?_,g.tups _ _ h.2⟩
 rcases h.1 with (h | ⟨o,h⟩) | h
 ·exact .inl (.inl (g.tups _ _ h))
 ·exact .inl (.inr ⟨o,g.frzs _ _ _ h⟩)
 ·exact .inr h
theorem P7 {a:Addr} {ns:List Int} (g:Gt H H') (h:Scr K H a ns):Scr K H' a ns:=by
 rcases h with ⟨o,h⟩ | h
 ·exact .inl ⟨o,g.frzs _ _ _ h⟩
 ·exact .inr h
theorem Hl {a:Addr} {rs:List (List Int × Int)} (g:Gt H H') (h:Dz H a rs):Dz H' a rs:=⟨let ⟨o,q⟩:=h.1; ⟨o,g.frzs _ _ _ q⟩,h.2⟩
mutual
theorem Rep.keep (g:Gt H H'):∀ (d:D) (v:V),ym d->Rep K H O d v->Rep K H' O' d v
 | .non,_,_,h=>h
 | .bl _,_,_,h=>h
 | .int _,_,_,h=>h
 | .str _,_,_,h=>h
 | .ty _,_,_,h=>h
 | .cn _,_,_,h=>h
 | .tup ds,v,p,h=>by
  obtain ⟨a,xs,e,q,r⟩:=h
  exact ⟨a,xs,e,Vf g q,Reps.keep g ds xs p r⟩
 | .scr ns,v,_,h=>by
  obtain ⟨a,e,q⟩:=h
  exact ⟨a,e,P7 g q⟩
 | .dz rs,v,_,h=>by
  obtain ⟨a,e,q⟩:=h
  exact ⟨a,e,Hl g q⟩
 | .exc _,_,p,_=>p.elim
 | .fd _,_,p,_=>p.elim
 | .lst ds,v,p,h=>p.elim
 | .dk ks ds,v,p,h=>p.elim
 | .dt ks ds,v,p,h=>p.elim
 | .ob C ns ds,v,p,h=>p.elim
theorem Reps.keep (g:Gt H H'):∀ (ds:List D) (xs:List V),y7 ds->Reps K H O ds xs->Reps K H' O' ds xs
 | [],_,_,h=>h
 | d :: ds,xs,p,h=>by
  obtain ⟨v,r,e,q,t⟩:=h
  exact ⟨v,r,e,Rep.keep g d v p.1 q,Reps.keep g ds r p.2 t⟩
end
end
mutual
noncomputable def Ft (K:W.Frag) (H:Hp):D->V->List Addr->Prop
 | .lst ds,v,A=>∃ a xs B,v=.ref a /\ H a=some (.lst xs) /\ A=a :: B /\ Fts K H ds xs B
 | .dk ks ds,v,A=>∃ a xs B,v=.ref a /\ H a=some (.dK (ks.zip xs)) /\ ks.length=ds.length /\ ks.Nodup /\ A=a :: B /\ Fts K H ds xs B
 | .tup ds,v,A=>∃ a xs,v=.ref a /\ SqR K H a xs /\ Fts K H ds xs A
 | .non,v,A=>A=[] /\ v=.non
 | .bl b,v,A=>A=[] /\ v=.bl b
 | .int i,v,A=>A=[] /\ v=.int i
 | .str x,v,A=>A=[] /\ v=.str x
 | .ty n,v,A=>A=[] /\ v=.ty n
 | .cn c,v,A=>A=[] /\ CRep K c v
 | .scr ns,v,A=>A=[] /\ ∃ a,v=.ref a /\ Scr K H a ns
 | .dz rs,v,A=>A=[] /\ ∃ a,v=.ref a /\ Dz H a rs
 | .exc _,_,_=>False
 | .fd _,_,_=>False
 | .dt _ _,_,_=>False
 | .ob C ns ds,v,A=>∃ a dx xs B,v=.ref a /\ H a=some (.ins C dx (ns.zip xs)) /\ ns.length=ds.length /\ ns.Nodup /\ A=a :: B /\ Fts K H ds xs B
noncomputable def Fts (K:W.Frag) (H:Hp):List D->List V->List Addr->Prop
 | [],xs,A=>xs=[] /\ A=[]
 | d :: ds,xs,A=>∃ v r B C,xs=v :: r /\ A=B ++ C /\ Ft K H d v B /\ Fts K H ds r C
end
section
variable {K:W.Frag} {H H':Hp} {O:List Addr}
mutual
theorem Ft.keep (g:Gt H H'):∀ (d:D) (v:V) (A:List Addr),(∀ a ∈ A,∀ u,H a=some u->H' a=some u)->Ft K H d v A->Ft K H' d v A
 | .lst ds,v,A,k,h=>by
  obtain ⟨a,xs,B,e,q,rfl,r⟩:=h
  exact ⟨a,xs,B,e,k a List.mem_cons_self _ q,rfl,Fts.keep g ds xs B (fun b hb=>k b (List.mem_cons_of_mem _ hb)) r⟩
 | .dk ks ds,v,A,k,h=>by
  obtain ⟨a,xs,B,e,q,l,n,rfl,r⟩:=h
  exact ⟨a,xs,B,e,k a List.mem_cons_self _ q,l,n,rfl,Fts.keep g ds xs B (fun b hb=>k b (List.mem_cons_of_mem _ hb)) r⟩
 | .tup ds,v,A,k,h=>by
  obtain ⟨a,xs,e,q,r⟩:=h
  exact ⟨a,xs,e,Vf g q,Fts.keep g ds xs A k r⟩
 | .non,_,_,_,h=>h
 | .bl _,_,_,_,h=>h
 | .int _,_,_,_,h=>h
 | .str _,_,_,_,h=>h
 | .ty _,_,_,_,h=>h
 | .cn _,_,_,_,h=>h
 | .scr ns,v,A,_,h=>by
  obtain ⟨e,a,e2,q⟩:=h
  exact ⟨e,a,e2,P7 g q⟩
 | .dz rs,v,A,_,h=>by
  obtain ⟨e,a,e2,q⟩:=h
  exact ⟨e,a,e2,Hl g q⟩
 | .exc _,_,_,_,h=>h.elim
 | .fd _,_,_,_,h=>h.elim
 | .dt _ _,_,_,_,h=>h.elim
 | .ob C ns ds,v,A,k,h=>by
  obtain ⟨a,dx,xs,B,e,q,l,n,rfl,r⟩:=h
  exact ⟨a,dx,xs,B,e,k a List.mem_cons_self _ q,l,n,rfl,Fts.keep g ds xs B (fun b hb=>k b (List.mem_cons_of_mem _ hb)) r⟩
theorem Fts.keep (g:Gt H H'):∀ (ds:List D) (xs:List V) (A:List Addr),(∀ a ∈ A,∀ u,H a=some u->H' a=some u)->Fts K H ds xs A->Fts K H' ds xs A
 | [],_,_,_,h=>h
 | d :: ds,xs,A,k,h=>by
  obtain ⟨v,r,B,C,e,rfl,q,t⟩:=h
  exact ⟨v,r,B,C,e,rfl,Ft.keep g d v B (fun b hb=>k b (List.mem_append_left _ hb)) q,Fts.keep g ds r C (fun b hb=>k b (List.mem_append_right _ hb)) t⟩
end
mutual
theorem Ft.rep:∀ (d:D) (v:V) (A:List Addr),(∀ a ∈ A,a ∉ O)->Ft K H d v A->Rep K H O d v
 | .lst ds,v,A,k,h=>by
  obtain ⟨a,xs,B,e,q,rfl,r⟩:=h
  exact ⟨a,xs,e,q,k a List.mem_cons_self,Fts.reps ds xs B (fun b hb=>k b (List.mem_cons_of_mem _ hb)) r⟩
 | .dk ks ds,v,A,k,h=>by
  obtain ⟨a,xs,B,e,q,l,n,rfl,r⟩:=h
  exact ⟨a,xs,e,q,k a List.mem_cons_self,l,n,Fts.reps ds xs B (fun b hb=>k b (List.mem_cons_of_mem _ hb)) r⟩
 | .tup ds,v,A,k,h=>by
  obtain ⟨a,xs,e,q,r⟩:=h
  exact ⟨a,xs,e,q,Fts.reps ds xs A k r⟩
 | .non,_,_,_,h=>h.2
 | .bl _,_,_,_,h=>h.2
 | .int _,_,_,_,h=>h.2
 | .str _,_,_,_,h=>h.2
 | .ty _,_,_,_,h=>h.2
 | .cn _,_,_,_,h=>h.2
 | .scr ns,v,A,_,h=>h.2
 | .dz rs,v,A,_,h=>h.2
 | .exc _,_,_,_,h=>h.elim
 | .fd _,_,_,_,h=>h.elim
 | .dt _ _,_,_,_,h=>h.elim
 | .ob C ns ds,v,A,k,h=>by
  obtain ⟨a,dx,xs,B,e,q,l,n,rfl,r⟩:=h
  exact ⟨a,dx,xs,e,q,k a List.mem_cons_self,l,n,Fts.reps ds xs B (fun b hb=>k b (List.mem_cons_of_mem _ hb)) r⟩
theorem Fts.reps:∀ (ds:List D) (xs:List V) (A:List Addr),(∀ a ∈ A,a ∉ O)->Fts K H ds xs A->Reps K H O ds xs
 | [],_,_,_,h=>h.1
 | d :: ds,xs,A,k,h=>by
  obtain ⟨v,r,B,C,e,rfl,q,t⟩:=h
  exact ⟨v,r,e,Ft.rep d v B (fun b hb=>k b (List.mem_append_left _ hb)) q,Fts.reps ds r C (fun b hb=>k b (List.mem_append_right _ hb)) t⟩
end
mutual
theorem Ft.dom:∀ (d:D) (v:V) (A:List Addr),Ft K H d v A->∀ a ∈ A,∃ u,H a=some u /\ (∀ xs,u ≠ .tup xs) /\ ∀ ob w,u ≠ .frz ob w
 | .lst ds,v,A,h=>by
  obtain ⟨a,xs,B,e,q,rfl,r⟩:=h
  intro b hb
  rcases List.mem_cons.mp hb with rfl | hb
  ·exact ⟨_,q,(fun _ z=>by cases z),fun _ _ z=>by cases z⟩
  ·exact Fts.dom ds xs B r b hb
 | .dk ks ds,v,A,h=>by
  obtain ⟨a,xs,B,e,q,l,n,rfl,r⟩:=h
  intro b hb
  rcases List.mem_cons.mp hb with rfl | hb
  ·exact ⟨_,q,(fun _ z=>by cases z),fun _ _ z=>by cases z⟩
  ·exact Fts.dom ds xs B r b hb
 | .tup ds,v,A,h=>by
  obtain ⟨a,xs,e,q,r⟩:=h
  exact Fts.dom ds xs A r
 | .non,_,_,h=>by obtain ⟨rfl,_⟩:=h; intro a ha; cases ha
 | .bl _,_,_,h=>by obtain ⟨rfl,_⟩:=h; intro a ha; cases ha
 | .int _,_,_,h=>by obtain ⟨rfl,_⟩:=h; intro a ha; cases ha
 | .str _,_,_,h=>by obtain ⟨rfl,_⟩:=h; intro a ha; cases ha
 | .ty _,_,_,h=>by obtain ⟨rfl,_⟩:=h; intro a ha; cases ha
 | .cn _,_,_,h=>by obtain ⟨rfl,_⟩:=h; intro a ha; cases ha
 | .scr _,_,_,h=>by obtain ⟨rfl,_⟩:=h; intro a ha; cases ha
 | .dz _,_,_,h=>by obtain ⟨rfl,_⟩:=h; intro a ha; cases ha
 | .exc _,_,_,h=>h.elim
 | .fd _,_,_,h=>h.elim
 | .dt _ _,_,_,h=>h.elim
 | .ob C ns ds,v,A,h=>by
  obtain ⟨a,dx,xs,B,e,q,l,n,rfl,r⟩:=h
  intro b hb
  rcases List.mem_cons.mp hb with rfl | hb
  ·exact ⟨_,q,(fun _ z=>by cases z),fun _ _ z=>by cases z⟩
  ·exact Fts.dom ds xs B r b hb
theorem Fts.dom:∀ (ds:List D) (xs:List V) (A:List Addr),Fts K H ds xs A->∀ a ∈ A,∃ u,H a=some u /\ (∀ xs,u ≠ .tup xs) /\ ∀ ob w,u ≠ .frz ob w
 | [],_,_,h=>by obtain ⟨_,rfl⟩:=h; intro a ha; cases ha
 | d :: ds,xs,A,h=>by
  obtain ⟨v,r,B,C,e,rfl,q,t⟩:=h
  intro b hb
  rcases List.mem_append.mp hb with hb | hb
  ·exact Ft.dom d v B q b hb
  ·exact Fts.dom ds r C t b hb
end
mutual
theorem Rep.ft:∀ (d:D) (v:V),ym d->Rep K H O d v->Ft K H d v []
 | .non,_,_,h=>⟨rfl,h⟩
 | .bl _,_,_,h=>⟨rfl,h⟩
 | .int _,_,_,h=>⟨rfl,h⟩
 | .str _,_,_,h=>⟨rfl,h⟩
 | .ty _,_,_,h=>⟨rfl,h⟩
 | .cn _,_,_,h=>⟨rfl,h⟩
 | .tup ds,v,p,h=>by
  obtain ⟨a,xs,e,q,r⟩:=h
  exact ⟨a,xs,e,q,Reps.fts ds xs p r⟩
 | .scr ns,v,_,h=>⟨rfl,h⟩
 | .dz rs,v,_,h=>⟨rfl,h⟩
 | .exc _,_,p,_=>p.elim
 | .fd _,_,p,_=>p.elim
 | .lst ds,v,p,h=>p.elim
 | .dk ks ds,v,p,h=>p.elim
 | .dt ks ds,v,p,h=>p.elim
 | .ob C ns ds,v,p,h=>p.elim
theorem Reps.fts:∀ (ds:List D) (xs:List V),y7 ds->Reps K H O ds xs->Fts K H ds xs []
 | [],_,_,h=>⟨h,rfl⟩
 | d :: ds,xs,p,h=>by
  obtain ⟨v,r,e,q,t⟩:=h
  exact ⟨v,r,[],[],e,rfl,Rep.ft d v p.1 q,Reps.fts ds r p.2 t⟩
end
end
noncomputable def hid:Nat->DE->DE
 | _,[]=>[]
 | 0,_ :: ρ=>none :: ρ
 | l + 1,x :: ρ=>x :: hid l ρ
theorem vq:∀ (l:Nat) (ρ:DE),hid l ρ=ρ.set l none
 | _,[]=>by cases ‹Nat› <;> rfl
 | 0,_ :: _=>rfl
 | l + 1,x :: ρ=>by rw [hid,vq l ρ,List.set_cons_succ]
theorem fv {l i:Nat} {ρ:DE} {r:EV} (h:(hid l ρ)[i]?=some (some r)):i ≠ l /\ ρ[i]?=some (some r):=by
 rw [vq] at h
 by_cases e:i=l
 ·subst e
  rcases Nat.lt_or_ge i ρ.length with z | z
  ·rw [List.getElem?_set_self z] at h; cases h
  ·rw [List.getElem?_eq_none (by rw [List.length_set]; exact z)] at h; cases h
 ·rw [List.getElem?_set_ne (Ne.symm e)] at h
  exact ⟨e,h⟩
theorem Jq {l i:Nat} {ρ:DE} (h:i ≠ l):(hid l ρ)[i]?=ρ[i]?:=by
 rw [vq,List.getElem?_set_ne (Ne.symm h)]
theorem fu (l:Nat) (ρ:DE) (x:EV):hid l (setS ρ l x)=hid l ρ:=by
 rw [vq,vq,xa,List.set_set]
theorem t5 {l j:Nat} (ρ:DE) (x:EV) (h:j ≠ l):hid l (setS ρ j x)=setS (hid l ρ) j x:=by
 rw [vq,vq,xa,xa,List.set_comm _ _ h]
noncomputable def tg (l:Nat) (A:List Addr):List (Nat × Addr):=A.map fun a=>(l,a)
theorem Mt (l:Nat) (A:List Addr):(tg l A).map Prod.snd=A:=by
 unfold tg
 rw [List.map_map]
 exact List.map_id A
theorem xb (o:List (Nat × Addr)) (l:Nat) (A:List Addr):(o ++ tg l A).map Prod.snd=o.map Prod.snd ++ A:=by
 rw [zMa,Mt]
structure ST (K:W.Frag) (H₀ H:Hp) (σ:St) (ρ:DE) (o:List (Nat × Addr)) (l:Nat) (A:List Addr) (d:D) (v:V):Prop where
 Q:REnv K H₀ H σ (hid l ρ) (o ++ tg l A)
 hd:ρ[l]?=some (some (dv d))
 hv:σ[l]?=some (some v)
 ft:Ft K H d v A
section
variable {K:W.Frag} {H₀ H H':Hp} {σ:St} {ρ:DE} {o:List (Nat × Addr)} {l:Nat} {A A':List Addr} {d d':D} {v:V}
theorem ST.lt (S:ST K H₀ H σ ρ o l A d v):l < ρ.length:=(List.getElem?_eq_some_iff.mp S.hd).1
theorem ST.ndA (S:ST K H₀ H σ ρ o l A d v):A.Nodup:=by
 have:=S.Q.nda
 rw [xb] at this
 exact (List.nodup_append.mp this).2.1
theorem ST.dis (S:ST K H₀ H σ ρ o l A d v):∀ a ∈ A,a ∉ o.map Prod.snd:=fun a ha hb=>by
 have:=S.Q.nda
 rw [xb] at this
 exact (List.nodup_append.mp this).2.2 a hb a ha rfl
theorem ST.frA (S:ST K H₀ H σ ρ o l A d v):∀ a ∈ A,H₀ a=none:=fun a ha=>S.Q.fresh (l,a) (List.mem_append_right _ (List.mem_map.mpr ⟨a,ha,rfl⟩))
theorem Kz {i l:Nat} {a:Addr} (h:(i,a) ∈ o ++ tg l A) (hi:i ≠ l):(i,a) ∈ o:=by
 rcases List.mem_append.mp h with h | h
 ·exact h
 ·obtain ⟨b,_,e⟩:=List.mem_map.mp h
  cases e
  exact absurd rfl hi
theorem ST.R (S:ST K H₀ H σ ρ o l A d v):REnv K H₀ H σ ρ o where
 same:=S.Q.same
 fresh:=fun p hp=>S.Q.fresh p (List.mem_append_left _ hp)
 trk:=fun p hp=>S.Q.trk p (List.mem_append_left _ hp)
 mtb:=fun p hp=>S.Q.mtb p (List.mem_append_left _ hp)
 nda:=by
  have:=S.Q.nda
  rw [xb] at this
  exact (List.nodup_append.mp this).1
 len:=by
  have:=S.Q.len
  rw [vq,List.length_set] at this
  exact this
 slots:=fun i r e=>by
  by_cases hi:i=l
  ·subst hi
   rw [S.hd] at e
   cases e
   exact ⟨v,S.hv,.inl ⟨rfl,Ft.rep _ _ _ S.dis S.ft⟩⟩
  ·obtain ⟨w,ew,q⟩:=S.Q.slots i r (by rw [Jq hi]; exact e)
   rw [xb] at q
   have sub:∀ a ∈ o.map Prod.snd,a ∈ o.map Prod.snd ++ A:=fun a ha=>List.mem_append_left _ ha
   refine ⟨w,ew,?_⟩
   rcases q with ⟨k,q⟩ | ⟨k,a,e1,m,c⟩
   ·exact .inl ⟨k,Rep.sub sub _ _ q⟩
   ·exact .inr ⟨k,a,e1,Kz m hi,c.sub sub⟩
theorem ST.to (S:ST K H₀ H σ ρ o l A d v) (s:Same H H'):ST K H₀ H' σ ρ o l A d v :=
 ⟨S.Q.to s,S.hd,S.hv,Ft.keep (Gt.same s) _ _ _ (fun a _ u h=>s a u h) S.ft⟩
theorem Grow.gt {O O':List Addr} (g:Grow O O' H H'):Gt H H':=⟨g.tups,g.frzs⟩
theorem ST.chg (S:ST K H₀ H σ ρ o l A d v) (g:Grow A A' H H') (ft:Ft K H' d' v A') (nd:A'.Nodup) (fr:∀ a ∈ A',a ∈ A \/ H a=none) :
  ST K H₀ H' σ (setS ρ l (dv d')) o l A' d' v:=by
 have hl:=S.lt
 have gO:Grow ((o ++ tg l A).map Prod.snd) ((o ++ tg l A').map Prod.snd) H H':=by
  rw [xb,xb]
  exact ⟨fun b u h n=>⟨(g.keep b u h fun z=>n (List.mem_append_right _ z)).1,fun z=>(List.mem_append.mp z).elim (fun z=>n (List.mem_append_left _ z)) (g.keep b u h fun z=>n (List.mem_append_right _ z)).2⟩,g.tups,g.frzs⟩
 have ko:∀ p ∈ o,p.2 ∉ A:=fun p hp z=>S.dis _ z (List.mem_map.mpr ⟨p,hp,rfl⟩)
 refine ⟨⟨fun b u h=>?_,fun p hp=>?_,fun p hp=>?_,fun p hp=>?_,?_,fun i r e=>?_,?_⟩,?_,S.hv,ft⟩
 ·refine (g.keep b u (S.Q.same b u h) fun z=>?_).1
  rw [S.frA b z] at h
  cases h
 ·rcases List.mem_append.mp hp with hp | hp
  ·exact S.Q.fresh p (List.mem_append_left _ hp)
  ·obtain ⟨a,ha,rfl⟩:=List.mem_map.mp hp
   rcases fr a ha with h | h
   ·exact S.frA a h
   ·exact S.Q.same.free h
 ·rcases List.mem_append.mp hp with hp | hp
  ·obtain ⟨u,e⟩:=S.Q.trk p (List.mem_append_left _ hp)
   exact ⟨u,(g.keep _ _ e (ko p hp)).1⟩
  ·obtain ⟨a,ha,rfl⟩:=List.mem_map.mp hp
   obtain ⟨u,hu,_⟩:=Ft.dom _ _ _ ft a ha
   exact ⟨u,hu⟩
 ·rcases List.mem_append.mp hp with hp | hp
  ·obtain ⟨u,e⟩:=S.Q.trk p (List.mem_append_left _ hp)
   obtain ⟨m1,m2⟩:=S.Q.mtb p (List.mem_append_left _ hp)
   have e':=(g.keep _ _ e (ko p hp)).1
   refine ⟨fun xs z=>?_,fun ob w z=>?_⟩
   ·rw [e'] at z; rw [<- e] at z; exact m1 xs z
   ·rw [e'] at z; rw [<- e] at z; exact m2 ob w z
  ·obtain ⟨a,ha,rfl⟩:=List.mem_map.mp hp
   obtain ⟨u,hu,n1,n2⟩:=Ft.dom _ _ _ ft a ha
   refine ⟨fun xs z=>?_,fun ob w z=>?_⟩
   ·rw [hu] at z; cases z; exact n1 _ rfl
   ·rw [hu] at z; cases z; exact n2 _ _ rfl
 ·rw [xb,List.nodup_append]
  refine ⟨S.R.nda,nd,fun a ha b hb e=>?_⟩
  subst e
  rcases fr a hb with h | h
  ·exact S.dis a h ha
  ·exact S.R.ofree h ha
 ·rw [fu] at e
  obtain ⟨hi,_⟩:=fv e
  obtain ⟨w,ew,q⟩:=S.Q.slots i r e
  refine ⟨w,ew,?_⟩
  rcases q with ⟨k,q⟩ | ⟨k,a,e1,m,c⟩
  ·exact .inl ⟨k,Rep.grow gO _ _ q⟩
  ·have m':=Kz m hi
   exact .inr ⟨k,a,e1,List.mem_append_left _ m',c.grow (fun u h=>(g.keep _ _ h (ko _ m')).1) gO⟩
 ·rw [fu]; exact S.Q.len
 ·rw [xa,List.getElem?_set_self hl]
theorem REnv.putX (R:REnv K H₀ H σ ρ o) (s:Same H H') (i:Nat) {r:EV} {v:V} (h:RV K H H' (o.map Prod.snd) r v) (hk:r.k ≠ .own) :
  ∃ pre,REnv K H₀ H' (σ.set i (some v)) (setS ρ i r.sto) (pre ++ o):=by
 obtain ⟨k,d⟩:=r
 cases k with
 | val=>exact ⟨[],(R.to s).setV i h⟩
 | own=>exact absurd rfl hk
 | fre =>
  obtain ⟨a,rfl,m,n,c⟩:=h
  exact ⟨[(i,a)],(R.setO s i m c).1⟩
 | new=>exact ⟨[],(R.to s).setV i (RepN.rep (fun a z=>z.1) _ _ h)⟩
theorem ST.set (S:ST K H₀ H σ ρ o l A d v) (s:Same H H') {j:Nat} {r:EV} {w:V} (hj:j ≠ l) (h:RV K H H' ((o ++ tg l A).map Prod.snd) r w) (hk:r.k ≠ .own) :
  ∃ o',ST K H₀ H' (σ.set j (some w)) (setS ρ j r.sto) o' l A d v:=by
 obtain ⟨pre,R'⟩:=S.Q.putX s j h hk
 refine ⟨pre ++ o,⟨?_,?_,?_,(S.to s).ft⟩⟩
 ·rw [t5 _ _ hj,List.append_assoc]; exact R'
 ·rw [xa,List.getElem?_set_ne hj]; exact S.hd
 ·rw [List.getElem?_set_ne hj]; exact S.hv
theorem ST.setP (S:ST K H₀ H σ ρ o l A d v) {j:Nat} {e:D} {w:V} (hj:j ≠ l) (pe:ym e) (h:Rep K H [] e w):ST K H₀ H (σ.set j (some w)) (setS ρ j (dv e)) o l A d v:=by
 refine ⟨?_,?_,?_,S.ft⟩
 ·rw [t5 _ _ hj]; exact S.Q.setV j (Rep.pure _ _ pe h)
 ·rw [xa,List.getElem?_set_ne hj]; exact S.hd
 ·rw [List.getElem?_set_ne hj]; exact S.hv
end
noncomputable abbrev TQ:=DE->(D->DE->Prop)->Prop
noncomputable abbrev TQs:=DE->(List D->DE->Prop)->Prop
noncomputable abbrev TQb:=DE->(Bool->DE->Prop)->Prop
structure QZ where
 nx:DE->Prop
 rt:D->DE->Prop
 bk:DE->Prop:=fun _=>False
 ct:DE->Prop:=fun _=>False
noncomputable abbrev TQS:=DE->QZ->Prop
noncomputable def J3 (K:W.Frag) (H₀:Hp) (l:Nat) (t:TQ):TE:=fun σ H Q=>∃ ρ o A d v,ST K H₀ H σ ρ o l A d v /\ ∃ φ,t ρ φ /\ ∀ u e ρ' H' A' d',Grow A A' H H'->ST K H₀ H' σ ρ' o l A' d' v->ym e->Rep K H' [] e u->φ e ρ'->Q u H'
noncomputable def J1 (K:W.Frag) (H₀:Hp) (l:Nat) (t:TQb):TT:=fun σ H Q=>∃ ρ o A d v,ST K H₀ H σ ρ o l A d v /\ ∃ φ,t ρ φ /\ ∀ b ρ' H' A' d',Grow A A' H H'->ST K H₀ H' σ ρ' o l A' d' v->φ b ρ'->Q b H'
noncomputable def Ph (K:W.Frag) (H₀:Hp) (l:Nat) (t:TQs):TA:=fun σ H Q=>∃ ρ o A d v,ST K H₀ H σ ρ o l A d v /\ ∃ φ,t ρ φ /\ ∀ us es ρ' H' A' d',Grow A A' H H'->ST K H₀ H' σ ρ' o l A' d' v->Reps K H' (o.map Prod.snd ++ A') es us->φ es ρ'->Q us H'
noncomputable def Ug (K:W.Frag) (H₀:Hp) (l:Nat) (t:TQS):TS:=fun Dz σ H=>∃ ρ o A d v,ST K H₀ H σ ρ o l A d v /\ ∃ Z,t ρ Z /\
 (∀ ρ' σ' H' o' A' d',ST K H₀ H' σ' ρ' o' l A' d' v->Z.nx ρ'->Dz.nx σ' H') /\
 (∀ ρ' σ' H' o' A' d',ST K H₀ H' σ' ρ' o' l A' d' v->Z.bk ρ'->Dz.bk σ' H') /\
 (∀ ρ' σ' H' o' A' d',ST K H₀ H' σ' ρ' o' l A' d' v->Z.ct ρ'->Dz.ct σ' H') /\
 (∀ u e ρ' σ' H' o' A' d',ST K H₀ H' σ' ρ' o' l A' d' v->ym e->Rep K H' [] e u->Z.rt e ρ'->Dz.rt u H')
noncomputable def EQ (G:Hp->Prop) (l:Nat) (X:Cx) (e:Expr) (t:TQ):Prop:=∀ H₀:{H:Hp // G H},PE X e (J3 X.K H₀.1 l t)
noncomputable def QT (G:Hp->Prop) (l:Nat) (X:Cx) (e:Expr) (t:TQb):Prop:=∀ H₀:{H:Hp // G H},PT X e (J1 X.K H₀.1 l t)
noncomputable def QA (G:Hp->Prop) (l:Nat) (X:Cx) (es:List Expr) (t:TQs):Prop:=∀ H₀:{H:Hp // G H},PA X es (Ph X.K H₀.1 l t)
noncomputable def QS (G:Hp->Prop) (l:Nat) (X:Cx) (st:Stmt) (t:TQS):Prop:=∀ H₀:{H:Hp // G H},PS X st (Ug X.K H₀.1 l t)
noncomputable def QSs (G:Hp->Prop) (l:Nat) (X:Cx) (st:List Stmt) (t:TQS):Prop:=∀ H₀:{H:Hp // G H},PSs X st (Ug X.K H₀.1 l t)
theorem w6:∀ {ρ:DE} {i:Nat} {r:EV},ρ[i]?=some (some r)->slot ρ i=some r
 | [],_,_,h=>by cases h
 | _ :: _,0,_,h=>Option.some.inj h
 | _ :: ρ,i + 1,r,h=>w6 (ρ:=ρ) (i:=i) (by simpa using h)
variable {Γ:Hp->Prop} {l:Nat}
section
variable {X:Cx} {e:Expr} {es:List Expr} {pos:Pos}
noncomputable def qE (te:TD):TQ:=fun ρ φ=>te ρ fun r=>ym r.d /\ φ r.d ρ
theorem Tb {te:TD} (h:ED Γ X e te):EQ Γ l X e (qE te):=fun H₀=>impE (h H₀) fun σ H Q q=>by
 obtain ⟨ρ,o,A,d,v,S,φ,hφ,k⟩:=q
 exact ⟨ρ,o,S.R,_,hφ,fun u r H1 s1 rv h1=>k u r.d ρ H1 A d (Grow.same s1) (S.to s1) h1.1 rv.view.rep0 h1.2⟩
noncomputable def qT (tc:TDb):TQb:=fun ρ φ=>tc ρ fun b=>φ b ρ
theorem sr {tc:TDb} (h:ET Γ X e tc):QT Γ l X e (qT tc):=fun H₀=>impT (h H₀) fun σ H Q q=>by
 obtain ⟨ρ,o,A,d,v,S,φ,hφ,k⟩:=q
 exact ⟨ρ,o,S.R,_,hφ,fun b H1 s1 h1=>k b ρ H1 A d (Grow.same s1) (S.to s1) h1⟩
noncomputable def qB (te:TQ):TQb:=fun ρ φ=>te ρ fun d ρ1=>match d with
 | .bl b=>φ b ρ1
 | _=>False
theorem Ls {te:TQ} (h:EQ Γ l X e te) (he:∀ whole,isTrue e X.env whole=(do let v <- whole; standAt e.pos; holding [v] (truthy v)):=by intro _; rfl):QT Γ l X e (qB te):=fun H₀=>impT (K4 (h H₀) he) fun σ H Q q=>by
 obtain ⟨ρ,o,A,d,v,S,φ,hφ,k⟩:=q
 refine ⟨ρ,o,A,d,v,S,_,hφ,fun u r ρ1 H1 A1 d1 g S1 pr rr h1=>?_⟩
 cases r with
 | bl b =>
  cases (show u=_ from rr)
  exact ⟨b,rfl,k b ρ1 H1 A1 d1 g S1 h1⟩
 | _=>exact h1.elim
theorem Grow.add {H H':Hp} {O A A':List Addr} (g:Grow A A' H H'):Grow (O ++ A) (O ++ A') H H' :=
 ⟨fun b u h n=>⟨(g.keep b u h fun z=>n (List.mem_append_right _ z)).1,fun z=>(List.mem_append.mp z).elim (fun z=>n (List.mem_append_left _ z)) (g.keep b u h fun z=>n (List.mem_append_right _ z)).2⟩,g.tups,g.frzs⟩
noncomputable def Og:TQs:=fun ρ φ=>φ [] ρ
theorem Xa:QA Γ l X [] Og:=fun H₀=>impA u9 fun σ H Q q=>by
 obtain ⟨ρ,o,A,d,v,S,φ,hφ,k⟩:=q
 exact k [] [] ρ H A d Grow.refl S rfl hφ
noncomputable def Vp (te:TD) (tr:TQs):TQs:=fun ρ φ=>te (hid l ρ) fun r=>(match r.k with | .own=>False | _=>True) /\ tr ρ fun ds ρ2=>φ (r.d :: ds) ρ2
theorem u4 {te:TD} {tr:TQs} (he:ED Γ X e te) (hr:QA Γ l X es tr) (hs:starEach (e :: es) X.env=(false,eval e X.env) :: starEach es X.env:=by rfl):QA Γ l X (e :: es) (Vp (l:=l) te tr):=fun H₀=>impA (w8 (he H₀) (hr H₀) hs) fun σ H Q q=>by
 obtain ⟨ρ,o,A,d,v,S,φ,hφ,k⟩:=q
 refine ⟨hid l ρ,_,S.Q,_,hφ,fun u r H1 s1 rv h1=>⟨ρ,o,A,d,v,S.to s1,_,h1.2,fun us rs ρ2 H2 A2 d2 g2 S2 rrs h2=>?_⟩⟩
 have rr:=rv.solid (v3 h1.1)
 rw [xb] at rr
 exact k (u :: us) (r.d :: rs) ρ2 H2 A2 d2 ((Grow.same s1).trans g2) S2 ⟨u,us,rfl,Rep.grow g2.add _ _ rr,rrs⟩ h2
end
section
variable {X:Cx} {e c:Expr} {st:Stmt} {rest a b:List Stmt} {pos:Pos} {t u:TQS}
noncomputable def qNil:TQS:=fun ρ Z=>Z.nx ρ
noncomputable def qSeq (t u:TQS):TQS:=fun ρ Z=>t ρ { Z with nx:=fun ρ'=>u ρ' Z }
noncomputable def qRet (te:TQ):TQS:=fun ρ Z=>te ρ Z.rt
noncomputable def Lx (te:TQ):TQS:=fun ρ Z=>te ρ fun _ ρ1=>Z.nx ρ1
noncomputable def qIf (tc:TQb) (t u:TQS):TQS:=fun ρ Z=>tc ρ fun b ρ1=>(b=true->t ρ1 Z) /\ (b=false->u ρ1 Z)
noncomputable def qSet (l j:Nat) (te:TD):TQS:=fun ρ Z=>te (hid l ρ) fun r=>(match r.k with | .own=>False | _=>True) /\ Z.nx (setS ρ j r.sto)
noncomputable def Lv (j:Nat) (te:TQ):TQS:=fun ρ Z=>te ρ fun d ρ1=>Z.nx (setS ρ1 j (dv d))
theorem Pd:QSs Γ l X [] qNil:=fun H₀=>fq qe fun Dz σ H h=>by
 obtain ⟨ρ,o,A,d,v,S,Z,hZ,k1,k2,k3,k4⟩:=h
 exact k1 ρ σ H o A d S hZ
theorem yx (h:QS Γ l X st t):QSs Γ l X [st] t:=fun H₀=>qc (h H₀)
theorem yg (h:QS Γ l X st t) (hr:QSs Γ l X rest u):QSs Γ l X (st :: rest) (qSeq t u):=fun H₀=>fq (wt (h H₀) (hr H₀)) fun Dz σ H h=>by
 obtain ⟨ρ,o,A,d,v,S,Z,hZ,k1,k2,k3,k4⟩:=h
 exact ⟨ρ,o,A,d,v,S,_,hZ,fun ρ' σ' H' o' A' d' S' h'=>⟨ρ',o',A',d',v,S',Z,h',k1,k2,k3,k4⟩,k2,k3,k4⟩
theorem Pc {te:TQ} (h:EQ Γ l X e te):QS Γ l X (.Return (some e) pos) (qRet te):=fun H₀=>impS (cz (h H₀)) fun Dz σ H h=>by
 obtain ⟨ρ,o,A,d,v,S,Z,hZ,k1,k2,k3,k4⟩:=h
 exact ⟨ρ,o,A,d,v,S,_,hZ,fun u r ρ1 H1 A1 d1 g S1 pr rr h1=>k4 u r ρ1 σ H1 o A1 d1 S1 pr rr h1⟩
theorem qb {te:TQ} (h:EQ Γ l X e te) (hs:swapsWith e none pos.line X.env=pure false:=by rfl):QS Γ l X (.Expr e pos) (Lx te):=fun H₀=>impS (ue (h H₀) hs) fun Dz σ H h=>by
 obtain ⟨ρ,o,A,d,v,S,Z,hZ,k1,k2,k3,k4⟩:=h
 exact ⟨ρ,o,A,d,v,S,_,hZ,fun u r ρ1 H1 A1 d1 g S1 pr rr h1=>k1 ρ1 σ H1 o A1 d1 S1 h1⟩
theorem rz {tc:TQb} (hc:QT Γ l X c tc) (ha:QSs Γ l X a t) (hb:QSs Γ l X b u):QS Γ l X (.If c a b pos) (qIf tc t u):=fun H₀=>impS (Om (hc H₀) (ha H₀) (hb H₀)) fun Dz σ H h=>by
 obtain ⟨ρ,o,A,d,v,S,Z,hZ,k1,k2,k3,k4⟩:=h
 refine ⟨ρ,o,A,d,v,S,_,hZ,fun b ρ1 H1 A1 d1 g S1 h1=>?_⟩
 cases b with
 | true=>rw [if_pos rfl]; exact ⟨ρ1,o,A1,d1,v,S1,Z,h1.1 rfl,k1,k2,k3,k4⟩
 | false=>rw [if_neg (by decide)]; exact ⟨ρ1,o,A1,d1,v,S1,Z,h1.2 rfl,k1,k2,k3,k4⟩
theorem Pb (j:Nat) {x:Str} {pos':Pos} {te:TD} (hj:j ≠ l) (hN:X.N.Nodup) (he:ED Γ X e te) (hi:X.N[j]?=some x:=by rfl) (hx:Loc X.env.scope x:=by first | exact Or.inl rfl | exact Or.inr rfl) (hs:swapsWith e (some (.Name x pos')) pos.line X.env=pure false:=by rfl)
  (hf:X.fn x=true \/ X.env.scope.names.lookup x=some .local:=by first | exact .inl rfl | exact .inr rfl | assumption):QS Γ l X (.Assign [.Name x pos'] e pos) (qSet l j te):=fun H₀=>impS (qf hN hi hx (he H₀) hs hf) fun Dz σ H h=>by
 obtain ⟨ρ,o,A,d,v,S,Z,hZ,k1,k2,k3,k4⟩:=h
 refine ⟨hid l ρ,_,S.Q,_,hZ,fun w r H1 s1 rv h1=>?_⟩
 obtain ⟨o',S'⟩:=S.set s1 hj rv (v3 h1.1)
 exact k1 _ _ H1 o' A d S' h1.2
theorem Zz (j:Nat) {x:Str} {pos':Pos} {te:TQ} (hj:j ≠ l) (hN:X.N.Nodup) (he:EQ Γ l X e te) (hi:X.N[j]?=some x:=by rfl) (hx:Loc X.env.scope x:=by first | exact Or.inl rfl | exact Or.inr rfl) (hs:swapsWith e (some (.Name x pos')) pos.line X.env=pure false:=by rfl)
  (hf:X.fn x=true \/ X.env.scope.names.lookup x=some .local:=by first | exact .inl rfl | exact .inr rfl | assumption):QS Γ l X (.Assign [.Name x pos'] e pos) (Lv j te):=fun H₀=>impS (qf hN hi hx (he H₀) hs hf) fun Dz σ H h=>by
 obtain ⟨ρ,o,A,d,v,S,Z,hZ,k1,k2,k3,k4⟩:=h
 refine ⟨ρ,o,A,d,v,S,_,hZ,fun w r ρ1 H1 A1 d1 g S1 pr rr h1=>?_⟩
 exact k1 _ _ H1 o A1 d1 (S1.setP hj pr rr) h1
end
noncomputable abbrev FTQ:=D->List D->(D->D->Prop)->Prop
noncomputable def spQ (K:W.Frag) (n:Nat) (T:FTQ):Sp:=fun vs H Q _=>∃ d ds v ws A φ,vs=v :: ws /\ ds.length + 1=n /\ Ft K H d v A /\ A.Nodup /\ Reps K H A ds ws /\ T d ds φ /\
 ∀ u r d' H' A',Grow A A' H H'->Ft K H' d' v A'->A'.Nodup->(∀ a ∈ A',a ∈ A \/ H a=none)->ym r->Rep K H' [] r u->φ r d'->Q u H'
section
variable {P:Program} {w:World} {K:W.Frag} {mg:Str->Option Value} {base:Heap}
noncomputable def xy (A:List Addr) (H:Hp):Hp:=fun b=>if b ∈ A then none else H b
theorem ut {A:List Addr} {H:Hp} {b:Addr} (h:b ∈ A):xy A H b=none:=if_pos h
theorem yq {A:List Addr} {H:Hp} {b:Addr} (h:b ∉ A):xy A H b=H b:=if_neg h
theorem tu (A:List Addr) (H:Hp):Same (xy A H) H:=fun b u h=>by
 by_cases hb:b ∈ A
 ·rw [ut hb] at h; cases h
 ·rw [yq hb] at h; exact h
end
end DL
namespace DL
open PySem PySem.Spec L2 L3
open PyProof.Rows hiding St
variable {Γ:Hp->Prop} {l:Nat}
section
variable {K:W.Frag} {H₀ H H':Hp} {σ:St} {ρ:DE} {o:List (Nat × Addr)} {l:Nat} {A A':List Addr} {d d':D} {v:V}
theorem Sg {a:Addr} {xs ys:List V} (h:H a=some (.lst xs)):Grow [a] [a] H (upd H a (.lst ys)) :=
 ⟨fun b u hb n=>⟨by rw [zj (fun z=>n (by rw [z]; exact List.mem_cons_self))]; exact hb,n⟩,fun b zs hb=>by rw [zj (fun z=>by rw [z,h] at hb; cases hb)]; exact hb,fun b ob u hb=>by rw [zj (fun z=>by rw [z,h] at hb; cases hb)]; exact hb⟩
end
noncomputable def J2 (K:W.Frag) (H₀:Hp) (l:Nat) (t:TQs):TE:=fun σ H Q=>∃ ρ o A d v,ST K H₀ H σ ρ o l A d v /\ ∃ φ,t ρ φ /\
 ∀ a xs es ρ' H' A' d',Grow A A' H H'->ST K H₀ H' σ ρ' o l A' d' v->H' a=some (.lst xs)->a ∉ A'->a ∉ o.map Prod.snd->y7 es->Reps K H' [] es xs->φ es ρ'->Q (.ref a) H'
noncomputable def QL (G:Hp->Prop) (l:Nat) (X:Cx) (e:Expr) (t:TQs):Prop:=∀ H₀:{H:Hp // G H},PE X e (J2 X.K H₀.1 l t)
section
variable {X:Cx} {e:Expr} {te:TD} {st:Stmt} {t u:TQS} {pos:Pos}
noncomputable def qCut (t:TQS):TQS:=fun ρ Z=>∃ J:DE->Prop,t ρ { Z with nx:=J } /\ ∀ ρ',J ρ'->Z.nx ρ'
theorem xc (h:QS Γ l X st t):QS Γ l X st (qCut t):=fun H₀=>impS (h H₀) fun Dz σ H h=>by
 obtain ⟨ρ,o,A,d,v,S,Z,⟨J,hZ,hJ⟩,k1,k2,k3,k4⟩:=h
 exact ⟨ρ,o,A,d,v,S,_,hZ,fun ρ2 σ2 H2 o2 A2 d2 S2 q2=>k1 ρ2 σ2 H2 o2 A2 d2 S2 (hJ ρ2 q2),k2,k3,k4⟩
theorem yc {ρ:DE} {Z:QZ} (J:DE->Prop) (h1:t ρ { Z with nx:=J }) (h2:∀ ρ2,J ρ2->u ρ2 Z):qSeq (qCut t) u ρ Z:=⟨J,h1,h2⟩
end
end DL
namespace DL
open PySem PySem.Spec L2 L3
open PyProof.Rows hiding St
section
variable {K:W.Frag} {H H':Hp}
theorem Fts.length:∀ {ds:List D} {xs:List V} {A:List Addr},Fts K H ds xs A->xs.length=ds.length
 | [],_,_,h=>by rw [h.1]; rfl
 | d :: ds,xs,A,h=>by
  obtain ⟨v,r,B,C,rfl,_,_,t⟩:=h
  simp [Fts.length t]
theorem Fts.foc:∀ {ds:List D} {xs:List V} {A:List Addr} {i:Nat} {d:D},Fts K H ds xs A->ds[i]?=some d->∃ w A1 B C,xs[i]?=some w /\ A=B ++ A1 ++ C /\ Ft K H d w A1 /\
  ∀ H' e A1',Gt H H'->(∀ a ∈ B ++ C,∀ u,H a=some u->H' a=some u)->Ft K H' e w A1'->Fts K H' (ds.set i e) xs (B ++ A1' ++ C)
 | [],_,_,_,_,_,e=>by simp at e
 | d0 :: ds,xs,A,0,d,h,e=>by
  obtain ⟨v,r,B,C,rfl,rfl,q,t⟩:=h
  cases (show d0=d from by simpa using e)
  refine ⟨v,B,[],C,rfl,rfl,q,fun H' e A1' g k f=>⟨v,r,A1',C,rfl,rfl,f,Fts.keep g _ _ _ (fun a ha=>k a ha) t⟩⟩
 | d0 :: ds,xs,A,i + 1,d,h,e=>by
  obtain ⟨v,r,B,C,rfl,rfl,q,t⟩:=h
  obtain ⟨w,A1,B',C',ew,rfl,f,k⟩:=Fts.foc (i:=i) t (by simpa using e)
  refine ⟨w,A1,B ++ B',C',by simpa using ew,by simp,f,fun H' e A1' g kk f'=>⟨v,r,B,B' ++ A1' ++ C',rfl,by simp,Ft.keep g _ _ _ (fun a ha=>kk a (by simp [ha])) q,k H' e A1' g (fun a ha=>kk a (by simp at ha ⊢; rcases ha with ha | ha <;> simp [ha])) f'⟩⟩
theorem Fts.put:∀ {ds:List D} {xs:List V} {A:List Addr} (i:Nat) {e:D} {u:V},Fts K H ds xs A->Ft K H e u []->∃ A',A'.Sublist A /\ Fts K H (ds.set i e) (xs.set i u) A'
 | [],_,_,_,_,_,h,_=>⟨_,List.Sublist.refl _,by obtain ⟨rfl,rfl⟩:=h; exact ⟨rfl,rfl⟩⟩
 | d :: ds,xs,A,0,e,u,h,f=>by
  obtain ⟨v,r,B,C,rfl,rfl,q,t⟩:=h
  exact ⟨C,List.sublist_append_right _ _,u,r,[],C,rfl,rfl,f,t⟩
 | d :: ds,xs,A,i + 1,e,u,h,f=>by
  obtain ⟨v,r,B,C,rfl,rfl,q,t⟩:=h
  obtain ⟨C',s,t'⟩:=Fts.put i t f
  exact ⟨B ++ C',List.Sublist.append (List.Sublist.refl _) s,v,_,B,C',rfl,rfl,q,t'⟩
theorem Fts.app:∀ {ds es:List D} {xs ys:List V} {A B:List Addr},Fts K H ds xs A->Fts K H es ys B->Fts K H (ds ++ es) (xs ++ ys) (A ++ B)
 | [],_,_,_,_,_,h,f=>by obtain ⟨rfl,rfl⟩:=h; exact f
 | d :: ds,es,xs,ys,A,B',h,f=>by
  obtain ⟨v,r,B,C,rfl,rfl,q,t⟩:=h
  exact ⟨v,r ++ ys,B,C ++ B',rfl,by simp,q,Fts.app t f⟩
mutual
theorem Ft.repN {P:Addr->Prop}:∀ (d:D) (v:V) (A:List Addr),(∀ a ∈ A,P a)->Ft K H d v A->RepN K H P d v
 | .lst ds,v,A,k,h=>by
  obtain ⟨a,xs,B,e,q,rfl,r⟩:=h
  exact ⟨a,xs,e,q,k a List.mem_cons_self,Fts.repNs ds xs B (fun b hb=>k b (List.mem_cons_of_mem _ hb)) r⟩
 | .dk ks ds,v,A,k,h=>by
  obtain ⟨a,xs,B,e,q,l,n,rfl,r⟩:=h
  exact ⟨a,xs,e,q,k a List.mem_cons_self,l,n,Fts.repNs ds xs B (fun b hb=>k b (List.mem_cons_of_mem _ hb)) r⟩
 | .tup ds,v,A,k,h=>by
  obtain ⟨a,xs,e,q,r⟩:=h
  exact ⟨a,xs,e,q,Fts.repNs ds xs A k r⟩
 | .non,_,_,_,h=>h.2
 | .bl _,_,_,_,h=>h.2
 | .int _,_,_,_,h=>h.2
 | .str _,_,_,_,h=>h.2
 | .ty _,_,_,_,h=>h.2
 | .cn _,_,_,_,h=>h.2
 | .scr ns,v,A,_,h=>h.2
 | .dz rs,v,A,_,h=>h.2
 | .exc _,_,_,_,h=>h.elim
 | .fd _,_,_,_,h=>h.elim
 | .dt _ _,_,_,_,h=>h.elim
 | .ob C ns ds,v,A,k,h=>by
  obtain ⟨a,dx,xs,B,e,q,l,n,rfl,r⟩:=h
  exact ⟨a,dx,xs,e,q,k a List.mem_cons_self,l,n,Fts.repNs ds xs B (fun b hb=>k b (List.mem_cons_of_mem _ hb)) r⟩
theorem Fts.repNs {P:Addr->Prop}:∀ (ds:List D) (xs:List V) (A:List Addr),(∀ a ∈ A,P a)->Fts K H ds xs A->yn K H P ds xs
 | [],_,_,_,h=>h.1
 | d :: ds,xs,A,k,h=>by
  obtain ⟨v,r,B,C,e,rfl,q,t⟩:=h
  exact ⟨v,r,e,Ft.repN d v B (fun b hb=>k b (List.mem_append_left _ hb)) q,Fts.repNs ds r C (fun b hb=>k b (List.mem_append_right _ hb)) t⟩
end
end
noncomputable abbrev TP:=DE->(List Nat->Prop)->Prop
variable {Γ:Hp->Prop} {l:Nat}
section
variable {X:Cx} {x:Str} {e ke:Expr} {es:List Expr} {te tk:TD} {np apos cpos pos pos':Pos}
noncomputable def Kk:TP:=fun _ φ=>φ []
noncomputable abbrev TF:=DE->(D->Prop)->Prop
noncomputable abbrev TFs:=DE->(List D->Prop)->Prop
noncomputable def Gm (K:W.Frag) (H₀:Hp) (l:Nat) (t:TF):TE:=fun σ H Q=>∃ ρ o A d v,ST K H₀ H σ ρ o l A d v /\ ∃ φ,t ρ φ /\ ∀ u e B H',Same H H'->Ft K H' e u B->B.Nodup->(∀ b ∈ B,H b=none)->φ e->Q u H'
noncomputable def J6 (K:W.Frag) (H₀:Hp) (l:Nat) (t:TFs):TA:=fun σ H Q=>∃ ρ o A d v,ST K H₀ H σ ρ o l A d v /\ ∃ φ,t ρ φ /\ ∀ us es B H',Same H H'->Fts K H' es us B->B.Nodup->(∀ b ∈ B,H b=none)->φ es->Q us H'
noncomputable def EF (G:Hp->Prop) (l:Nat) (X:Cx) (e:Expr) (t:TF):Prop:=∀ H₀:{H:Hp // G H},PE X e (Gm X.K H₀.1 l t)
noncomputable def EFs (G:Hp->Prop) (l:Nat) (X:Cx) (es:List Expr) (t:TFs):Prop:=∀ H₀:{H:Hp // G H},PA X es (J6 X.K H₀.1 l t)
noncomputable def frs:EV->Prop
 | ⟨.fre,.lst ds⟩=>y7 ds
 | ⟨.new,.lst ds⟩=>y7 ds
 | ⟨_,d⟩=>ym d
theorem Ju {K:W.Frag} {H H':Hp} {O:List Addr} {r:EV} {v:V} (h:RV K H H' O r v) (p:frs r):∃ B,Ft K H' r.d v B /\ B.Nodup /\ ∀ b ∈ B,H b=none:=by
 have gen:ym r.d->∃ B,Ft K H' r.d v B /\ B.Nodup /\ ∀ b ∈ B,H b=none:=fun pd=>⟨[],Rep.ft _ _ pd h.view.rep0,List.nodup_nil,fun b hb=>by cases hb⟩
 obtain ⟨k,d⟩:=r
 unfold frs at p
 split at p
 ·rename_i ds eq
  cases eq
  obtain ⟨a,rfl,m,n,xs,hx,rr⟩:=h
  exact ⟨[a],⟨a,xs,[],rfl,hx,rfl,Reps.fts _ _ p rr⟩,by simp,fun b hb=>by rw [List.mem_singleton.mp hb]; exact m⟩
 ·rename_i ds eq
  cases eq
  obtain ⟨a,xs,rfl,hx,pa,rr⟩:=h
  exact ⟨[a],⟨a,xs,[],rfl,hx,rfl,Reps.fts (O:=[]) _ _ p (yn.reps (fun _ _ z=>by cases z) _ _ rr)⟩,by simp,fun b hb=>by rw [List.mem_singleton.mp hb]; exact pa.2⟩
 ·rename_i k' d' _ _ eq
  cases eq
  exact gen p
noncomputable def fNil:TFs:=fun _ φ=>φ []
theorem M1:EFs Γ l X [] fNil:=fun H₀=>impA u9 fun σ H Q q=>by
 obtain ⟨ρ,o,A,d,v,S,φ,hφ,k⟩:=q
 exact k [] [] [] H (Same.refl H) ⟨rfl,rfl⟩ List.nodup_nil (fun b hb=>by cases hb) hφ
noncomputable def Nz (te:TF) (tr:TFs):TFs:=fun ρ φ=>te ρ fun d=>tr ρ fun ds=>φ (d :: ds)
theorem Xx {te:TF} {tr:TFs} (he:EF Γ l X e te) (hr:EFs Γ l X es tr) (hs:starEach (e :: es) X.env=(false,eval e X.env) :: starEach es X.env:=by rfl):EFs Γ l X (e :: es) (Nz te tr):=fun H₀=>impA (w8 (he H₀) (hr H₀) hs) fun σ H Q q=>by
 obtain ⟨ρ,o,A,d,v,S,φ,hφ,k⟩:=q
 refine ⟨ρ,o,A,d,v,S,_,hφ,fun u e1 B1 H1 s1 f1 n1 fr1 h1=>⟨ρ,o,A,d,v,S.to s1,_,h1,fun us es1 B2 H2 s2 f2 n2 fr2 h2=>?_⟩⟩
 have f1':Ft X.K H2 e1 u B1:=Ft.keep (Gt.same s2) _ _ _ (fun a _ x hx=>s2 _ _ hx) f1
 refine k (u :: us) (e1 :: es1) (B1 ++ B2) H2 (s1.trans s2) ⟨u,us,B1,B2,rfl,rfl,f1',f2⟩ ?_ (fun b hb=>?_) h2
 ·rw [List.nodup_append]
  refine ⟨n1,n2,fun a ha b hb e=>?_⟩
  subst e
  obtain ⟨x,hx,_⟩:=Ft.dom _ _ _ f1 a ha
  rw [fr2 a hb] at hx
  cases hx
 ·rcases List.mem_append.mp hb with hb | hb
  ·exact fr1 b hb
  ·exact s1.free (fr2 b hb)
end
noncomputable def Xo (K:W.Frag) (H₀:Hp) (l:Nat) (t:TQS):TS:=fun Dz σ H=>∃ ρ o A d v,ST K H₀ H σ ρ o l A d v /\ ∃ Z,t ρ Z /\
 (∀ ρ' σ' H' o' A' d',ST K H₀ H' σ' ρ' o' l A' d' v->Z.nx ρ'->Dz.nx σ' H') /\
 (∀ u e ρ' H',Same H₀ H'->RepN K H' (fun a=>H₀ a=none) e u->Z.rt e ρ'->Dz.rt u H')
noncomputable def RS (G:Hp->Prop) (l:Nat) (X:Cx) (st:Stmt) (t:TQS):Prop:=∀ H₀:{H:Hp // G H},PS X st (Xo X.K H₀.1 l t)
noncomputable def RSs (G:Hp->Prop) (l:Nat) (X:Cx) (st:List Stmt) (t:TQS):Prop:=∀ H₀:{H:Hp // G H},PSs X st (Xo X.K H₀.1 l t)
variable {Γ:Hp->Prop} {l:Nat}
section
variable {X:Cx} {st:Stmt} {rest a b:List Stmt} {t u:TQS} {e c:Expr} {pos:Pos} {x:Str}
theorem Lm:RSs Γ l X [] qNil:=fun H₀=>fq qe fun Dz σ H h=>by
 obtain ⟨ρ,o,A,d,v,S,Z,hZ,k1,k2⟩:=h
 exact k1 _ _ _ _ _ _ S hZ
theorem P9 (h:RS Γ l X st t):RSs Γ l X [st] t:=fun H₀=>qc (h H₀)
theorem Od (h:RS Γ l X st t) (hr:RSs Γ l X rest u):RSs Γ l X (st :: rest) (qSeq t u):=fun H₀=>fq (wt (h H₀) (hr H₀)) fun Dz σ H h=>by
 obtain ⟨ρ,o,A,d,v,S,Z,hZ,k1,k2⟩:=h
 exact ⟨ρ,o,A,d,v,S,_,hZ,fun ρ' σ' H' o' A' d' S' h'=>⟨ρ',o',A',d',v,S',Z,h',k1,k2⟩,k2⟩
theorem G8 {tc:TQb} (hc:QT Γ l X c tc) (ha:RSs Γ l X a t) (hb:RSs Γ l X b u):RS Γ l X (.If c a b pos) (qIf tc t u):=fun H₀=>impS (Om (hc H₀) (ha H₀) (hb H₀)) fun Dz σ H h=>by
 obtain ⟨ρ,o,A,d,v,S,Z,hZ,k1,k2⟩:=h
 refine ⟨ρ,o,A,d,v,S,_,hZ,fun bb ρ1 H1 A1 d1 g S1 h1=>?_⟩
 cases bb
 ·exact ⟨ρ1,o,A1,d1,v,S1,Z,h1.2 rfl,k1,k2⟩
 ·exact ⟨ρ1,o,A1,d1,v,S1,Z,h1.1 rfl,k1,k2⟩
end
noncomputable abbrev FTR:=D->List D->(D->Prop)->Prop
noncomputable def spR (K:W.Frag) (n:Nat) (T:FTR):Sp:=fun vs H Q _=>∃ d ds v ws A φ,vs=v :: ws /\ ds.length + 1=n /\ Ft K H d v A /\ A.Nodup /\ Reps K H A ds ws /\ T d ds φ /\
 ∀ u e H',(∀ b x,H b=some x->b ∉ A->H' b=some x)->RepN K H' (fun a=>a ∈ A \/ H a=none) e u->φ e->Q u H'
structure FR (P:Program) (w:World) (K:W.Frag) (mg:Str->Option Value) (base:Heap) (k:Nat) (x:Str) (ps:List Str) (T:FTR):Prop where
 ex:∃ f fd,FnOk P w K mg base CX0 k f fd ps (spR K ps.length T) /\ xw K fd ps [] /\ W.keepIn K (.ref f)=true /\ mg x=some (.ref f)
section
variable {P:Program} {w:World} {K:W.Frag} {mg:Str->Option Value} {base:Heap}
theorem X3 {N:List Str} {d:D} {ds:List D} {v:V} {ws:List V} {H:Hp} {Af:List Addr} (ft:Ft K H d v Af) (nd:Af.Nodup) (r:Reps K H Af ds ws):ST K (xy Af H) H (L2.start N (v :: ws)) (yb N.length (d :: ds)) [] 0 Af d v:=by
 have R0:=wz (N:=N) (ds:=d :: ds) (vs:=v :: ws) (H:=H) ⟨v,ws,rfl,Ft.rep _ _ _ (fun a _ z=>by cases z) ft,Reps.sub (fun a ha=>by cases ha) _ _ r⟩
 have s0:=tu Af H
 refine ⟨⟨s0,fun p hp=>?_,fun p hp=>?_,fun p hp=>?_,?_,fun i q e=>?_,?_⟩,rfl,rfl,ft⟩
 ·obtain ⟨a,ha,rfl⟩:=List.mem_map.mp (show p ∈ tg 0 Af from hp)
  exact ut ha
 ·obtain ⟨a,ha,rfl⟩:=List.mem_map.mp (show p ∈ tg 0 Af from hp)
  obtain ⟨u,hu,_⟩:=Ft.dom _ _ _ ft a ha
  exact ⟨u,hu⟩
 ·obtain ⟨a,ha,rfl⟩:=List.mem_map.mp (show p ∈ tg 0 Af from hp)
  obtain ⟨u,hu,n1,n2⟩:=Ft.dom _ _ _ ft a ha
  refine ⟨fun xs z=>?_,fun ob w z=>?_⟩
  ·rw [hu] at z; cases z; exact n1 _ rfl
  ·rw [hu] at z; cases z; exact n2 _ _ rfl
 ·rw [xb]; exact nd
 ·obtain ⟨hi,e⟩:=fv e
  rw [xb]
  cases i with
  | zero=>exact absurd rfl hi
  | succ i =>
   have e':((ds.map fun d=>some (dv d)) ++ List.replicate (N.length - (d :: ds).length) none)[i]?=some (some q):=e
   rcases Nat.lt_or_ge i ds.length with hi | hi
   ·rw [List.getElem?_append_left (by simpa using hi),List.getElem?_map] at e'
    have ed:ds[i]?=some ds[i]:=by simp [hi]
    rw [ed] at e'
    have e2:some (dv ds[i])=some q:=Option.some.inj e'
    cases e2
    obtain ⟨u,eu,ru⟩:=r.get ed
    refine ⟨u,?_,.inl ⟨rfl,ru⟩⟩
    unfold L2.start
    show ((ws.map some) ++ _)[i]?=_
    rw [List.getElem?_append_left (by rw [zLm,r.length]; exact hi),List.getElem?_map,eu]
    rfl
   ·rw [List.getElem?_append_right (by simpa using hi),List.getElem?_replicate] at e'
    split at e' <;> cases e'
 ·rw [vq,List.length_set]; exact R0.len
theorem Gu {x qual:Str} {st:Stmt} {f:Addr} {fd:FuncData} {N ps:List Str} {k:Nat} {T:FTR} (F:Fun K x qual st f fd) (S:zn N ps (zb st)) (b:xw K fd ps []) (m:mg x=some (.ref f))
  (qY:∀ (qZ:Value) (A:Around) (outer:List Env) (s:Shared) (H:Hp) (E:XK) (d:D) (ds:List D) (φ:D->Prop),Room k (A.deeper (envOfC qual (zb st) s.heap.objs.size f qZ))->ds.length + 1=ps.length->T d ds φ ->
   ∃ t,RSs (fun _=>True) 0 (cxOf CX0 P w K mg base N qual (zb st) f qZ A outer s H E).nox (y0 st) t /\ t (yb N.length (d :: ds)) { nx:=fun _=>False,rt:=fun r _=>φ r }):FR P w K mg base (k + 1) x ps T:=by
 refine ⟨f,fd,F.ok S (fun vs H Q E h=>?_) (fun qZ A outer s H vs Q E hr h=>?_),b,F.kp,m⟩
 ·obtain ⟨d,ds,v,ws,A,φ,rfl,hl,_,_,r,_⟩:=h
  rw [zLc,r.length,hl]
 ·obtain ⟨d,ds,v,ws,Af,φ,rfl,hl,ft,nd,r,hT,kk⟩:=h
  obtain ⟨t,ht,hq⟩:=qY qZ A outer s H E d ds φ hr hl hT
  have S0:=X3 (N:=N) ft nd r
  refine ⟨Xo K (xy Af H) 0 t,ht ⟨xy Af H,trivial⟩,yb N.length (d :: ds),[],Af,d,v,S0,_,hq,fun ρ' σ' H' o' A' d2 S' h'=>h'.elim,fun u e ρ' H' s' re h'=>?_⟩
  refine kk u e H' (fun b x hb hn=>s' b x (by rw [yq hn]; exact hb)) (RepN.to (Same.refl _) (fun a ha=>?_) _ _ re) h'
  by_cases hA:a ∈ Af
  ·exact .inl hA
  ·rw [yq hA] at ha
   exact .inr ha
end
noncomputable def jf:D->Option (List D)
 | .lst ds=>some ds
 | .tup ds=>some ds
 | .ob _ _ ds=>some ds
 | _=>none
noncomputable def Sa:D->List D->D
 | .lst _,ds=>.lst ds
 | .tup _,ds=>.tup ds
 | .ob C ns _,ds=>.ob C ns ds
 | d,_=>d
noncomputable def atQ:List Nat->D->Option D
 | [],d=>some d
 | i :: π,d=>match jf d with
  | some ds=>(match ds[i]? with
   | some x=>atQ π x
   | none=>none)
  | none=>none
noncomputable def putQ:List Nat->D->D->D
 | [],_,e=>e
 | i :: π,d,e=>match jf d with
  | some ds=>(match ds[i]? with
   | some x=>Sa d (ds.set i (putQ π x e))
   | none=>d)
  | none=>d
noncomputable def Kids (H:Hp) (a:Addr) (xs:List V):Prop:=H a=some (.lst xs) \/ H a=some (.tup xs) \/ ∃ C dx,∃ ns:List Str,H a=some (.ins C dx (ns.zip xs)) /\ ns.length=xs.length
theorem xx {α β:Type}:∀ {ns:List α} {xs:List β},ns.length=xs.length->(ns.zip xs).map Prod.snd=xs
 | [],[],_=>rfl
 | [],_ :: _,h=>by simp at h
 | _ :: _,[],h=>by simp at h
 | _ :: _,_ :: _,h=>by simp [xx (by simpa using h)]
theorem Kids.fn {H:Hp} {a:Addr} {xs ys:List V} (h:Kids H a xs) (h':Kids H a ys):xs=ys:=by
 rcases h with h | h | ⟨C,dx,ns,h,l⟩
 ·rcases h' with h' | h' | ⟨C',dx',ns',h',l'⟩
  ·rw [h] at h'; cases h'; rfl
  ·rw [h] at h'; cases h'
  ·rw [h] at h'; cases h'
 ·rcases h' with h' | h' | ⟨C',dx',ns',h',l'⟩
  ·rw [h] at h'; cases h'
  ·rw [h] at h'; cases h'; rfl
  ·rw [h] at h'; cases h'
 ·rcases h' with h' | h' | ⟨C',dx',ns',h',l'⟩
  ·rw [h] at h'; cases h'
  ·rw [h] at h'; cases h'
  ·rw [h] at h'
   injection h' with h'
   injection h' with _ _ e
   have:=congrArg (List.map Prod.snd) e
   rw [xx l,xx l'] at this
   exact this
theorem Kids.to {H H':Hp} {a:Addr} {xs:List V} (s:Same H H') (h:Kids H a xs):Kids H' a xs:=by
 rcases h with h | h | ⟨C,dx,ns,h,l⟩
 ·exact .inl (s _ _ h)
 ·exact .inr (.inl (s _ _ h))
 ·exact .inr (.inr ⟨C,dx,ns,s _ _ h,l⟩)
noncomputable def valQ (H:Hp):List Nat->V->V->Prop
 | [],v,u=>u=v
 | i :: π,v,u=>∃ a xs w,v=.ref a /\ Kids H a xs /\ xs[i]?=some w /\ valQ H π w u
theorem valQ.fn {H:Hp}:∀ {π:List Nat} {v u u':V},valQ H π v u->valQ H π v u'->u=u'
 | [],_,_,_,h,h'=>h.trans h'.symm
 | i :: π,_,_,_,⟨a,xs,w,e,q,g,h⟩,⟨a',xs',w',e',q',g',h'⟩=>by
  rw [e] at e'
  cases e'
  cases q.fn q'
  rw [g] at g'
  cases g'
  exact h.fn h'
theorem valQ.to {H H':Hp} (s:Same H H'):∀ {π:List Nat} {v u:V},valQ H π v u->valQ H' π v u
 | [],_,_,h=>h
 | i :: π,_,_,⟨a,xs,w,e,q,g,h⟩=>⟨a,xs,w,e,q.to s,g,h.to s⟩
theorem valQ.snoc {H:Hp} {i:Nat} {a:Addr} {xs:List V} {w:V}:∀ {π:List Nat} {v:V},valQ H π v (.ref a)->Kids H a xs->xs[i]?=some w->valQ H (π ++ [i]) v w
 | [],v,h,q,g=>⟨a,xs,w,h.symm,q,g,rfl⟩
 | j :: π,v,⟨b,ys,z,e,q',g',h⟩,q,g=>⟨b,ys,z,e,q',g',h.snoc q g⟩
section
variable {K:W.Frag} {H H':Hp}
theorem Ft.parts {d:D} {v:V} {A:List Addr} {ds:List D} (h:Ft K H d v A) (p:jf d=some ds):∃ a xs T B,v=.ref a /\ Kids H a xs /\ A=T ++ B /\ Fts K H ds xs B /\
  ∀ H' ds' B',Gt H H'->(∀ b ∈ T,∀ u,H b=some u->H' b=some u)->ds'.length=ds.length->Fts K H' ds' xs B'->Ft K H' (Sa d ds') v (T ++ B'):=by
 cases d with
 | lst es =>
  cases p
  obtain ⟨a,xs,B,e,q,rfl,r⟩:=h
  exact ⟨a,xs,[a],B,e,.inl q,rfl,r,fun H' ds' B' g k l f=>⟨a,xs,B',e,k a List.mem_cons_self _ q,rfl,f⟩⟩
 | tup es =>
  cases p
  obtain ⟨a,xs,e,q,r⟩:=h
  exact ⟨a,xs,[],A,e,.inr (.inl q.2),rfl,r,fun H' ds' B' g k l f=>⟨a,xs,e,Vf g q,f⟩⟩
 | ob C ns es =>
  cases p
  obtain ⟨a,dx,xs,B,e,q,l,n,rfl,r⟩:=h
  exact ⟨a,xs,[a],B,e,.inr (.inr ⟨C,dx,ns,q,by rw [l,r.length]⟩),rfl,r,fun H' ds' B' g k l' f=>⟨a,dx,xs,B',e,k a List.mem_cons_self _ q,by rw [l']; exact l,n,rfl,f⟩⟩
 | _=>cases p
theorem Ft.focQ:∀ {π:List Nat} {d:D} {v:V} {A:List Addr} {d1:D},Ft K H d v A->atQ π d=some d1->∃ u A1 B C,valQ H π v u /\ A=B ++ A1 ++ C /\ Ft K H d1 u A1 /\
  ∀ H' e A1',Gt H H'->(∀ a ∈ B ++ C,∀ u,H a=some u->H' a=some u)->Ft K H' e u A1'->Ft K H' (putQ π d e) v (B ++ A1' ++ C)
 | [],d,v,A,d1,h,e=>by
  cases (show d=d1 from Option.some.inj e)
  exact ⟨v,A,[],[],rfl,by simp,h,fun H' e A1' _ _ f=>by simpa [putQ] using f⟩
 | i :: π,d,v,A,d1,h,e=>by
  have e:(match jf d with | some ds=>(match ds[i]? with | some x=>atQ π x | none=>none) | none=>none)=some d1:=e
  cases ep:jf d with
  | none=>rw [ep] at e; cases e
  | some ds =>
   rw [ep] at e
   have e:(match ds[i]? with | some x=>atQ π x | none=>none)=some d1:=e
   cases ed:ds[i]? with
   | none=>rw [ed] at e; cases e
   | some d2 =>
    rw [ed] at e
    obtain ⟨a,xs,T,AA,rfl,q,rfl,r,kk⟩:=h.parts ep
    obtain ⟨w,A1,B,C,ew,rfl,f,k⟩:=Fts.foc r ed
    obtain ⟨u,A2,B',C',hv,rfl,f2,k2⟩:=Ft.focQ (π:=π) f e
    refine ⟨u,A2,T ++ (B ++ B'),C' ++ C,⟨a,xs,w,rfl,q,ew,hv⟩,by simp,f2,fun H' e' A1' g km f'=>?_⟩
    have h2:=k2 H' e' A1' g (fun a ha=>km a (by simp at ha ⊢; rcases ha with ha | ha <;> simp [ha])) f'
    have h3:=k H' _ _ g (fun a ha=>km a (by simp at ha ⊢; rcases ha with ha | ha <;> simp [ha])) h2
    show Ft K H' (match jf d with | some ds=>(match ds[i]? with | some x=>Sa d (ds.set i (putQ π x e')) | none=>d) | none=>d) _ _
    rw [ep]
    show Ft K H' (match ds[i]? with | some x=>Sa d (ds.set i (putQ π x e')) | none=>d) _ _
    rw [ed]
    have h4:=kk H' _ _ g (fun b hb=>km b (by simp [hb])) (by rw [List.length_set]) h3
    simpa using h4
end
section
variable {K:W.Frag} {H₀ H:Hp} {σ:St} {ρ:DE} {o:List (Nat × Addr)} {l:Nat} {A:List Addr} {d:D} {v:V}
theorem ST.focQ (S:ST K H₀ H σ ρ o l A d v) {π:List Nat} {d1:D} (h:atQ π d=some d1):∃ u A1,valQ H π v u /\ Ft K H d1 u A1 /\ A1.Nodup /\ (∀ a ∈ A1,a ∈ A) /\ (∀ a ∈ A1,H a ≠ none) /\
  ∀ H' e A1',(∀ c x,H c=some x->c ∉ A1->H' c=some x)->Ft K H' e u A1'->A1'.Nodup->(∀ a ∈ A1',a ∈ A1 \/ H a=none)->∃ A',ST K H₀ H' σ (setS ρ l (dv (putQ π d e))) o l A' (putQ π d e) v /\ Grow A A' H H' /\ ∀ a ∈ A1,a ∉ A1'->a ∉ A':=by
 obtain ⟨u,A1,B,C,hv,hA,f,k⟩:=Ft.focQ S.ft h
 have nd:=S.ndA
 rw [hA] at nd
 have nd1:=List.nodup_append.mp nd
 have nd2:=List.nodup_append.mp nd1.1
 have dm:∀ a ∈ A,H a ≠ none:=fun a ha e=>by
  obtain ⟨x,hx,_⟩:=Ft.dom _ _ _ S.ft a ha
  rw [e] at hx
  cases hx
 have mA:∀ a,a ∈ B \/ a ∈ A1 \/ a ∈ C ↔ a ∈ A:=fun a=>by rw [hA]; simp [or_assoc]
 refine ⟨u,A1,hv,f,nd2.2.1,fun a ha=>(mA a).mp (by simp [ha]),fun a ha=>dm a ((mA a).mp (by simp [ha])),fun H' e A1' kp f' nd' fr=>?_⟩
 have gt:Gt H H':=⟨fun b xs hb=>kp b _ hb fun z=>by
   obtain ⟨x,hx,n1,_⟩:=Ft.dom _ _ _ f b z
   rw [hb] at hx
   cases hx
   exact n1 _ rfl,fun b ob w hb=>kp b _ hb fun z=>by
   obtain ⟨x,hx,_,n2⟩:=Ft.dom _ _ _ f b z
   rw [hb] at hx
   cases hx
   exact n2 _ _ rfl⟩
 have nB:∀ a ∈ B ++ C,a ∉ A1:=fun a ha z=>by
  rcases List.mem_append.mp ha with ha | ha
  ·exact nd2.2.2 a ha a z rfl
  ·exact nd1.2.2 a (List.mem_append_right _ z) a ha rfl
 have ftn:=k H' e A1' gt (fun a ha x hx=>kp a x hx (nB a ha)) f'
 have mA':∀ a ∈ B ++ A1' ++ C,a ∈ A \/ H a=none:=fun a ha=>by
  rw [List.mem_append,List.mem_append] at ha
  rcases ha with (ha | ha) | ha
  ·exact .inl ((mA a).mp (by simp [ha]))
  ·exact (fr a ha).imp (fun z=>(mA a).mp (by simp [z])) id
  ·exact .inl ((mA a).mp (by simp [ha]))
 have ndn:(B ++ A1' ++ C).Nodup:=by
  rw [List.nodup_append,List.nodup_append]
  refine ⟨⟨nd2.1,nd',fun x hx y hy e=>?_⟩,nd1.2.1,fun x hx y hy e=>?_⟩
  ·subst e
   rcases fr x hy with z | z
   ·exact nd2.2.2 x hx x z rfl
   ·exact dm x ((mA x).mp (by simp [hx])) z
  ·subst e
   rcases List.mem_append.mp hx with hx | hx
   ·exact nd1.2.2 x (List.mem_append_left _ hx) x hy rfl
   ·rcases fr x hx with z | z
    ·exact nd1.2.2 x (List.mem_append_right _ z) x hy rfl
    ·exact dm x ((mA x).mp (by simp [hy])) z
 have gr:Grow A (B ++ A1' ++ C) H H':=⟨fun c x hx hn=>⟨kp c x hx fun z=>hn ((mA c).mp (by simp [z])),fun z=>(mA' c z).elim hn fun e=>by rw [hx] at e; cases e⟩,gt.tups,gt.frzs⟩
 refine ⟨_,S.chg gr ftn ndn mA',gr,fun a ha na z=>?_⟩
 rw [List.mem_append,List.mem_append] at z
 rcases z with (z | z) | z
 ·exact nB a (by simp [z]) ha
 ·exact na z
 ·exact nB a (by simp [z]) ha
end
noncomputable def J4 (K:W.Frag) (H₀:Hp) (l:Nat) (t:TP):TE:=fun σ H Q=>∃ ρ o A d v,ST K H₀ H σ ρ o l A d v /\ ∃ φ,t ρ φ /\ ∀ u π H',Same H H'->valQ H' π v u->φ π->Q u H'
noncomputable def EPQ (G:Hp->Prop) (l:Nat) (X:Cx) (e:Expr) (t:TP):Prop:=∀ H₀:{H:Hp // G H},PE X e (J4 X.K H₀.1 l t)
structure CO (K:W.Frag) (C:Addr) (ns:List Str):Prop where
 cl:Cls K C
 na:∀ f ∈ ns,si K C f
noncomputable def ixF:List Str->Str->Option Nat
 | [],_=>none
 | n :: ns,f=>if n=f then some 0 else (ixF ns f).map (· + 1)
theorem wg {α:Type} {f:Str}:∀ {ns:List Str} {xs:List α} {i:Nat},ixF ns f=some i->ns.length=xs.length->(ns.zip xs).lookup f=xs[i]?
 | [],_,_,h,_=>by cases h
 | n :: ns,[],_,_,l=>by simp at l
 | n :: ns,x :: xs,i,h,l=>by
  unfold ixF at h
  by_cases e:n=f
  ·rw [if_pos e] at h
   cases h
   subst e
   simp [List.lookup]
  ·rw [if_neg e] at h
   obtain ⟨j,hj,rfl⟩:=Option.map_eq_some_iff.mp h
   have hne:(f == n)=false:=beq_eq_false_iff_ne.mpr (fun z=>e z.symm)
   show (List.lookup f ((n,x) :: ns.zip xs))=_
   rw [List.lookup,hne]
   simpa using wg hj (by simpa using l)
theorem t4 {f:Str}:∀ {ns:List Str} {i:Nat},ixF ns f=some i->f ∈ ns
 | [],_,h=>by cases h
 | n :: ns,i,h=>by
  unfold ixF at h
  by_cases e:n=f
  ·exact e ▸ List.mem_cons_self
  ·rw [if_neg e] at h
   obtain ⟨j,hj,rfl⟩:=Option.map_eq_some_iff.mp h
   exact List.mem_cons_of_mem _ (t4 hj)
theorem Xb {f:Str} {y:V}:∀ {ns:List Str} {xs:List V} {i:Nat},ixF ns f=some i->ns.length=xs.length->putF f y (ns.zip xs)=ns.zip (xs.set i y)
 | [],_,_,h,_=>by cases h
 | n :: ns,[],_,_,l=>by simp at l
 | n :: ns,x :: xs,i,h,l=>by
  unfold ixF at h
  show (if n=f then (n,y) :: ns.zip xs else (n,x) :: putF f y (ns.zip xs))=_
  by_cases e:n=f
  ·rw [if_pos e] at h ⊢
   cases h
   rfl
  ·rw [if_neg e] at h ⊢
   obtain ⟨j,hj,rfl⟩:=Option.map_eq_some_iff.mp h
   rw [Xb hj (by simpa using l)]
   rfl
variable {Γ:Hp->Prop} {l:Nat}
section
variable {X:Cx} {x f:Str} {e ke:Expr} {es:List Expr} {te tk:TD} {np apos cpos pos pos':Pos} {C:Addr} {ns:List Str}
theorem y8 (hN:X.N[l]?=some x:=by rfl) (hv:Vis X.env.scope x:=by first | exact Or.inl rfl | exact Or.inr (Or.inl rfl) | exact Or.inr (Or.inr rfl)) (hd:(x == ("__debug__" : Str))=false:=by decide)
  (hcd:(x == ("__classdict__" : Str))=false:=by decide):EPQ Γ l X (.Name x pos) Kk:=fun H₀=>impE (vf hN hv hd hcd) fun σ H Q q=>by
 obtain ⟨ρ,o,A,d,v,S,φ,hφ,k⟩:=q
 exact ⟨v,S.hv,k v [] H (Same.refl H) rfl hφ⟩
noncomputable def pFld (l:Nat) (C:Addr) (ns:List Str) (f:Str) (tp:TP):TP:=fun ρ φ=>tp ρ fun π=>∃ d ds,slot ρ l=some (dv d) /\ atQ π d=some (.ob C ns ds) /\ (match ixF ns f with
 | some i=>φ (π ++ [i])
 | none=>False)
theorem wu (O:CO X.K C ns) (hp:EPQ Γ l X e tp) (hb:attributeBase e f X.env (eval e X.env)=eval e X.env:=by rfl):EPQ Γ l X (.Attribute e f pos) (pFld l C ns f tp):=fun H₀=>impE (Pg (hp H₀) hb) fun σ H Q q=>by
 obtain ⟨ρ,o,A,d,v,S,φ,hφ,k⟩:=q
 refine ⟨ρ,o,A,d,v,S,_,hφ,fun u π H1 s1 vp h1=>?_⟩
 obtain ⟨d',ds,es,ea,h1⟩:=h1
 have e2:some (dv d')=some (dv d):=by rw [<- es]; exact w6 S.hd
 cases e2
 split at h1
 ·rename_i i ei
  obtain ⟨w,A1,vw,f1,_⟩:=(S.to s1).focQ ea
  have:=vp.fn vw
  subst this
  obtain ⟨a,dx,xs,B,rfl,q,ln,n,rfl,r⟩:=f1
  have lx:ns.length=xs.length:=by rw [ln,r.length]
  have hi:i < xs.length:=by
   have:=wg (xs:=ns) ei rfl
   rcases Nat.lt_or_ge i xs.length with z | z
   ·exact z
   ·have e3:=wg (xs:=xs) ei lx
    rw [List.getElem?_eq_none z] at e3
    exfalso
    have hm:=t4 ei
    rw [List.getElem?_eq_none (by omega)] at this
    have:∀ ns:List Str,f ∈ ns->(ns.zip ns).lookup f ≠ none:=fun ns=>by
     induction ns with
     | nil=>intro h; cases h
     | cons a r ih =>
      intro h
      rw [List.zip_cons_cons,List.lookup]
      cases q:(f == a) with
      | true=>exact fun z=>by cases z
      | false =>
       rcases List.mem_cons.mp h with h | h
       ·rw [h] at q; simp at q
       ·exact ih h
    exact this ns hm (by assumption)
  have ey:xs[i]?=some xs[i]:=List.getElem?_eq_getElem hi
  exact ⟨a,C,dx,_,xs[i],rfl,q,O.cl,O.na f (t4 ei),by rw [wg ei lx]; exact ey,k _ _ H1 s1 (vp.snoc (.inr (.inr ⟨C,dx,ns,q,lx⟩)) ey) h1⟩
 ·exact h1.elim
end
mutual
theorem Ft.uniq {K:W.Frag} {H:Hp}:∀ (d:D) (v:V) (A B:List Addr),Ft K H d v A->Ft K H d v B->A=B
 | .lst ds,v,A,B,h,g=>by
  obtain ⟨a,xs,A',rfl,q,rfl,r⟩:=h
  obtain ⟨a2,xs2,B',e,q2,rfl,r2⟩:=g
  cases e
  rw [q] at q2
  cases q2
  rw [Fts.uniq ds xs A' B' r r2]
 | .dk ks ds,v,A,B,h,g=>by
  obtain ⟨a,xs,A',rfl,q,l,n,rfl,r⟩:=h
  obtain ⟨a2,xs2,B',e,q2,l2,n2,rfl,r2⟩:=g
  cases e
  rw [q] at q2
  injection q2 with q2
  injection q2 with q2
  have e2:=congrArg (List.map Prod.snd) q2
  rw [xx (by rw [l,r.length]),xx (by rw [l2,r2.length])] at e2
  subst e2
  rw [Fts.uniq ds xs A' B' r r2]
 | .tup ds,v,A,B,h,g=>by
  obtain ⟨a,xs,rfl,q,r⟩:=h
  obtain ⟨a2,xs2,e,q2,r2⟩:=g
  cases e
  have q3:=q.2
  rw [q2.2] at q3
  cases q3
  exact Fts.uniq ds xs A B r r2
 | .ob C ns ds,v,A,B,h,g=>by
  obtain ⟨a,dx,xs,A',rfl,q,l,n,rfl,r⟩:=h
  obtain ⟨a2,dx2,xs2,B',e,q2,l2,n2,rfl,r2⟩:=g
  cases e
  rw [q] at q2
  injection q2 with q2
  injection q2 with _ _ q2
  have e2:=congrArg (List.map Prod.snd) q2
  rw [xx (by rw [l,r.length]),xx (by rw [l2,r2.length])] at e2
  subst e2
  rw [Fts.uniq ds xs A' B' r r2]
 | .non,_,_,_,h,g=>by rw [h.1,g.1]
 | .bl _,_,_,_,h,g=>by rw [h.1,g.1]
 | .int _,_,_,_,h,g=>by rw [h.1,g.1]
 | .str _,_,_,_,h,g=>by rw [h.1,g.1]
 | .ty _,_,_,_,h,g=>by rw [h.1,g.1]
 | .cn _,_,_,_,h,g=>by rw [h.1,g.1]
 | .scr _,_,_,_,h,g=>by rw [h.1,g.1]
 | .dz _,_,_,_,h,g=>by rw [h.1,g.1]
 | .exc _,_,_,_,h,_=>h.elim
 | .fd _,_,_,_,h,_=>h.elim
 | .dt _ _,_,_,_,h,_=>h.elim
theorem Fts.uniq {K:W.Frag} {H:Hp}:∀ (ds:List D) (xs:List V) (A B:List Addr),Fts K H ds xs A->Fts K H ds xs B->A=B
 | [],_,_,_,h,g=>by rw [h.2,g.2]
 | d :: ds,xs,A,B,h,g=>by
  obtain ⟨v,r,A1,A2,rfl,rfl,q,t⟩:=h
  obtain ⟨v',r',B1,B2,e,rfl,q',t'⟩:=g
  cases e
  rw [Ft.uniq d v A1 B1 q q',Fts.uniq ds r A2 B2 t t']
end
section
variable {K:W.Frag} {H₀ H H1:Hp} {σ:St} {ρ:DE} {o:List (Nat × Addr)} {l:Nat} {A:List Addr} {d:D} {v:V}
theorem Fts.setA:∀ {ds:List D} {xs:List V} {A B:List Addr} {i:Nat} {e:D} {u:V},i < ds.length->Fts K H ds xs A->Ft K H e u B->∃ B0 A1 C0,A=B0 ++ A1 ++ C0 /\ Fts K H (ds.set i e) (xs.set i u) (B0 ++ B ++ C0)
 | [],_,_,_,_,_,_,hi,_,_=>by simp at hi
 | d :: ds,xs,A,B,0,e,u,_,h,f=>by
  obtain ⟨v,r,B',C,rfl,rfl,q,t⟩:=h
  exact ⟨[],B',C,rfl,u,r,B,C,rfl,rfl,f,t⟩
 | d :: ds,xs,A,B,i + 1,e,u,hi,h,f=>by
  obtain ⟨v,r,B',C,rfl,rfl,q,t⟩:=h
  obtain ⟨B0,A1,C0,rfl,t'⟩:=Fts.setA (i:=i) (by simpa using hi) t f
  exact ⟨B' ++ B0,A1,C0,by simp,v,_,B',B0 ++ B ++ C0,rfl,by simp,q,t'⟩
theorem Le {A B B0 A1 C0:List Addr} {P:Addr->Prop} (e:A=B0 ++ A1 ++ C0) (nA:A.Nodup) (nB:B.Nodup) (dis:∀ a ∈ B,a ∉ A):(B0 ++ B ++ C0).Nodup /\ ∀ a ∈ B0 ++ B ++ C0,a ∈ A \/ a ∈ B:=by
 subst e
 have n1:=List.nodup_append.mp nA
 have n2:=List.nodup_append.mp n1.1
 refine ⟨?_,fun a ha=>?_⟩
 ·rw [List.nodup_append,List.nodup_append]
  refine ⟨⟨n2.1,nB,fun x hx y hy e=>?_⟩,n1.2.1,fun x hx y hy e=>?_⟩
  ·subst e; exact dis x hy (by simp [hx])
  ·subst e
   rcases List.mem_append.mp hx with hx | hx
   ·exact n1.2.2 x (List.mem_append_left _ hx) x hy rfl
   ·exact dis x hx (by simp [hy])
 ·rw [List.mem_append,List.mem_append] at ha
  rcases ha with (ha | ha) | ha
  ·exact .inl (by simp [ha])
  ·exact .inr ha
  ·exact .inl (by simp [ha])
theorem ST.putH (S:ST K H₀ H σ ρ o l A d v) {π:List Nat} {d1 e:D} {b:Addr} {At A1':List Addr} {es':List D} {zs:List V} {ho:HO} (h:atQ π d=some d1) (f:Ft K H d1 (.ref b) (b :: At)) (nA:(b :: At).Nodup)
  (hu:∀ u A1,valQ H π v u->Ft K H d1 u A1->A1.Nodup->u=.ref b /\ A1=b :: At) (s:Same H H1) (f':Fts K H1 es' zs A1') (nd':A1'.Nodup) (fr:∀ a ∈ A1',a ∈ At \/ H a=none) (nt:∀ xs,ho ≠ .tup xs) (nz:∀ ob w,ho ≠ .frz ob w)
  (mk:∀ H',H' b=some ho->Fts K H' es' zs A1'->Ft K H' e (.ref b) (b :: A1')):∃ A',ST K H₀ (upd H1 b ho) σ (setS ρ l (dv (putQ π d e))) o l A' (putQ π d e) v /\ Grow A A' H (upd H1 b ho) /\ ∀ a ∈ At,a ∉ A1'->a ∉ A':=by
 obtain ⟨u,A1,hv,f1,n1,sub,dm,kk⟩:=S.focQ h
 obtain ⟨rfl,rfl⟩:=hu u A1 hv f1 n1
 have nb:=List.nodup_cons.mp nA
 have hb:H b ≠ none:=dm b List.mem_cons_self
 have bn:b ∉ A1':=fun z=>(fr b z).elim nb.1 hb
 obtain ⟨x,hx,nx1,nx2⟩:=Ft.dom _ _ _ f1 b List.mem_cons_self
 have hb1:=s _ _ hx
 have gt:Gt H1 (upd H1 b ho):=⟨fun c xs hc=>by rw [zj (fun z=>by subst z; rw [hb1] at hc; cases hc; exact nx1 _ rfl)]; exact hc,fun c ob w hc=>by rw [zj (fun z=>by subst z; rw [hb1] at hc; cases hc; exact nx2 _ _ rfl)]; exact hc⟩
 obtain ⟨A',S',g,out⟩:=kk (upd H1 b ho) e (b :: A1') (fun c x hc hn=>by rw [zj (fun z=>hn (by rw [z]; exact List.mem_cons_self))]; exact s _ _ hc)
  (mk _ zi (Fts.keep gt _ _ _ (fun a ha x hx=>by rw [zj (fun z=>bn (by rw [<- z]; exact ha))]; exact hx) f')) (List.nodup_cons.mpr ⟨bn,nd'⟩) (fun a ha=>by
   rcases List.mem_cons.mp ha with rfl | ha
   ·exact .inl List.mem_cons_self
   ·exact (fr a ha).imp (fun z=>List.mem_cons_of_mem _ z) id)
 refine ⟨A',S',g,fun a ha na=>out a (List.mem_cons_of_mem _ ha) fun z=>?_⟩
 rcases List.mem_cons.mp z with rfl | z
 ·exact nb.1 ha
 ·exact na z
theorem ST.atL (S:ST K H₀ H σ ρ o l A d v) {π:List Nat} {es:List D} (h:atQ π d=some (.lst es)):∃ b ys At,valQ H π v (.ref b) /\ H b=some (.lst ys) /\ Fts K H es ys At /\ At.Nodup /\ (∀ a ∈ At,H a ≠ none) /\ (∀ a ∈ At,a ∈ A) /\
  ∀ H1 es' zs A1',Same H H1->Fts K H1 es' zs A1'->A1'.Nodup->(∀ a ∈ A1',a ∈ At \/ H a=none)->∃ A',ST K H₀ (upd H1 b (.lst zs)) σ (setS ρ l (dv (putQ π d (.lst es')))) o l A' (putQ π d (.lst es')) v /\ Grow A A' H (upd H1 b (.lst zs)) /\ ∀ a ∈ At,a ∉ A1'->a ∉ A':=by
 obtain ⟨u,A1,hv,f1,n1,sub,dm,kk⟩:=S.focQ h
 obtain ⟨b,ys,At,rfl,q,rfl,fs⟩:=f1
 refine ⟨b,ys,At,hv,q,fs,(List.nodup_cons.mp n1).2,fun a ha=>dm a (List.mem_cons_of_mem _ ha),fun a ha=>sub a (List.mem_cons_of_mem _ ha),fun H1 es' zs A1' s f' nd' fr=>?_⟩
 have:=S.putH (e:=.lst es') (ho:=.lst zs) h ⟨b,ys,At,rfl,q,rfl,fs⟩ n1 (fun u A2 hv2 f2 n2=>by
  cases hv.fn hv2
  obtain ⟨b2,ys2,At2,e,q2,rfl,fs2⟩:=f2
  cases e
  rw [q] at q2
  cases q2
  exact ⟨rfl,by rw [Fts.uniq es ys At At2 fs fs2]⟩) s f' nd' fr (fun _ z=>by cases z) (fun _ _ z=>by cases z) (fun H' hb f=>⟨b,zs,A1',rfl,hb,rfl,f⟩)
 exact this
end
end DL
namespace DL
open PySem PySem.Spec L2 L3
open PyProof.Rows hiding St
variable {Γ:Hp->Prop} {l:Nat}
section
variable {X:Cx} {x f:Str} {e ke oe:Expr} {es:List Expr} {te tk:TD} {np apos cpos pos pos':Pos} {C:Addr} {ns:List Str}
noncomputable def dFld (C:Addr) (ns:List Str) (f:Str) (te:TD):TD:=fun ρ φ=>te ρ fun r=>match r.d with
 | .ob C' ns' ds=>C'=C /\ ns'=ns /\ (match ixF ns f with
  | some i=>(match ds[i]? with
   | some x=>φ (dv x)
   | none=>False)
  | none=>False)
 | _=>False
theorem wx (O:CO X.K C ns) (he:ED Γ X e te) (hb:attributeBase e f X.env (eval e X.env)=eval e X.env:=by rfl):ED Γ X (.Attribute e f pos) (dFld C ns f te):=fun H₀=>impE (Pg (he H₀) hb) fun σ H Q q=>by
 obtain ⟨ρ,o,R,φ,hφ,k⟩:=q
 refine ⟨ρ,o,R,_,hφ,fun v r H1 s1 rv h1=>?_⟩
 have vw:=rv.view
 obtain ⟨kd,d⟩:=r
 cases d with
 | ob C' ns' ds =>
  obtain ⟨rfl,rfl,h1⟩:=h1
  obtain ⟨a,dx,xs,rfl,q,_,ln,nd,rr⟩:=vw
  split at h1
  ·rename_i i ei
   split at h1
   ·rename_i y ey
    obtain ⟨w,ew,rw'⟩:=rr.get ey
    exact ⟨a,_,dx,_,w,rfl,q,O.cl,O.na f (t4 ei),by rw [wg ei (by rw [ln,rr.length])]; exact ew,k _ (dv y) H1 s1 rw' h1⟩
   ·exact h1.elim
  ·exact h1.elim
 | _=>exact h1.elim
noncomputable def frs2:EV->Prop
 | ⟨.fre,.dk _ ds⟩=>y7 ds
 | r=>frs r
theorem Nu {K:W.Frag} {H H':Hp} {O:List Addr} {r:EV} {v:V} (h:RV K H H' O r v) (p:frs2 r):∃ B,Ft K H' r.d v B /\ B.Nodup /\ ∀ b ∈ B,H b=none:=by
 unfold frs2 at p
 split at p
 ·obtain ⟨a,rfl,m,n,xs,hx,ln,nd,rr⟩:=h
  exact ⟨[a],⟨a,xs,[],rfl,hx,ln,nd,rfl,Reps.fts _ _ p rr⟩,by simp,fun b hb=>by rw [List.mem_singleton.mp hb]; exact m⟩
 ·exact Ju h p
noncomputable def fE2 (te:TD):TF:=fun ρ φ=>te ρ fun r=>frs2 r /\ φ r.d
theorem xu (he:ED Γ X e te):EF Γ l X e (fE2 te):=fun H₀=>impE (he H₀) fun σ H Q q=>by
 obtain ⟨ρ,o,A,d,v,S,φ,hφ,k⟩:=q
 refine ⟨ρ,o,S.R,_,hφ,fun u r H1 s1 rv h1=>?_⟩
 obtain ⟨B,f,nd,fr⟩:=Nu rv h1.1
 exact k u r.d B H1 s1 f nd fr h1.2
noncomputable def fTup (t:TFs):TF:=fun ρ φ=>t ρ fun ds=>ds.length <= 1000 /\ φ (.tup ds)
theorem Hh {t:TFs} {x1} (h:EFs Γ l X es t):EF Γ l X (.Tuple es x1 pos) (fTup t):=fun H₀=>impE (Xg (h H₀)) fun σ H Q q=>by
 obtain ⟨ρ,o,A,d,v,S,φ,hφ,k⟩:=q
 refine ⟨ρ,o,A,d,v,S,_,hφ,fun us es1 B H1 s1 f nd fr h1=>⟨by rw [f.length,sizeLine_eq]; omega,fun p hp=>?_⟩⟩
 have n:=zp hp (HO.tup us)
 exact k (.ref p) (.tup es1) B _ (s1.trans n) ⟨p,us,rfl,⟨SqT.of zi,zi⟩,Fts.keep (Gt.same n) _ _ _ (fun a _ x hx=>n _ _ hx) f⟩ nd fr h1.2
noncomputable def qFld (l:Nat) (C:Addr) (ns:List Str) (f:Str) (tp:TP) (tf:TF):TQS:=fun ρ Z=>tf ρ fun x=>tp ρ fun π=>∃ d ds,slot ρ l=some (dv d) /\ atQ π d=some (.ob C ns ds) /\ ns.length <= 100 /\ (match ixF ns f with
 | some i=>Z.nx (setS ρ l (dv (putQ π d (.ob C ns (ds.set i x)))))
 | none=>False)
theorem Lu (O:CO X.K C ns) (hp:EPQ Γ l X oe tp) (he:EF Γ l X e tf) (hs:swapsWith e (some (.Attribute oe f pos')) pos.line X.env=pure false:=by rfl):QS Γ l X (.Assign [.Attribute oe f pos'] e pos) (qFld l C ns f tp tf):=fun H₀=>impS (Pe (hp H₀) (he H₀) hs) fun Dz σ H h=>by
 obtain ⟨ρ,o,A,d,v,S,Z,hZ,k1,k2,k3,k4⟩:=h
 refine ⟨ρ,o,A,d,v,S,_,hZ,fun w y B H1 s1 fy nB frB h1=>⟨ρ,o,A,d,v,S.to s1,_,h1,fun u π H2 s2 vp h2=>?_⟩⟩
 obtain ⟨d',ds,es,ea,hn,h2⟩:=h2
 have e2:some (dv d')=some (dv d):=by rw [<- es]; exact w6 S.hd
 cases e2
 split at h2
 ·rename_i i ei
  obtain ⟨u',A1,hv,f1,n1,sub,dm,_⟩:=S.focQ ea
  have s12:=s1.trans s2
  cases (vp.fn (hv.to s12))
  obtain ⟨b,dx,xs,At,rfl,q,ln,nd,rfl,fs⟩:=f1
  have lx:ns.length=xs.length:=by rw [ln,fs.length]
  have hi:i < ds.length:=by
   have e3:=wg (xs:=ds) ei ln
   rcases Nat.lt_or_ge i ds.length with z | z
   ·exact z
   ·exfalso
    have hm:=t4 ei
    have:∀ (ns:List Str) (ds:List D),ns.length=ds.length->f ∈ ns->(ns.zip ds).lookup f ≠ none:=fun ns=>by
     induction ns with
     | nil=>intro _ _ h; cases h
     | cons a r ih =>
      intro ds l h
      cases ds with
      | nil=>simp at l
      | cons d ds =>
       rw [List.zip_cons_cons,List.lookup]
       cases q:(f == a) with
       | true=>exact fun z=>by cases z
       | false =>
        rcases List.mem_cons.mp h with h | h
        ·rw [h] at q; simp at q
        ·exact ih ds (by simpa using l) h
    exact this ns ds ln hm (by rw [e3]; exact List.getElem?_eq_none z)
  have fs2:Fts X.K H2 ds xs At:=Fts.keep (Gt.same s12) _ _ _ (fun a _ x hx=>s12 _ _ hx) fs
  have fy2:Ft X.K H2 y w B:=Ft.keep (Gt.same s2) _ _ _ (fun a _ x hx=>s2 _ _ hx) fy
  obtain ⟨B0,A1,C0,eA,f3⟩:=Fts.setA hi fs2 fy2
  have ndc:=List.nodup_cons.mp n1
  obtain ⟨n3,m3⟩:=Le (P:=fun _=>True) eA ndc.2 nB (fun a ha z=>dm a (List.mem_cons_of_mem _ z) (frB a ha))
  obtain ⟨A',S',g,_⟩:=S.putH (e:=.ob C ns (ds.set i y)) (ho:=.ins C dx (ns.zip (xs.set i w))) ea ⟨b,dx,xs,At,rfl,q,ln,nd,rfl,fs⟩ n1 (fun u A2 hv2 f2 n2=>by
   cases hv.fn hv2
   exact ⟨rfl,Ft.uniq _ _ _ _ f2 ⟨b,dx,xs,At,rfl,q,ln,nd,rfl,fs⟩⟩) s12 f3 n3 (fun a ha=>(m3 a ha).imp id (frB a)) (fun _ z=>by cases z) (fun _ _ z=>by cases z) (fun H' hb f=>⟨b,dx,_,_,rfl,hb,by rw [List.length_set]; exact ln,nd,rfl,f⟩)
  refine ⟨b,C,dx,_,rfl,s12 _ _ q,O.cl,O.na f (t4 ei),by rw [List.length_zip]; omega,?_⟩
  rw [Xb ei lx]
  exact k1 _ _ _ _ _ _ S' h2
 ·exact h2.elim
noncomputable def Ly (l:Nat) (tp:TP) (tf:TF):TQS:=fun ρ Z=>tp ρ fun π=>∃ d ds,slot ρ l=some (dv d) /\ atQ π d=some (.lst ds) /\ ds.length <= 100000 /\ tf ρ fun f=>Z.nx (setS ρ l (dv (putQ π d (.lst (ds ++ [f])))))
theorem ud (hp:EPQ Γ l X oe tp) (he:EF Γ l X e tf)
  (hpp:∀ {ta tb:TE},PE X oe ta->PE X e tb->PS X (.Expr (.Call (.Attribute oe "append" apos) [e] [] cpos) pos) (Wa (tBM X.K "list" Zy ta (So tb tNil))):=by
   intro ta tb h1 h2
   exact ue (Ri PySem.F.plainAttrs_list PySem.F.slot_list_append PySem.F.type_list_append qi h1 (w8 h2 u9))) :
  QS Γ l X (.Expr (.Call (.Attribute oe "append" apos) [e] [] cpos) pos) (Ly l tp tf):=fun H₀=>impS (hpp (hp H₀) (he H₀)) fun Dz σ H h=>by
 obtain ⟨ρ,o,A,d,v,S,Z,hZ,k1,k2,k3,k4⟩:=h
 refine ⟨ρ,o,A,d,v,S,_,hZ,fun u π H1 s1 vp h1=>?_⟩
 have S1:=S.to s1
 obtain ⟨d',ds,es,ea,hl,h1⟩:=h1
 have e2:some (dv d')=some (dv d):=by rw [<- es]; exact w6 S.hd
 cases e2
 obtain ⟨b,ys,A1,vb,hb,fs,n1,dm,sub,kk⟩:=S1.atL ea
 have:=vp.fn vb
 subst this
 refine ⟨.inl ⟨rfl,_,SqL.of hb⟩,ρ,o,A,d,v,S1,_,h1,fun w f B H2 s2 ff nd fr h2=>?_⟩
 have f1:Fts X.K H2 ds ys A1:=Fts.keep (Gt.same s2) _ _ _ (fun a _ x hx=>s2 _ _ hx) fs
 obtain ⟨A',S',g,_⟩:=kk H2 (ds ++ [f]) (ys ++ [w]) (A1 ++ B) s2 (f1.app ⟨w,[],B,[],rfl,by simp,ff,rfl,rfl⟩) (by
   rw [List.nodup_append]
   refine ⟨n1,nd,fun a ha b hb e=>?_⟩
   subst e
   exact dm a ha (fr a hb)) (fun a ha=>(List.mem_append.mp ha).imp id (fr a))
 refine ⟨b,ys,w,rfl,rfl,s2 _ _ hb,?_,k1 _ _ _ _ _ _ S' h2⟩
 rw [fs.length]
 exact Nat.lt_of_le_of_lt hl (by decide)
noncomputable def Lw (l:Nat) (tp:TP) (tk te:TD):TQS:=fun ρ Z=>te ρ fun r=>ym r.d /\ tp ρ fun π=>tk ρ fun kr=>∃ d ds i j,slot ρ l=some (dv d) /\ atQ π d=some (.lst ds) /\ kr.d=.int i /\ ixN ds.length i=some j /\ Z.nx (setS ρ l (dv (putQ π d (.lst (ds.set j r.d)))))
theorem Of (hp:EPQ Γ l X oe tp) (hk:ED Γ X ke tk) (he:ED Γ X e te) (hs:swapsWithSole [.Subscript oe ke pos'] e pos.line X.env=pure false:=by rfl) (hw:swappedStores [.Subscript oe ke pos'] e X.env=pure none:=by rfl)
  (h1:(assignEach [.Subscript oe ke pos'] X.env).map (·.2)=[assign (.Subscript oe ke pos') X.env]:=by rfl)
  (ha:∀ v,assign (.Subscript oe ke pos') X.env v=(do
   let ov <- holding [v] (eval oe X.env)
   let iv <- holding [v,ov] (eval ke X.env)
   standAt pos'
   holding [v,ov,iv] (setItem ov iv v)
   release [v,ov,iv] []):=by intro _; rfl):QS Γ l X (.Assign [.Subscript oe ke pos'] e pos) (Lw l tp tk te):=fun H₀ =>
 impS (Xe (he H₀) (Pf (hp H₀) (hk H₀) X5 ha) hs hw h1) fun Dz σ H h=>by
  obtain ⟨ρ,o,A,d,v,S,Z,hZ,k1,k2,k3,k4⟩:=h
  refine ⟨ρ,o,S.R,_,hZ,fun w r H1 s1 rv h1=>⟨ρ,o,A,d,v,S.to s1,_,h1.2,fun u π H2 s2 vp h2=>⟨ρ,o,(S.to (s1.trans s2)).R,_,h2,fun w2 r2 H3 s3 rv2 h3=>?_⟩⟩⟩
  obtain ⟨d',ds,i,j,es,ea,ei,ej,h3⟩:=h3
  have e2:some (dv d')=some (dv d):=by rw [<- es]; exact w6 S.hd
  cases e2
  have S3:=S.to ((s1.trans s2).trans s3)
  obtain ⟨b,ys,A1,vb,hb,fs,n1,dm,sub,kk⟩:=S3.atL ea
  have:=(vp.to s3).fn vb
  subst this
  have vw:=rv2.view
  rw [ei] at vw
  cases (show w2=_ from vw)
  have fw:Ft X.K H3 r.d w []:=Rep.ft _ _ h1.1 (Rep.keep (O:=[]) (O':=[]) (Gt.same (s2.trans s3)) _ _ h1.1 rv.view.rep0)
  obtain ⟨A2,sl,f2⟩:=fs.put j fw
  obtain ⟨A',S',g,_⟩:=kk H3 _ _ A2 (Same.refl _) f2 (sl.nodup n1) (fun a ha=>.inl (sl.subset ha))
  exact ⟨b,ys,i,j,rfl,rfl,hb,by rw [fs.length]; exact ej,k1 _ _ _ _ _ _ S' h3⟩
end
section
variable {K:W.Frag} {H₀ H:Hp} {σ:St} {ρ:DE} {o:List (Nat × Addr)} {l:Nat} {A:List Addr} {d:D} {v:V}
theorem Fts.last:∀ {ds:List D} {xs:List V} {A:List Addr},Fts K H ds xs A->ds ≠ []->∃ e u A2 Ae,ds[ds.length - 1]?=some e /\ xs[xs.length - 1]?=some u /\ A=A2 ++ Ae /\ Fts K H ds.dropLast xs.dropLast A2 /\ Ft K H e u Ae
 | [],_,_,_,h=>absurd rfl h
 | [d],xs,A,h,_=>by
  obtain ⟨v,r,B,C,rfl,rfl,q,t⟩:=h
  obtain ⟨rfl,rfl⟩:=t
  exact ⟨d,v,[],B,rfl,rfl,by simp,⟨rfl,rfl⟩,q⟩
 | d :: d' :: ds,xs,A,h,_=>by
  obtain ⟨v,r,B,C,rfl,rfl,q,t⟩:=h
  obtain ⟨e,u,A2,Ae,e1,e2,rfl,f,fe⟩:=Fts.last t (by simp)
  obtain ⟨v',r',_,_,rfl,_⟩:=t
  exact ⟨e,u,B ++ A2,Ae,by simpa using e1,by simpa using e2,by simp,⟨v,_,B,A2,rfl,rfl,q,f⟩,fe⟩
theorem ST.setR (S:ST K H₀ H σ ρ o l A d v) {j:Nat} {e:D} {w:V} (hj:j ≠ l) (h:Rep K H (o.map Prod.snd ++ A) e w):ST K H₀ H (σ.set j (some w)) (setS ρ j (dv e)) o l A d v:=by
 refine ⟨?_,?_,?_,S.ft⟩
 ·rw [t5 _ _ hj]; exact S.Q.setV j (by rw [xb]; exact h)
 ·rw [xa,List.getElem?_set_ne hj]; exact S.hd
 ·rw [List.getElem?_set_ne hj]; exact S.hv
theorem uj {α:Type} {f:Str}:∀ {ns:List Str} {xs:List α},f ∉ ns->(ns.zip xs).lookup f=none
 | [],_,_=>rfl
 | n :: ns,[],_=>rfl
 | n :: ns,x :: xs,h=>by
  rw [List.zip_cons_cons,List.lookup,beq_eq_false_iff_ne.mpr (fun z=>h (by rw [z]; exact List.mem_cons_self))]
  exact uj fun z=>h (List.mem_cons_of_mem _ z)
theorem Xc {f:Str} {y:V}:∀ {ns:List Str} {xs:List V},f ∉ ns->ns.length=xs.length->putF f y (ns.zip xs)=(ns ++ [f]).zip (xs ++ [y])
 | [],[],_,_=>rfl
 | [],_ :: _,_,h=>by simp at h
 | _ :: _,[],_,h=>by simp at h
 | n :: ns,x :: xs,h,l=>by
  show (if n=f then (n,y) :: ns.zip xs else (n,x) :: putF f y (ns.zip xs))=_
  rw [if_neg (fun z=>h (by rw [z]; exact List.mem_cons_self)),Xc (fun z=>h (List.mem_cons_of_mem _ z)) (by simpa using l)]
  rfl
end
section
variable {X:Cx} {x y f m:Str} {e ke oe:Expr} {es:List Expr} {te tk:TD} {np apos cpos pos pos':Pos} {C:Addr} {ns:List Str} {t:TQs} {T:FTQ} {k:Nat} {ps:List Str}
noncomputable def Vq (l j:Nat) (tp:TP):TQS:=fun ρ Z=>tp ρ fun π=>∃ d ds e,slot ρ l=some (dv d) /\ atQ π d=some (.lst ds) /\ ds[ds.length - 1]?=some e /\ Z.nx (setS (setS ρ l (dv (putQ π d (.lst ds.dropLast)))) j (dv e))
theorem cx (j:Nat) (hj:j ≠ l) (hN:X.N.Nodup) (hp:EPQ Γ l X oe tp) (hi:X.N[j]?=some x:=by rfl) (hx:Loc X.env.scope x:=by first | exact Or.inl rfl | exact Or.inr rfl)
  (hs:swapsWith (.Call (.Attribute oe "pop" apos) [] [] cpos) (some (.Name x pos')) pos.line X.env=pure false:=by rfl) (hf:X.fn x=true \/ X.env.scope.names.lookup x=some .local:=by first | exact .inl rfl | exact .inr rfl | assumption)
  (hpp:∀ {ta:TE},PE X oe ta->PE X (.Call (.Attribute oe "pop" apos) [] [] cpos) (tBM0 X.K "list" rPop ta):=by
   intro ta h1
   exact b6 PySem.F.plainAttrs_list PySem.F.slot_list_pop PySem.F.type_list_pop U6 h1) :
  QS Γ l X (.Assign [.Name x pos'] (.Call (.Attribute oe "pop" apos) [] [] cpos) pos) (Vq l j tp):=fun H₀=>impS (qf hN hi hx (hpp (hp H₀)) hs hf) fun Dz σ H h=>by
 obtain ⟨ρ,o,A,d,v,S,Z,hZ,k1,k2,k3,k4⟩:=h
 refine ⟨ρ,o,A,d,v,S,_,hZ,fun u π H1 s1 vp h1=>?_⟩
 have S1:=S.to s1
 obtain ⟨d',ds,e,es,ea,ee,h1⟩:=h1
 have e2:some (dv d')=some (dv d):=by rw [<- es]; exact w6 S.hd
 cases e2
 obtain ⟨b,ys,At,vb,hb,fs,n1,dm,sub,kk⟩:=S1.atL ea
 have:=vp.fn vb
 subst this
 obtain ⟨e',w,A2,Ae,e1,ew,rfl,f2,fe⟩:=fs.last (fun z=>by rw [z] at ee; cases ee)
 rw [ee] at e1
 cases e1
 have nd:=List.nodup_append.mp n1
 obtain ⟨A',S',g,out⟩:=kk H1 _ _ A2 (Same.refl _) f2 nd.1 (fun a ha=>.inl (List.mem_append_left _ ha))
 refine ⟨.inl ⟨rfl,_,SqL.of hb⟩,b,ys,w,rfl,rfl,hb,ew,?_⟩
 have dis:∀ a ∈ Ae,a ∉ o.map Prod.snd ++ A':=fun a ha z=>by
  rcases List.mem_append.mp z with z | z
  ·exact S1.dis a (sub a (List.mem_append_right _ ha)) z
  ·exact out a (List.mem_append_right _ ha) (fun y=>nd.2.2 a y a ha rfl) z
 have fe':Ft X.K (upd H1 b (.lst ys.dropLast)) e w Ae:=by
  have g1:Grow [b] [b] H1 (upd H1 b (.lst ys.dropLast)):=Sg hb
  refine Ft.keep g1.gt _ _ _ (fun a ha x hx=>?_) fe
  by_cases hab:a=b
  ·exfalso
   subst hab
   obtain ⟨u2,A3,hv3,f3,_,sub3,_,_⟩:=S1.focQ ea
   cases vb.fn hv3
   obtain ⟨b2,ys2,B2,e2,q2,rfl,r2⟩:=f3
   cases e2
   rw [hb] at q2
   cases q2
   have n3:(a :: B2).Nodup:=by assumption
   rw [Fts.uniq _ _ _ _ r2 fs] at n3
   exact (List.nodup_cons.mp n3).1 (List.mem_append_right _ ha)
  ·rw [zj hab]; exact hx
 exact k1 _ _ _ _ _ _ (S'.setR hj (Ft.rep _ _ _ dis fe')) h1
structure FM (P:Program) (w:World) (K:W.Frag) (mg:Str->Option Value) (base:Heap) (k:Nat) (C:Addr) (ns:List Str) (m:Str) (ps:List Str) (T:FTQ):Prop where
 ex:∃ f fd,FnOk P w K mg base CX0 k f fd ps (spQ K ps.length T) /\ xw K fd ps [] /\ Meth K C m f
 no:m ∉ ns
noncomputable def Re (l n:Nat) (C:Addr) (ns:List Str) (T:FTQ) (t:TQs):TQ:=fun ρ φ=>∃ ds,slot ρ l=some (dv (.ob C ns ds)) /\ t ρ fun es ρ1=>match slot ρ1 l with
 | some ⟨.val,d⟩=>Nat.beq (es.length + 1) n=true /\ T d es fun r d'=>φ r (setS ρ1 l (dv d'))
 | _=>False
theorem bf {H₀:Hp} (no:m ∉ ns):∀ σ H Q,J3 X.K H₀ l (Re l ps.length C ns T t) σ H Q->Sl C m (spQ X.K ps.length T) [] E0 (tVar l) (Ph X.K H₀ l t) σ H Q:=fun σ H Q q=>by
 obtain ⟨ρ,o,A,d,v,S,φ,⟨ds,es0,hφ⟩,kk⟩:=q
 have e0:some (dv d)=some (dv (.ob C ns ds)):=by rw [<- es0]; exact (w6 S.hd).symm
 cases e0
 obtain ⟨a,dx,xs,B,ev,qa,ln,nn,eA,r⟩:=S.ft
 refine ⟨v,S.hv,a,dx,_,ev,qa,uj no,ρ,o,A,_,v,S,_,hφ,fun us rs ρ1 H1 A1 d1 g1 S1 rrs h1=>?_⟩
 have es1:slot ρ1 l=some (dv d1):=w6 S1.hd
 rw [es1] at h1
 show spQ X.K ps.length T (v :: (us ++ [])) H1 Q E0
 rw [List.append_nil]
 refine ⟨d1,rs,v,us,A1,_,rfl,Nat.eq_of_beq_eq_true h1.1,S1.ft,S1.ndA,Reps.sub (fun a ha=>List.mem_append_right _ ha) _ _ rrs,h1.2,fun u r d' H' A' g ft nd fr pr rr h2=>?_⟩
 exact kk u r _ H' A' d' (g1.trans g) (S1.chg g ft nd fr) pr rr h2
theorem di {pl:Sem Bool} (O:CO X.K C ns) (F:FM X.prog X.w X.K X.mg X.base k C ns m ps T) (hr:Room k X.A) (ha:QA Γ l X (e :: es) t) (hN:X.N[l]?=some y:=by rfl) (hv:Vis X.env.scope y:=by first | exact Or.inl rfl | exact Or.inr (Or.inl rfl) | exact Or.inr (Or.inr rfl)) (hd:(y == ("__debug__" : Str))=false:=by decide) (hcd:(y == ("__classdict__" : Str))=false:=by decide)
  (hst:starEach (e :: es) X.env=(false,eval e X.env) :: starEach es X.env:=by rfl) (hpl:(backTo pos (starEach es X.env)).any (·.1)=false:=by rfl)
  (ht:eval (.Call (.Attribute (.Name y np) m apos) (e :: es) [] pos) X.env=(do
   let ov <- eval (.Name y np) X.env
   standAt apos.atName
   let (f,first) <- holding [ov] (getMethod ov m pl)
   callWith pos f first (backTo pos (starEach (e :: es) X.env)) (backToKw pos (keywordEach [] X.env))):=by rfl) :
  EQ Γ l X (.Call (.Attribute (.Name y np) m apos) (e :: es) [] pos) (Re l ps.length C ns T t):=fun H₀=>by
 obtain ⟨f,fd,ok,b,hm⟩:=F.ex
 exact impE (Vt (vf hN hv hd hcd) O.cl hm ok hr b .nil gj (ha H₀) hst hpl ht) (bf F.no)
theorem Xw {pl:Sem Bool} (O:CO X.K C ns) (F:FM X.prog X.w X.K X.mg X.base k C ns m ps T) (hr:Room k X.A) (hN:X.N[l]?=some y:=by rfl) (hv:Vis X.env.scope y:=by first | exact Or.inl rfl | exact Or.inr (Or.inl rfl) | exact Or.inr (Or.inr rfl)) (hd:(y == ("__debug__" : Str))=false:=by decide) (hcd:(y == ("__classdict__" : Str))=false:=by decide)
  (ht:eval (.Call (.Attribute (.Name y np) m apos) [] [] pos) X.env=(do
   let ov <- eval (.Name y np) X.env
   standAt apos.atName
   let (f,first) <- holding [ov] (getMethod ov m pl)
   callWith pos f first (backTo pos (starEach [] X.env)) (backToKw pos (keywordEach [] X.env))):=by rfl) :
  EQ Γ l X (.Call (.Attribute (.Name y np) m apos) [] [] pos) (Re l ps.length C ns T Og):=fun H₀=>by
 obtain ⟨f,fd,ok,b,hm⟩:=F.ex
 refine impE (Xh (vf hN hv hd hcd) O.cl hm ok hr b .nil gj ht) fun σ H Q q=>?_
 obtain ⟨v,hv',a,dx,fs,e1,q1,l1,z⟩:=bf F.no σ H Q q
 refine ⟨v,hv',a,dx,fs,e1,q1,l1,?_⟩
 obtain ⟨ρ,o,A,d,v2,S,φ,hφ,k⟩:=z
 exact k [] [] ρ H A d Grow.refl S rfl hφ
noncomputable def qWh (tc:TQb) (tb:TQS):TQS:=fun ρ Z=>∃ (P:DE->Prop) (μ:DE->Nat),P ρ /\ ∀ ρ1,P ρ1->tc ρ1 fun b ρ2=>(b=true->tb ρ2 { nx:=fun ρ3=>P ρ3 /\ μ ρ3 < μ ρ1,rt:=Z.rt }) /\ (b=false->Z.nx ρ2)
theorem Rc {c:Expr} {body:List Stmt} {tc:TQb} {tb:TQS} (hc:QT Γ l X c tc) (hb:QSs Γ l X body tb) (hp:PassesOwn (model X.prog X.w) X.A X.env X.xe:=by exact PassesOwn.never):QS Γ l X (.While c body [] pos) (qWh tc tb):=fun H₀=>impS (Xd hp (hc H₀) (hb H₀)) fun Dz σ H h=>by
 obtain ⟨ρ,o,A,d,v,S,Z,⟨P,μ,hP,turn⟩,k1,k2,k3,k4⟩:=h
 refine ⟨fun m σ' H'=>∃ ρ' o' A' d',ST X.K H₀.1 H' σ' ρ' o' l A' d' v /\ P ρ' /\ μ ρ'=m,⟨_,ρ,o,A,d,S,hP,rfl⟩,?_⟩
 rintro m σ1 H1 ⟨ρ1,o1,A1,d1,S1,p1,rfl⟩
 refine ⟨ρ1,o1,A1,d1,v,S1,_,turn ρ1 p1,fun b ρ2 H2 A2 d2 g2 S2 h2=>?_⟩
 cases b with
 | false =>
  rw [if_neg (by decide)]
  exact k1 _ _ _ _ _ _ S2 (h2.2 rfl)
 | true =>
  rw [if_pos rfl]
  refine ⟨fun σ' H'=>∃ ρ' o' A' d',ST X.K H₀.1 H' σ' ρ' o' l A' d' v /\ P ρ' /\ μ ρ' < μ ρ1,fun σ' H' ⟨ρ',o',A',d',S',p',q'⟩=>⟨_,q',ρ',o',A',d',S',p',rfl⟩,ρ2,o1,A2,d2,v,S2,_,h2.1 rfl,fun ρ3 σ3 H3 o3 A3 d3 S3 h3=>⟨ρ3,o3,A3,d3,S3,h3.1,h3.2⟩,fun _ _ _ _ _ _ _ q=>q.elim,fun _ _ _ _ _ _ _ q=>q.elim,k4⟩
noncomputable def Oh (l:Nat) (C:Addr) (f:Str) (tp:TP) (tf:TF):TQS:=fun ρ Z=>tf ρ fun x=>tp ρ fun π=>∃ d ns ds,slot ρ l=some (dv d) /\ atQ π d=some (.ob C ns ds) /\ ns.length <= 100 /\ f ∉ ns /\ Z.nx (setS ρ l (dv (putQ π d (.ob C (ns ++ [f]) (ds ++ [x])))))
theorem vk (cl:Cls X.K C) (na:si X.K C f) (hp:EPQ Γ l X oe tp) (he:EF Γ l X e tf) (hs:swapsWith e (some (.Attribute oe f pos')) pos.line X.env=pure false:=by rfl):QS Γ l X (.Assign [.Attribute oe f pos'] e pos) (Oh l C f tp tf):=fun H₀=>impS (Pe (hp H₀) (he H₀) hs) fun Dz σ H h=>by
 obtain ⟨ρ,o,A,d,v,S,Z,hZ,k1,k2,k3,k4⟩:=h
 refine ⟨ρ,o,A,d,v,S,_,hZ,fun w y B H1 s1 fy nB frB h1=>⟨ρ,o,A,d,v,S.to s1,_,h1,fun u π H2 s2 vp h2=>?_⟩⟩
 obtain ⟨d',ns,ds,es,ea,hn,hf,h2⟩:=h2
 have e2:some (dv d')=some (dv d):=by rw [<- es]; exact w6 S.hd
 cases e2
 obtain ⟨u',A1,hv,f1,n1,sub,dm,_⟩:=S.focQ ea
 have s12:=s1.trans s2
 cases (vp.fn (hv.to s12))
 obtain ⟨b,dx,xs,At,rfl,q,ln,nd,rfl,fs⟩:=f1
 have lx:ns.length=xs.length:=by rw [ln,fs.length]
 have fs2:Fts X.K H2 ds xs At:=Fts.keep (Gt.same s12) _ _ _ (fun a _ x hx=>s12 _ _ hx) fs
 have fy2:Ft X.K H2 y w B:=Ft.keep (Gt.same s2) _ _ _ (fun a _ x hx=>s2 _ _ hx) fy
 have ndc:=List.nodup_cons.mp n1
 have nd3:(ns ++ [f]).Nodup:=by
  rw [List.nodup_append]
  refine ⟨nd,by simp,fun a ha c hc e=>?_⟩
  rw [List.mem_singleton.mp hc] at e
  exact hf (e ▸ ha)
 obtain ⟨A',S',g,_⟩:=S.putH (e:=.ob C (ns ++ [f]) (ds ++ [y])) (ho:=.ins C dx ((ns ++ [f]).zip (xs ++ [w]))) (A1':=At ++ B) ea ⟨b,dx,xs,At,rfl,q,ln,nd,rfl,fs⟩ n1 (fun u A2 hv2 f2 n2=>by
  cases hv.fn hv2
  exact ⟨rfl,Ft.uniq _ _ _ _ f2 ⟨b,dx,xs,At,rfl,q,ln,nd,rfl,fs⟩⟩) s12 (fs2.app (es:=[y]) (ys:=[w]) ⟨w,[],B,[],rfl,by simp,fy2,rfl,rfl⟩) (by
   rw [List.nodup_append]
   refine ⟨ndc.2,nB,fun a ha c hc e=>?_⟩
   subst e
   exact dm a (List.mem_cons_of_mem _ ha) (frB a hc)) (fun a ha=>(List.mem_append.mp ha).imp id (frB a)) (fun _ z=>by cases z) (fun _ _ z=>by cases z) (fun H' hb f'=>⟨b,dx,_,_,rfl,hb,by rw [zLa,zLa,ln]; rfl,nd3,rfl,f'⟩)
 refine ⟨b,C,dx,_,rfl,s12 _ _ q,cl,na,by rw [List.length_zip]; omega,?_⟩
 rw [Xc hf lx]
 exact k1 _ _ _ _ _ _ S' h2
end
section
variable {P:Program} {w:World} {K:W.Frag} {mg:Str->Option Value} {base:Heap}
theorem Yn {x qual m:Str} {st:Stmt} {f:Addr} {fd:FuncData} {N ps:List Str} {k:Nat} {T:FTQ} {C:Addr} {ns:List Str} (F:Fun K x qual st f fd) (S:zn N ps (zb st)) (b:xw K fd ps []) (hm:Meth K C m f) (no:m ∉ ns)
  (qY:∀ (qZ:Value) (A:Around) (outer:List Env) (s:Shared) (H:Hp) (E:XK) (d:D) (ds:List D) (φ:D->D->Prop),Room k (A.deeper (envOfC qual (zb st) s.heap.objs.size f qZ))->ds.length + 1=ps.length->T d ds φ ->
   ∃ t,QSs (fun _=>True) 0 (cxOf CX0 P w K mg base N qual (zb st) f qZ A outer s H E).nox (y0 st) t /\ t (yb N.length (d :: ds)) { nx:=fun ρ=>∃ d',slot ρ 0=some (dv d') /\ φ .non d',rt:=fun r ρ=>∃ d',slot ρ 0=some (dv d') /\ φ r d' }):FM P w K mg base (k + 1) C ns m ps T:=by
 refine ⟨⟨f,fd,F.ok S (fun vs H Q E h=>?_) (fun qZ A outer s H vs Q E hr h=>?_),b,hm⟩,no⟩
 ·obtain ⟨d,ds,v,ws,A,φ,rfl,hl,_,_,r,_⟩:=h
  rw [zLc,r.length,hl]
 ·obtain ⟨d,ds,v,ws,Af,φ,rfl,hl,ft,nd,r,hT,kk⟩:=h
  obtain ⟨t,ht,hq⟩:=qY qZ A outer s H E d ds φ hr hl hT
  have R0:=wz (N:=N) (ds:=d :: ds) (vs:=v :: ws) (H:=H) ⟨v,ws,rfl,Ft.rep _ _ _ (fun a _ z=>by cases z) ft,Reps.sub (fun a ha=>by cases ha) _ _ r⟩
  have s0:=tu Af H
  have S0:ST K (xy Af H) H (L2.start N (v :: ws)) (yb N.length (d :: ds)) [] 0 Af d v:=by
   refine ⟨⟨s0,fun p hp=>?_,fun p hp=>?_,fun p hp=>?_,?_,fun i q e=>?_,?_⟩,rfl,rfl,ft⟩
   ·obtain ⟨a,ha,rfl⟩:=List.mem_map.mp (show p ∈ tg 0 Af from hp)
    exact ut ha
   ·obtain ⟨a,ha,rfl⟩:=List.mem_map.mp (show p ∈ tg 0 Af from hp)
    obtain ⟨u,hu,_⟩:=Ft.dom _ _ _ ft a ha
    exact ⟨u,hu⟩
   ·obtain ⟨a,ha,rfl⟩:=List.mem_map.mp (show p ∈ tg 0 Af from hp)
    obtain ⟨u,hu,n1,n2⟩:=Ft.dom _ _ _ ft a ha
    refine ⟨fun xs z=>?_,fun ob w z=>?_⟩
    ·rw [hu] at z; cases z; exact n1 _ rfl
    ·rw [hu] at z; cases z; exact n2 _ _ rfl
   ·rw [xb]; exact nd
   ·obtain ⟨hi,e⟩:=fv e
    rw [xb]
    cases i with
    | zero=>exact absurd rfl hi
    | succ i =>
     have e':((ds.map fun d=>some (dv d)) ++ List.replicate (N.length - (d :: ds).length) none)[i]?=some (some q):=e
     rcases Nat.lt_or_ge i ds.length with hi | hi
     ·rw [List.getElem?_append_left (by simpa using hi),List.getElem?_map] at e'
      have ed:ds[i]?=some ds[i]:=by simp [hi]
      rw [ed] at e'
      have e2:some (dv ds[i])=some q:=Option.some.inj e'
      cases e2
      obtain ⟨u,eu,ru⟩:=r.get ed
      refine ⟨u,?_,.inl ⟨rfl,ru⟩⟩
      unfold L2.start
      show ((ws.map some) ++ _)[i]?=_
      rw [List.getElem?_append_left (by rw [zLm,r.length]; exact hi),List.getElem?_map,eu]
      rfl
     ·rw [List.getElem?_append_right (by simpa using hi),List.getElem?_replicate] at e'
      split at e' <;> cases e'
   ·rw [vq,List.length_set]; exact R0.len
  have fin:∀ u e d' ρ' σ' H' o' A' d2,ST K (xy Af H) H' σ' ρ' o' 0 A' d2 v->ym e->Rep K H' [] e u->slot ρ' 0=some (dv d')->φ e d'->Q u H':=fun u e d' ρ' σ' H' o' A' d2 S' pe re es h=>by
   have e2:some (dv d2)=some (dv d'):=by
    rw [<- es]
    exact (w6 S'.hd).symm
   cases e2
   have kp:∀ b x,H b=some x->b ∉ Af->H' b=some x:=fun b x hb hn=>S'.Q.same b x (by rw [yq hn]; exact hb)
   refine kk u e d' H' A' ⟨fun b x hb hn=>⟨kp b x hb hn,fun z=>?_⟩,fun b xs hb=>kp b _ hb fun z=>?_,fun b ob w hb=>kp b _ hb fun z=>?_⟩ S'.ft S'.ndA (fun a ha=>?_) pe re h
   ·have:=S'.frA b z
    rw [yq hn,hb] at this
    cases this
   ·obtain ⟨w,hw,n1,_⟩:=Ft.dom _ _ _ ft b z
    rw [hb] at hw
    cases hw
    exact n1 _ rfl
   ·obtain ⟨w',hw,_,n2⟩:=Ft.dom _ _ _ ft b z
    rw [hb] at hw
    cases hw
    exact n2 _ _ rfl
   ·have:=S'.frA a ha
    by_cases hA:a ∈ Af
    ·exact .inl hA
    ·rw [yq hA] at this
     exact .inr this
  refine ⟨Ug K (xy Af H) 0 t,ht ⟨xy Af H,trivial⟩,yb N.length (d :: ds),[],Af,d,v,S0,_,hq,fun ρ' σ' H' o' A' d2 S' ⟨d',es,h'⟩=>?_,fun _ _ _ _ _ _ _ q=>q.elim,fun _ _ _ _ _ _ _ q=>q.elim,fun u e ρ' σ' H' o' A' d2 S' pe re ⟨d',es,h'⟩=>fin u e d' ρ' σ' H' o' A' d2 S' pe re es h'⟩
  exact fin .non .non d' ρ' σ' H' o' A' d2 S' trivial rfl es h'
end
end DL
namespace LQ
open PySem PySem.Spec L2 L3
open PyProof.Rows hiding St
theorem Rp:typeLookup (.type "zip") "keys" = pure none:=am_miss_of_fast (by kernel_rfl)
theorem jo:typeLookup (.type "zip") "__getattr__" = pure none:=am_miss_of_fast (by kernel_rfl)
theorem j9:entryFor table "zip.__getattribute__" = some Builtin.«object.__getattribute__»:=entryFor_alias (id':="object.__getattribute__") (by kernel_rfl) (by decide +kernel) (by decide +kernel) (by kernel_rfl)
theorem U8 (a:Addr) (fs:Array Value) (u:Tok):Meets (Builtin.«object.__getattribute__» ⟨[.ref a,.str "keys" u],[]⟩) (fun A R s=>s.heap.get? a=some { cls:=.type "zip", dict:=none,data:=.fields fs,slots:=#[] } /\ raisesAttr (.ref a) "keys" A R s) :=
 Meets.of_wp fun P w A R s hs=>by
  obtain ⟨hp,g,d,tk,os⟩:=s
  obtain ⟨hx,hs⟩:=hs
  have hT:(⟨hp,g,d,tk,os⟩:Shared).TypeIs (.ref a) "zip":=⟨_,hx,rfl⟩
  have hm:=Rp
  unfold Builtin.«object.__getattribute__»
  repeat (any_goals (first | exact hT | exact hm | assumption | wp_step))
  exact wpAny_raiseAttrError hs.1 hs.2 (attrMsg_fits (by decide +kernel) (by size_fits))
section
variable {P:Program} {w:World} {A:Around} {E:Value->Shared->Prop} {s:Shared}
theorem rc {a:Addr} {fs:Array Value} {Q:Option Value->Shared->Prop} (hx:s.heap.get? a=some { cls:=.type "zip", dict:=none,data:=.fields fs,slots:=#[] }) (hA:A.handled=none)
  (h:∀ g tk,(∀ b u,s.heap.get? b=some u->g.get? b=some u)->Q none { s with heap:=g,toks:=tk }):wpAny (model P w) A (getAttr? (.ref a) "keys") Q E s:=by
 obtain ⟨hp,g,d,tk,os⟩:=s
 have hT:∀ tk',(⟨hp,g,d,tk',os⟩:Shared).TypeIs (.ref a) "zip":=fun _=>⟨_,hx,rfl⟩
 have f1:=sub_AttributeError
 have f3:=F.slot_zip_getattribute.lookup
 have f4:=F.slot_zip_getattribute.bind (.ref a)
 have f5:=jo
 unfold getAttr? getAttrBy? getAttrBy
 repeat (any_goals (first | assumption | exact hT _ | ((with_reducible show wpAny _ _ (call (Value.builtin "zip.__getattribute__") _ _) _ _ _); refine call_meets F.slot_zip_getattribute (hT _) j9 (F.args_zip_getattribute_2 _ _) (U8 a fs _) ⟨hx,hA,fun h' tk' e hx'=>?_⟩) | wp_step))
 obtain ⟨t',u',he⟩:=hx'.there
 have hE:∀ tk'',(⟨h',g,d,tk'',os⟩:Shared).TypeIs (.ref e) "AttributeError":=fun _=>⟨_,he,rfl⟩
 show wpAny _ _ (getattributeRaised _ _ _ _ _ _ _) _ _ _
 unfold getattributeRaised
 repeat (any_goals (first | assumption | exact hE _ | wp_step))
 exact h _ _ hx'.keeps
end
section
variable {P:Program} {w:World} {A:Around} {R:Result->Shared->Prop} {b1 b2:Bool} {d z ti to i1 i2 l1 l2:Addr} {xs ys:Array Value} {h0:Heap}
theorem W7 {more:List (Key × Value)} (hh:A.handled=none) (D:L3.ZNe z ti to i1 i2) (d1:L3.ZOff z to i1 i2 l1) (d2:L3.ZOff z to i1 i2 l2) (lz:z < d) (lti:ti < d) (lto:to < d) (li1:i1 < d) (li2:i2 < d) (nl1:l1 ≠ d) (nl2:l2 ≠ d) (hxy:xs.size=ys.size) (hml:more.length=xs.size) (hn:xs.size <= 1000) (hnd:(more.map (·.1)).Nodup)
  (hv:∀ (i:Nat) x y,xs[i]?=some x->ys[i]?=some y->∃ k t,x=.str k t /\ more[i]?=some (Sum.inr k,y)) :
  ∀ (k i:Nat) (s:Shared) (tk:Tok) (as:List Addr),xs.size - i=k->i <= xs.size->as.length=i->L3.ZS b1 b2 z ti to i1 i2 l1 l2 as i s.heap->L3.PairsZ s.heap xs ys d as->L3.SqAt b1 s.heap l1 xs->L3.SqAt b2 s.heap l2 ys ->
   (∀ b o,b ≠ d->L3.ZOff z to i1 i2 b->h0.get? b=some o->s.heap.get? b=some o)->s.heap.DictOf (yd P w) d (more.take i) ->
   (∀ g tk,g.DictOf (yd P w) d more->(∀ b o,b ≠ d->L3.ZOff z to i1 i2 b->h0.get? b=some o->g.get? b=some o)->R (.ok (.ret .none)) { s with heap:=g,toks:=tk }) ->
   codeAny (model P w) A (.builtin "dict.update.loop" ⟨[.ref d,.ref z,.int i tk,.none],[]⟩) R s:=by
 have offd:L3.ZOff z to i1 i2 d:=⟨Nat.ne_of_gt lz,Nat.ne_of_gt lto,Nat.ne_of_gt li1,Nat.ne_of_gt li2⟩
 have offa:∀ {a:Addr},d < a->L3.ZOff z to i1 i2 a:=fun {a} q=>⟨Nat.ne_of_gt (Nat.lt_trans lz q),Nat.ne_of_gt (Nat.lt_trans lto q),Nat.ne_of_gt (Nat.lt_trans li1 q),Nat.ne_of_gt (Nat.lt_trans li2 q)⟩
 have hh1:A.in1.handled=none:=by simpa using hh
 intro k
 induction k with
 | zero =>
  intro i s tk as hk hi la Z pa t1 t2 hold q hR
  have e:i=xs.size:=by omega
  refine codeAny_builtin v5 ?_
  rw [Around.under_plainId yt _]
  show wpAny _ A.in1 (pyNext (.ref z) >>= _) _ _ s
  refine wpAny_bind (Mp hh1 D d1 d2 Z pa t1 t2 (by rw [e]; simp) fun g kp=>?_)
  show wpAny _ A.in1 (Builtin.Dict.addKeywords d [] >>= _) _ _ _
  refine wpAny_bind (wpAny_pure (wpAny_pure (hR g s.toks ?_ fun b o h1 h2 e=>kp b o h2 (hold b o h1 h2 e))))
  rw [List.take_of_length_le (by omega)] at q
  obtain ⟨o,es,ep,ho,mm⟩:=q
  exact ⟨o,es,ep,kp d o offd ho,mm⟩
 | succ k ih =>
  intro i s tk as hk hi la Z pa t1 t2 hold q hR
  have lt:i < xs.size:=by omega
  have ex:xs[i]?=some xs[i]:=by simp [lt]
  have ey:ys[i]?=some (ys[i]'(by omega)):=by simp [show i < ys.size by omega]
  obtain ⟨x,t,hx,hm⟩:=hv i _ _ ex ey
  obtain ⟨u,hu⟩:∃ u,u=ys[i]'(by omega):=⟨_,rfl⟩
  rw [<- hu] at ey hm
  rw [hx] at ex
  refine codeAny_builtin v5 ?_
  rw [Around.under_plainId yt _]
  show wpAny _ A.in1 (pyNext (.ref z) >>= _) _ _ s
  refine wpAny_bind (Py D d1 d2 Z pa t1 t2 ex ey fun g Z2 pr kp=>?_)
  have ld:d < s.heap.objs.size:=by obtain ⟨o,_,_,ho,_⟩:=q; exact Heap.lt_size ho
  have q2:g.DictOf (yd P w) d (more.take i):=by
   obtain ⟨o',es,ep,ho',mm⟩:=q
   exact ⟨o',es,ep,kp d o' offd ho',mm⟩
  have hnew:(Sum.inr x:Key) ∉ (more.take i).map (·.1):=by
   have e:more.take (i + 1)=more.take i ++ [(Sum.inr x,u)]:=by rw [List.take_succ,hm]; rfl
   have h4:((more.take (i + 1)).map (·.1)).Nodup:=hnd.sublist ((List.take_sublist _ _).map _)
   rw [e,zMa,List.nodup_append] at h4
   intro z
   exact h4.2.2 _ z (Sum.inr x) (by simp) rfl
  have pa2:L3.PairsZ g xs ys d (as ++ [s.heap.objs.size]):=(pa.to fun a o ha e=>kp a o (offa (pa.1 a ha)) e).snoc ld (fun m=>Nat.lt_irrefl _ (pa.lt m)) (by rw [la]; exact ex) (by rw [la]; exact ey) pr
  show wpAny _ A.in1 (holding [Value.ref s.heap.objs.size] _ >>= _) _ _ _
  refine wpAny_bind (wpAny_holding (wpAny_bind (wpAny_tryCatch ?_)))
  unfold Builtin.Dict.pairItems
  refine wpAny_bind (wpAny_typeOf (s:={ s with heap:=g }) ⟨_,pr,rfl⟩ ?_)
  rw [if_pos (by decide)]
  refine wpAny_bind (wpAny_seqItems (s:={ s with heap:=g }) pr rfl (wpAny_pure ?_))
  show wpAny _ A.in1 (holding [Value.str x t,u] (dictSet d (.str x t) u)) _ _ _
  refine wpAny_holding (wpAny_dictSet_pairs (s:={ s with heap:=g }) (knd:=yd P w) (k:=Sum.inr x) (qj P w x t) q2 (fun g2 q3 sb=>?_) (by rw [List.length_take]; exact Nat.le_trans (Nat.min_le_left _ _) (Nat.le_trans hi (Nat.le_trans hn (by decide)))))
  refine wpAny_pure ⟨plainId_quiet yt _,?_⟩
  rw [ja hnew,show more.take i ++ [((Sum.inr x:Key),u)]=more.take (i + 1) by rw [List.take_succ,hm]; rfl] at q3
  show codeAny (model P w) A (.builtin "dict.update.loop" ⟨[.ref d,.ref z,.int ((i:Int) + 1) _,.none],[]⟩) R _
  have ei:((i:Int) + 1)=((i + 1:Nat):Int):=by omega
  rw [ei]
  refine ih (i + 1) _ _ (as ++ [s.heap.objs.size]) (by omega) lt (by rw [zLa,la]; rfl) (Z2.to fun c o hc e=>sb.extBut c o (fun z=>?_) e) (pa2.to fun a o ha e=>sb.extBut a o (Nat.ne_of_gt (pa2.1 a ha)) e) ((t1.at fun o e=>kp _ o d1 e).at fun o e=>sb.extBut _ o nl1 e) ((t2.at fun o e=>kp _ o d2 e).at fun o e=>sb.extBut _ o nl2 e)
   (fun b o' h1 h2 e=>sb.extBut b o' h1 (kp b o' h2 (hold b o' h1 h2 e))) q3 fun g3 tk3 q4 k4=>hR g3 tk3 q4 k4
  subst z
  rcases hc with rfl | rfl | rfl | rfl | rfl
  ·exact Nat.lt_irrefl _ lz
  ·exact Nat.lt_irrefl _ lti
  ·exact Nat.lt_irrefl _ lto
  ·exact Nat.lt_irrefl _ li1
  ·exact Nat.lt_irrefl _ li2
end
section
variable {P:Program} {w:World} {A:Around} {E:Value->Shared->Prop} {s:Shared} {b1 b2:Bool} {z ti to i1 i2 l1 l2:Addr} {xs ys:Array Value}
theorem dict_zip {more:List (Key × Value)} {Q:Value->Shared->Prop} (hh:A.handled=none) (D:L3.ZNe z ti to i1 i2) (d1:L3.ZOff z to i1 i2 l1) (d2:L3.ZOff z to i1 i2 l2) (Z:L3.ZAt b1 b2 s.heap z ti to i1 i2 l1 l2 .none 0) (t1:L3.SqAt b1 s.heap l1 xs) (t2:L3.SqAt b2 s.heap l2 ys)
  (hxy:xs.size=ys.size) (hml:more.length=xs.size) (hn:xs.size <= 1000) (hnd:(more.map (·.1)).Nodup) (hv:∀ (i:Nat) x y,xs[i]?=some x->ys[i]?=some y->∃ k t,x=.str k t /\ more[i]?=some (Sum.inr k,y))
  (h:∀ g tk,g.DictOf (yd P w) s.heap.objs.size more->(∀ b o,L3.ZOff z to i1 i2 b->s.heap.get? b=some o->g.get? b=some o)->Q (.ref s.heap.objs.size) { s with heap:=g,toks:=tk }):wpAny (model P w) A (call (.type "dict") [.ref z]) Q E s:=by
 refine callType_codes (Q₁:=fun obj y=>obj=.ref s.heap.objs.size /\ y={ s with heap:=s.heap.push { cls:=.type "dict", data:=.dict #[] } }) F.kt_called_dict (F.kt_typeCall_dict_1 _) F.entry_dict_init (kt_code_dict_new _ ⟨rfl,rfl⟩) ?_
 rintro obj y ⟨rfl,rfl⟩
 obtain ⟨zz,its,⟨oa,ob,out⟩,one,two⟩:=id Z
 have lz:z < s.heap.objs.size:=Heap.lt_size zz
 have lti:ti < s.heap.objs.size:=Heap.lt_size its
 have lto:to < s.heap.objs.size:=Heap.lt_size out
 have li:∀ {b:Bool} {it l:Addr} {i:Nat},L3.ItAt b s.heap it l i->it < s.heap.objs.size:=fun {b it l i} q=>by
  cases b with
  | true=>obtain ⟨o,e,_⟩:=(show s.heap.IsTupleIter it l i from q); exact Heap.lt_size e
  | false=>obtain ⟨o,e,_⟩:=(show s.heap.IsListIter it l i from q); exact Heap.lt_size e
 have ls:∀ {b:Bool} {l:Addr} {xs:Array Value},L3.SqAt b s.heap l xs->l < s.heap.objs.size:=fun {b l xs} q=>by
  cases b with
  | true=>obtain ⟨o,e,_⟩:=(show s.heap.IsTuple l xs from q); exact Heap.lt_size e
  | false=>obtain ⟨o,e,_⟩:=(show s.heap.IsList l xs from q); exact Heap.lt_size e
 have new:(s.heap.push { cls:=.type "dict", data:=.dict #[] }).DictOf (yd P w) s.heap.objs.size []:=Heap.DictOf.new s.heap
 have kp1:∀ b u,s.heap.get? b=some u->(s.heap.push { cls:=.type "dict", data:=.dict #[] }).get? b=some u:=fun b u e=>Heap.get?_push_of_some _ e
 have zz1:=kp1 z _ zz
 have ty1:Shared.TypeIs { s with heap:=s.heap.push { cls:=.type "dict", data:=.dict #[] } } (.ref z) "zip":=⟨_,zz1,rfl⟩
 refine ⟨new.typeIs,F.args_dict_init_2 _ _,?_⟩
 unfold Builtin.«dict.__init__»
 refine wpAny_bind ?_
 unfold Builtin.Dict.selfAndRest
 refine wpAny_bind (wpAny_notOrdered_dict new.typeIs ?_)
 show wpAny _ _ (pure (s.heap.objs.size,[Value.ref z])) _ _ _
 refine wpAny_pure ?_
 show wpAny _ _ (Builtin.Dict.updateFrom "dict.__init__" s.heap.objs.size (.ref z) [] .none) _ _ _
 unfold Builtin.Dict.updateFrom
 refine wpAny_bind (wpAny_typeOf ty1 ?_)
 rw [if_pos (by decide)]
 refine wpAny_bind (rc zz1 (by simpa using hh) fun g tk kp2=>?_)
 rw [if_pos (show (Option.none:Option Value).isNone=true from rfl)]
 have up:∀ b o,s.heap.get? b=some o->g.get? b=some o:=fun b o e=>kp2 b o (kp1 b o e)
 refine wpAny_bind (wpAny_rule (wpAny_bind (wpAny_pyIter_zip (s:={ s with heap:=g,toks:=tk }) (up z _ zz) ?_)))
 refine wpAny_pure ⟨plainId_quiet yt _,?_⟩
 have q0:g.DictOf (yd P w) s.heap.objs.size []:=by
  obtain ⟨o,es,ep,ho,mm⟩:=new
  exact ⟨o,es,ep,kp2 _ _ ho,mm⟩
 refine W7 (h0:=s.heap) (b1:=b1) (b2:=b2) (ys:=ys) (by simpa using hh) D d1 d2 lz lti lto (li one) (li two) (Nat.ne_of_lt (ls t1)) (Nat.ne_of_lt (ls t2)) hxy hml hn hnd hv xs.size 0 _ _ [] (Nat.sub_zero _) (Nat.zero_le _) rfl
  (.inl ⟨rfl,up _ _ zz,up _ _ its,⟨oa,ob,up _ _ out⟩,one.at fun o e=>up _ o e,two.at fun o e=>up _ o e⟩) ⟨(fun _ q=>nomatch q),List.nodup_nil,fun j a e=>by simp at e⟩ (t1.at fun o e=>up _ o e) (t2.at fun o e=>up _ o e) (fun b o _ _ e=>up b o e) q0 fun g2 tk2 q2 k2=>?_
 exact ⟨rfl,h g2 tk2 q2 fun b o q e=>k2 b o (Nat.ne_of_lt (Heap.lt_size e)) q e⟩
end
end LQ
namespace L3
open PySem PySem.Spec L2
open PyProof.Rows hiding St
noncomputable def Sn (K:W.Frag) (ta:TA):TE:=fun σ H Q=>ta σ H fun vs H1=>∃ b1 b2 l1 l2 xs ys,∃ zs:List Str,vs=[.ref l1,.ref l2] /\ SqK b1 K H1 l1 xs /\ SqK b2 K H1 l2 ys /\ xs=zs.map V.str /\ xs.length=ys.length /\ xs.length <= 1000 /\ zs.Nodup /\
 ∀ l,H1 l=none->Q (.ref l) (upd H1 l (.dK ((zs.map Sum.inr).zip ys)))
theorem Wf {X:Cx} {a b:Expr} {ta:TA} {p p2 pos pos2:Pos} (hc:X.calm=true) (hg:Gl X "dict") (hm:X.mg "dict" = none) (hg2:Gl X "zip") (hm2:X.mg "zip" = none) (ha:PA X [a,b] ta)
  (h1:starEach [.Call (.Name "zip" p2) [a,b] [] pos2] X.env=(false,eval (.Call (.Name "zip" p2) [a,b] [] pos2) X.env) :: starEach [] X.env:=by rfl)
  (he:starEach [a,b] X.env=(false,eval a X.env) :: starEach [b] X.env:=by rfl) (hpl:(backTo pos2 (starEach [b] X.env)).any (·.1)=false:=by rfl) :
  PE X (.Call (.Name "dict" p) [.Call (.Name "zip" p2) [a,b] [] pos2] [] pos) (Sn X.K ta):=by
 intro pn s σ H Q I h
 refine wpAny_Call_Name_kw (tz I hg hm DL.boot_dict' ?_ (by decide) (by decide))
 refine PyProof.Rows.callWith_type1 ?_ h1 (by rfl)
 rw [h1]
 show wpAny _ _ (spliced ((false,eval _ X.env) :: backTo pos (starEach [] X.env))) _ _ s
 refine Calls.spliced_cons ?_
 refine wpAny_Call_Name_kw (tz I hg2 hm2 Zk ?_ (by decide) (by decide))
 refine PyProof.Rows.callWith_type1 (thn (ha pos2 pn s σ H _ I h) fun us s1 ⟨vs,H1,I1,r1,b1,b2,l1,l2,xs,ys,zs,e,e1,e2,ez,hl,hn,nd,q⟩=>?_) he hpl
 subst e
 obtain ⟨u,v,rfl,ru,rv⟩:=Sd r1
 cases ru
 cases rv
 obtain ⟨its1,r1,g1⟩:=ck I1 e1
 obtain ⟨its2,r2,g2⟩:=ck I1 e2
 refine X2 (xs:=its1.toArray) (ys:=its2.toArray) g1 g2 fun g Z kp=>Calls.spliced_nil ?_
 have D:ZNe (s1.heap.objs.size + 4) (s1.heap.objs.size + 2) (s1.heap.objs.size + 3) s1.heap.objs.size (s1.heap.objs.size + 1):=by
  constructor <;> (intro z; exact absurd (show (_:Nat)=_ from z) (by omega))
 have off:∀ {c:Addr},c < s1.heap.objs.size->ZOff (s1.heap.objs.size + 4) (s1.heap.objs.size + 3) s1.heap.objs.size (s1.heap.objs.size + 1) c:=fun {c} q=>⟨Nat.ne_of_lt (Nat.lt_of_lt_of_le q (Nat.le_add_right _ _)),Nat.ne_of_lt (Nat.lt_of_lt_of_le q (Nat.le_add_right _ _)),Nat.ne_of_lt q,Nat.ne_of_lt (Nat.lt_of_lt_of_le q (Nat.le_add_right _ _))⟩
 have lts:∀ {b:Bool} {l:Addr} {its:List Value},SqAt b s1.heap l its.toArray->l < s1.heap.objs.size:=fun {b l its} q=>by
  cases b with
  | true=>obtain ⟨o,e,_⟩:=(show s1.heap.IsTuple _ _ from q); exact Heap.lt_size e
  | false=>obtain ⟨o,e,_⟩:=(show s1.heap.IsList _ _ from q); exact Heap.lt_size e
 have big:s1.heap.objs.size + 4 < g.objs.size:=Heap.lt_size Z.zz
 have n1:=r1.length
 have n2:=r2.length
 have hb:=I1.big
 have ex:∀ (zs:List Str) (its1 its2:List Value) (ys:List V),Vals (zs.map V.str) its1->Vals ys its2->zs.length=ys.length->∃ more:List (Key × Value),KV ((zs.map (Sum.inr:Str->Key)).zip ys) more /\ more.length=its1.length /\ more.map (·.1)=zs.map (Sum.inr:Str->Key) /\
   ∀ (i:Nat) x y,its1[i]?=some x->its2[i]?=some y->∃ k t,x=.str k t /\ more[i]?=some (Sum.inr k,y):=by
  intro zs
  induction zs with
  | nil =>
   intro its1 its2 ys r1 r2 l
   cases r1
   cases ys with
   | nil=>exact ⟨[],.nil,rfl,rfl,fun i x y e=>by simp at e⟩
   | cons _ _=>simp at l
  | cons zt zs ih =>
   intro its1 its2 ys r1 r2 l
   cases ys with
   | nil=>simp at l
   | cons y ys =>
    cases r1 with
    | cons h1 t1 =>
     cases r2 with
     | cons h2 t2 =>
      obtain ⟨more,k1,k2,k3,k4⟩:=ih _ _ ys t1 t2 (by simpa using l)
      obtain ⟨tt,rfl⟩:=h1
      rename_i u2 _
      refine ⟨(Sum.inr zt,u2) :: more,.cons ⟨rfl,h2⟩ k1,by simp [k2],by simp [k3],fun i x y' e e'=>?_⟩
      cases i with
      | zero =>
       simp at e e'
       subst e e'
       exact ⟨zt,tt,rfl,rfl⟩
      | succ i =>
       obtain ⟨k,t,e3,e4⟩:=k4 i x y' (by simpa using e) (by simpa using e')
       exact ⟨k,t,e3,by simpa using e4⟩
 subst ez
 obtain ⟨more,k1,k2,k3,k4⟩:=ex zs its1 its2 ys r1 r2 (by simpa using hl)
 rw [zLm] at hn n1 hl
 refine LQ.dict_zip (s:={ s1 with heap:=g }) (A:=X.A) (more:=more) (I1.ok.hd hc) D (off (lts g1)) (off (lts g2)) Z (g1.at fun o e=>kp _ o e) (g2.at fun o e=>kp _ o e) (by rw [List.size_toArray,List.size_toArray]; omega) (by rw [List.size_toArray]; exact k2) (by rw [List.size_toArray]; omega) (by
   rw [k3]
   exact List.Pairwise.map _ (fun a b h e=>h (Sum.inr.inj e)) nd) (fun i x y e e'=>k4 i x y (by simpa using e) (by simpa using e')) fun h' tk qd keep=>?_
 dsimp only at keep qd ⊢
 have keep':∀ b o,s1.heap.get? b=some o->h'.get? b=some o:=fun b o e=>keep b o (off (Heap.lt_size e)) (kp b o e)
 have gb:(s1.heap.objs.size:Nat) <= g.objs.size:=by have:(s1.heap.objs.size + 4:Nat) < g.objs.size:=big; omega
 have fr:H1 g.objs.size=none:=I1.hok.fresh gb
 refine ⟨.ref g.objs.size,_,I1.laid (o:=.dK ((zs.map Sum.inr).zip ys)) (t':=tk) keep' gb ?_,rfl,q _ fr⟩
 have lk:=k1.length
 exact Pr (by rw [lk,k2,<- n1]; exact Nat.le_trans hn (by decide)) (by simpa using Nat.ne_of_gt (Nat.lt_of_lt_of_le hb gb)) k1 qd
end L3
namespace DL
open PySem PySem.Spec L2 L3
open PyProof.Rows hiding St
variable {Γ:Hp->Prop} {l:Nat}
section
variable {X:Cx} {a b e oe:Expr} {t:TDs} {te:TD} {x y:Str} {p p2 pos pos2 pos' np apos cpos:Pos}
noncomputable def Pu (t:TDs):TD:=fun ρ φ=>t ρ fun rs=>∃ (zs:List Str) (ds:List D),(match rs with
 | [r1,r2]=>(r1.d=.lst (zs.map D.str) \/ r1.d=.tup (zs.map D.str)) /\ (r2.d=.lst ds \/ r2.d=.tup ds)
 | _=>False) /\ zs.length=ds.length /\ zs.length <= 1000 /\ zs.Nodup /\ φ (df (.dk (zs.map Sum.inr) ds))
theorem V7 {K:W.Frag} {H:Hp} {O:List Addr} {d:D} {v:V} {ds:List D} (h:View K H O d v) (e:d=.lst ds \/ d=.tup ds):∃ b l xs,v=.ref l /\ SqK b K H l xs /\ Reps K H O ds xs:=by
 rcases e with rfl | rfl
 ·obtain ⟨a,xs,rfl,q,r⟩:=h
  exact ⟨false,a,xs,rfl,SqL.of q,r⟩
 ·obtain ⟨a,xs,rfl,q,r⟩:=h
  exact ⟨true,a,xs,rfl,q.1,r⟩
theorem Ql (hm:X.mg "dict" = none) (hm2:X.mg "zip" = none) (ha:EA Γ X [a,b] t) (hc:X.calm=true:=by rfl) (hg:Gl X "dict":=by rfl) (hg2:Gl X "zip":=by rfl)
  (h1:starEach [.Call (.Name "zip" p2) [a,b] [] pos2] X.env=(false,eval (.Call (.Name "zip" p2) [a,b] [] pos2) X.env) :: starEach [] X.env:=by rfl)
  (he:starEach [a,b] X.env=(false,eval a X.env) :: starEach [b] X.env:=by rfl) (hpl:(backTo pos2 (starEach [b] X.env)).any (·.1)=false:=by rfl) :
  ED Γ X (.Call (.Name "dict" p) [.Call (.Name "zip" p2) [a,b] [] pos2] [] pos) (Pu t):=fun H₀ =>
 impE (Wf hc hg hm hg2 hm2 (ha H₀) h1 he hpl) fun σ H Q q=>by
  obtain ⟨ρ,oo,R,φ,hφ,kk⟩:=q
  refine ⟨ρ,oo,R,_,hφ,fun vs rs H1 s1 rvs h1=>?_⟩
  obtain ⟨zs,ds,h0,hl,hn,nd,h1⟩:=h1
  split at h0
  ·rename_i r1 r2
   obtain ⟨v1,ws,rfl,rv1,v2,ws2,rfl,rv2,e⟩:=rvs
   cases (show ws2=[] from e)
   obtain ⟨b1,l1,xs,rfl,q1,rp1⟩:=V7 rv1.view h0.1
   obtain ⟨b2,l2,ys,rfl,q2,rp2⟩:=V7 rv2.view h0.2
   have ex:=cv rp1
   have m2:=rp2.length
   refine ⟨b1,b2,l1,l2,xs,ys,zs,rfl,q1,q2,ex,by rw [ex,zLm]; omega,by rw [ex,zLm]; exact hn,nd,fun p hp=>?_⟩
   have n:=zp hp (HO.dK ((zs.map Sum.inr).zip ys))
   refine kk (.ref p) (df (.dk (zs.map Sum.inr) ds)) _ (s1.trans n) ⟨p,rfl,s1.free hp,R.ofree (s1.free hp),ys,zi,by rw [zLm]; exact hl,List.Pairwise.map _ (fun a b h e=>h (Sum.inr.inj e)) nd,Reps.grow (d6 hp) _ _ rp2⟩ h1
  ·exact h0.elim
end
noncomputable def J7 (K:W.Frag) (H₀:Hp) (l:Nat) (t:TF):TE:=fun σ H Q=>∃ ρ o A d v,ST K H₀ H σ ρ o l A d v /\ ∃ φ,t ρ φ /\ ∀ u e H',Same H H'->RepN K H' (fun a=>H₀ a=none) e u->φ e->Q u H'
noncomputable def Nf (K:W.Frag) (H₀:Hp) (l:Nat) (t:TFs):TA:=fun σ H Q=>∃ ρ o A d v,ST K H₀ H σ ρ o l A d v /\ ∃ φ,t ρ φ /\ ∀ us es H',Same H H'->yn K H' (fun a=>H₀ a=none) es us->φ es->Q us H'
noncomputable def ER (G:Hp->Prop) (l:Nat) (X:Cx) (e:Expr) (t:TF):Prop:=∀ H₀:{H:Hp // G H},PE X e (J7 X.K H₀.1 l t)
noncomputable def ERs (G:Hp->Prop) (l:Nat) (X:Cx) (es:List Expr) (t:TFs):Prop:=∀ H₀:{H:Hp // G H},PA X es (Nf X.K H₀.1 l t)
section
variable {X:Cx} {x y m:Str} {e:Expr} {es:List Expr} {te:TD} {np apos cpos pos:Pos}
noncomputable def rE (te:TD):TF:=fun ρ φ=>te ρ fun r=>ym r.d /\ φ r.d
theorem Qh (he:ED Γ X e te):ER Γ l X e (rE te):=fun H₀=>impE (he H₀) fun σ H Q q=>by
 obtain ⟨ρ,o,A,d,v,S,φ,hφ,k⟩:=q
 exact ⟨ρ,o,S.R,_,hφ,fun u r H1 s1 rv h1=>k u r.d H1 s1 (Rep.toN _ _ h1.1 rv.view.rep0) h1.2⟩
noncomputable def rP (l:Nat) (tp:TP):TF:=fun ρ φ=>tp ρ fun π=>∃ d d1,slot ρ l=some (dv d) /\ atQ π d=some d1 /\ φ d1
theorem rg (hp:EPQ Γ l X e tp):ER Γ l X e (rP l tp):=fun H₀=>impE (hp H₀) fun σ H Q q=>by
 obtain ⟨ρ,o,A,d,v,S,φ,hφ,k⟩:=q
 refine ⟨ρ,o,A,d,v,S,_,hφ,fun u π H1 s1 vp h1=>?_⟩
 obtain ⟨d',d1,es,ea,h1⟩:=h1
 have e2:some (dv d')=some (dv d):=by rw [<- es]; exact w6 S.hd
 cases e2
 obtain ⟨u',A1,hv,f1,_,sub,_⟩:=(S.to s1).focQ ea
 cases vp.fn hv
 exact k u d1 H1 s1 (Ft.repN _ _ _ (fun a ha=>S.frA a (sub a ha)) f1) h1
theorem Ta:ERs Γ l X [] fNil:=fun H₀=>impA u9 fun σ H Q q=>by
 obtain ⟨ρ,o,A,d,v,S,φ,hφ,k⟩:=q
 exact k [] [] H (Same.refl H) rfl hφ
theorem ww {te:TF} {tr:TFs} (he:ER Γ l X e te) (hr:ERs Γ l X es tr) (hs:starEach (e :: es) X.env=(false,eval e X.env) :: starEach es X.env:=by rfl):ERs Γ l X (e :: es) (Nz te tr):=fun H₀=>impA (w8 (he H₀) (hr H₀) hs) fun σ H Q q=>by
 obtain ⟨ρ,o,A,d,v,S,φ,hφ,k⟩:=q
 refine ⟨ρ,o,A,d,v,S,_,hφ,fun u e1 H1 s1 f1 h1=>⟨ρ,o,A,d,v,S.to s1,_,h1,fun us es1 H2 s2 f2 h2=>?_⟩⟩
 exact k (u :: us) (e1 :: es1) H2 (s1.trans s2) ⟨u,us,rfl,RepN.to s2 (fun _ z=>z) _ _ f1,f2⟩ h2
theorem Pm {t:TFs} {x1} (h:ERs Γ l X es t):ER Γ l X (.Tuple es x1 pos) (fTup t):=fun H₀=>impE (Xg (h H₀)) fun σ H Q q=>by
 obtain ⟨ρ,o,A,d,v,S,φ,hφ,k⟩:=q
 refine ⟨ρ,o,A,d,v,S,_,hφ,fun us es1 H1 s1 f h1=>⟨by rw [f.length,sizeLine_eq]; omega,fun p hp=>?_⟩⟩
 have n:=zp hp (HO.tup us)
 exact k (.ref p) (.tup es1) _ (s1.trans n) ⟨p,us,rfl,⟨SqT.of zi,zi⟩,yn.to n (fun _ z=>z) _ _ f⟩ h1.2
noncomputable def Lp (t:TF):TQS:=fun ρ Z=>t ρ fun d=>Z.rt d ρ
theorem Vk {t:TF} (h:ER Γ l X e t):RS Γ l X (.Return (some e) pos) (Lp t):=fun H₀=>impS (cz (h H₀)) fun Dz σ H h=>by
 obtain ⟨ρ,o,A,d,v,S,Z,hZ,k1,k2⟩:=h
 exact ⟨ρ,o,A,d,v,S,_,hZ,fun u e H1 s1 r h1=>k2 u e ρ H1 (S.Q.same.trans s1) r h1⟩
end
structure FMR (P:Program) (w:World) (K:W.Frag) (mg:Str->Option Value) (base:Heap) (k:Nat) (C:Addr) (ns:List Str) (m:Str) (ps:List Str) (T:FTR):Prop where
 ex:∃ f fd,FnOk P w K mg base CX0 k f fd ps (spR K ps.length T) /\ xw K fd ps [] /\ Meth K C m f
 no:m ∉ ns
section
variable {P:Program} {w:World} {K:W.Frag} {mg:Str->Option Value} {base:Heap}
theorem Jy {x qual m:Str} {st:Stmt} {f:Addr} {fd:FuncData} {N ps:List Str} {k:Nat} {T:FTR} {C:Addr} {ns:List Str} (F:Fun K x qual st f fd) (S:zn N ps (zb st)) (b:xw K fd ps []) (hm:Meth K C m f) (no:m ∉ ns)
  (qY:∀ (qZ:Value) (A:Around) (outer:List Env) (s:Shared) (H:Hp) (E:XK) (d:D) (ds:List D) (φ:D->Prop),Room k (A.deeper (envOfC qual (zb st) s.heap.objs.size f qZ))->ds.length + 1=ps.length->T d ds φ ->
   ∃ t,RSs (fun _=>True) 0 (cxOf CX0 P w K mg base N qual (zb st) f qZ A outer s H E).nox (y0 st) t /\ t (yb N.length (d :: ds)) { nx:=fun _=>False,rt:=fun r _=>φ r }):FMR P w K mg base (k + 1) C ns m ps T:=by
 obtain ⟨f',fd',ok,b',kp',e⟩:=(Gu (mg:=fun _=>some (.ref f)) (P:=P) (w:=w) (base:=base) (x:=x) (k:=0) (T:=fun _ _ _=>False) F S b rfl fun _ _ _ _ _ _ _ _ _ _ _ h=>h.elim).ex
 refine ⟨⟨f,fd,F.ok S (fun vs H Q E h=>?_) (fun qZ A outer s H vs Q E hr h=>?_),b,hm⟩,no⟩
 ·obtain ⟨d,ds,v,ws,A,φ,rfl,hl,_,_,r,_⟩:=h
  rw [zLc,r.length,hl]
 ·obtain ⟨d,ds,v,ws,Af,φ,rfl,hl,ft,nd,r,hT,kk⟩:=h
  obtain ⟨t,ht,hq⟩:=qY qZ A outer s H E d ds φ hr hl hT
  have S0:=X3 (N:=N) ft nd r
  refine ⟨Xo K (xy Af H) 0 t,ht ⟨xy Af H,trivial⟩,yb N.length (d :: ds),[],Af,d,v,S0,_,hq,fun ρ' σ' H' o' A' d2 S' h'=>h'.elim,fun u e ρ' H' s' re h'=>?_⟩
  refine kk u e H' (fun b x hb hn=>s' b x (by rw [yq hn]; exact hb)) (RepN.to (Same.refl _) (fun a ha=>?_) _ _ re) h'
  by_cases hA:a ∈ Af
  ·exact .inl hA
  ·rw [yq hA] at ha
   exact .inr ha
theorem ST.make {H₀ H H2:Hp} {σ:St} {ρ:DE} {o:List (Nat × Addr)} {l:Nat} {A:List Addr} {d:D} {v:V} (R:REnv K H₀ H σ ρ o) (hl:l < ρ.length) (s:Same H H2) (f:Ft K H2 d v A) (nd:A.Nodup) (fr:∀ a ∈ A,H a=none) :
  ST K H₀ H2 (σ.set l (some v)) (setS ρ l (dv d)) o l A d v:=by
 have R2:=R.to s
 have dis:∀ a ∈ A,a ∉ o.map Prod.snd:=fun a ha=>R.ofree (fr a ha)
 refine ⟨⟨R2.same,fun p hp=>?_,fun p hp=>?_,fun p hp=>?_,?_,fun i q e=>?_,?_⟩,?_,?_,f⟩
 ·rcases List.mem_append.mp hp with hp | hp
  ·exact R.fresh p hp
  ·obtain ⟨a,ha,rfl⟩:=List.mem_map.mp hp
   exact R.same.free (fr a ha)
 ·rcases List.mem_append.mp hp with hp | hp
  ·exact R2.trk p hp
  ·obtain ⟨a,ha,rfl⟩:=List.mem_map.mp hp
   obtain ⟨u,hu,_⟩:=Ft.dom _ _ _ f a ha
   exact ⟨u,hu⟩
 ·rcases List.mem_append.mp hp with hp | hp
  ·exact R2.mtb p hp
  ·obtain ⟨a,ha,rfl⟩:=List.mem_map.mp hp
   obtain ⟨u,hu,n1,n2⟩:=Ft.dom _ _ _ f a ha
   refine ⟨fun xs z=>?_,fun ob w z=>?_⟩
   ·rw [hu] at z; cases z; exact n1 _ rfl
   ·rw [hu] at z; cases z; exact n2 _ _ rfl
 ·rw [xb,List.nodup_append]
  exact ⟨R.nda,nd,fun a ha b hb e=>dis b hb (e ▸ ha)⟩
 ·rw [fu] at e
  obtain ⟨hi,e⟩:=fv e
  obtain ⟨w,ew,q⟩:=R.slots i q e
  refine ⟨w,by rw [List.getElem?_set_ne (Ne.symm hi)]; exact ew,?_⟩
  rw [xb]
  have g:Grow (o.map Prod.snd) (o.map Prod.snd ++ A) H H2:=⟨fun b u hb n=>⟨s _ _ hb,fun z=>(List.mem_append.mp z).elim n fun z=>by rw [fr b z] at hb; cases hb⟩,fun b xs hb=>s _ _ hb,fun b ob u hb=>s _ _ hb⟩
  rcases q with ⟨k,q⟩ | ⟨k,c,e1,m,cc⟩
  ·exact .inl ⟨k,Rep.grow g _ _ q⟩
  ·exact .inr ⟨k,c,e1,List.mem_append_left _ m,cc.grow (fun u h=>s _ _ h) g⟩
 ·rw [fu,vq,List.length_set,List.length_set]; exact R.len
 ·rw [xa,List.getElem?_set_self hl]
 ·rw [List.getElem?_set_self (by rw [R.len]; exact hl)]
end
theorem at_0 {α:Type} (a:α) (r:List α):atI (a :: r) (0:Int)=some a:=by
 unfold atI ixN
 rw [if_pos (by decide),if_pos (by rw [zLc]; omega)]
 rfl
theorem Gz {α:Type} (a b:α) (r:List α):atI (a :: b :: r) (1:Int)=some b:=by
 unfold atI ixN
 rw [if_pos (by decide),if_pos (by rw [zLc,zLc]; omega)]
 rfl
end DL
namespace DL
open PySem PySem.Spec L2 L3
open PyProof.Rows hiding St
open PySem.Builtin.Int (intBits)
variable {Γ:Hp->Prop}
section
variable {X:Cx} {C:Addr} {ns ps:List Str} {m:Str} {T:FT} {te:TD} {t:TDs} {k:Nat} {o e:Expr} {es:List Expr} {apos pos:Pos}
structure FMD (P:Program) (w:World) (K:W.Frag) (mg:Str->Option Value) (base:Heap) (k:Nat) (C:Addr) (ns:List Str) (m:Str) (ps:List Str) (T:FT):Prop where
 ex:∃ f fd,FnOk P w K mg base CX0 k f fd ps (spD K ps.length T) /\ xw K fd ps [] /\ Meth K C m f
 no:m ∉ ns
noncomputable def Ho (n:Nat) (C:Addr) (ns:List Str) (T:FT) (te:TD) (t:TDs):TD:=fun ρ φ=>te ρ fun r=>(∃ ds,r.d=.ob C ns ds) /\ t ρ fun rs=>Nat.beq (rs.length + 1) n=true /\ T (r.d :: rs.map EV.d) φ
theorem M2 {pl:Sem Bool} (O:CO X.K C ns) (F:FMD X.prog X.w X.K X.mg X.base k C ns m ps T) (hr:Room k X.A) (ho:ED Γ X o te) (ha:EA Γ X (e :: es) t)
  (hst:starEach (e :: es) X.env=(false,eval e X.env) :: starEach es X.env:=by rfl) (hpl:(backTo pos (starEach es X.env)).any (·.1)=false:=by rfl)
  (ht:eval (.Call (.Attribute o m apos) (e :: es) [] pos) X.env=(do
   let ov <- eval o X.env
   standAt apos.atName
   let (f,first) <- holding [ov] (getMethod ov m pl)
   callWith pos f first (backTo pos (starEach (e :: es) X.env)) (backToKw pos (keywordEach [] X.env))):=by rfl) :
  ED Γ X (.Call (.Attribute o m apos) (e :: es) [] pos) (Ho ps.length C ns T te t):=fun H₀=>by
 obtain ⟨f,fd,ok,b,hm⟩:=F.ex
 refine impE (Vt (ho H₀) O.cl hm ok hr b .nil gj (ha H₀) hst hpl ht) fun σ H Q q=>?_
 obtain ⟨ρ,o,R,φ,hφ,k⟩:=q
 refine ⟨ρ,o,R,_,hφ,fun v r H1 s1 rv h1=>?_⟩
 obtain ⟨⟨ds,ed⟩,h1⟩:=h1
 have vw:=rv.view
 obtain ⟨kd,d⟩:=r
 cases ed
 have v0:Rep X.K H1 [] (.ob C ns ds) v:=vw.rep0
 obtain ⟨a,dx,xs,rfl,q,_,ln,nd,rr⟩:=vw
 refine ⟨a,dx,_,rfl,q,uj F.no,ρ,o,R.to s1,_,h1,fun vs rs H2 s2 rvs h2=>?_⟩
 show spD X.K ps.length T (.ref a :: (vs ++ [])) H2 Q E0
 rw [List.append_nil]
 refine ⟨.ob C ns ds :: rs.map EV.d,φ,by rw [zLc,zLm]; exact Nat.eq_of_beq_eq_true h2.1,⟨_,_,rfl,Rep.grow (Grow.same s2) _ _ v0,rvs.reps0⟩,h2.2,fun u r' H3 s3 rv' pr h3=>?_⟩
 exact k u r' H3 ((s1.trans s2).trans s3) (RV.start (rv'.lift pr fun a e=>R.ofree ((s1.trans s2).free e)) (s1.trans s2)) h3
theorem Jz {P:Program} {w:World} {K:W.Frag} {mg:Str->Option Value} {base:Heap} {x qual m:Str} {st:Stmt} {f:Addr} {fd:FuncData} {N ps:List Str} {k:Nat} {T:FT} {C:Addr} {ns:List Str} (F:Fun K x qual st f fd) (S:zn N ps (zb st)) (b:xw K fd ps []) (hm:Meth K C m f) (no:m ∉ ns)
  (qY:∀ (qZ:Value) (A:Around) (outer:List Env) (s:Shared) (H:Hp) (E:XK) (ds:List D) (φ:EV->Prop),Room k (A.deeper (envOfC qual (zb st) s.heap.objs.size f qZ))->ds.length=ps.length->T ds φ ->
   ∃ t,SDs (fun _=>True) (cxOf CX0 P w K mg base N qual (zb st) f qZ A outer s H E).nox (y0 st) t /\ t (yb N.length ds) { nx:=fun _=>φ (dv .non),rt:=fun r=>xf r /\ φ r }):FMD P w K mg base (k + 1) C ns m ps T :=
 ⟨⟨f,fd,T7 F S qY,b,hm⟩,no⟩
end
end DL
namespace L2
open PySem PySem.Spec PyProof.Rows
structure FunV (K:W.Frag) (x qual:Str) (st:Stmt) (f:Addr) (v:Value) (fd:FuncData):Prop where
 ex:∃ (T:Addr) (oT:Obj) (n:Nat) (oc:Value) (od:Option Addr) (kV doc pm:Value) (an:Option Addr) (qZ ct:Value) (osl:Array (Option Value)),
  fd=W.fnOf x qual (wa st) (y0 st) (zb st) (.ref T) kV doc pm an qZ ct /\ K.lookup f=some ⟨oc,od,.func fd,osl⟩ /\ W.codeIn K qZ qual=true /\ K.lookup T=some oT /\ oT.data=.seq #[v] n
 kp:W.keepIn K (.ref f)=true
section
variable {P:Program} {w:World} {K:W.Frag} {mg:Str->Option Value} {base:Heap}
theorem FunV.ok {x qual:Str} {st:Stmt} {f:Addr} {v:Value} {fd:FuncData} {N ps:List Str} {k:Nat} {sp:Sp} (F:FunV K x qual st f v fd) (S:zn N ps (zb st)) (len:∀ vs H Q E,sp vs H Q E->vs.length=ps.length)
  (qY:∀ (qZ:Value) (A:Around) (outer:List Env) (s:Shared) (H:Hp) (vs:List V) (Q:VK) (E:XK),Room k (A.deeper (envOfC qual (zb st) s.heap.objs.size f qZ))->sp vs H Q E ->
   ∃ t,PSs (cxOf CX0 P w K mg base N qual (zb st) f qZ A outer s H E).nox (y0 st) t /\ t { nx:=fun _ H'=>Q .non H',rt:=Q } (start N vs) H):FnOk P w K mg base CX0 (k + 1) f fd ps sp:=by
 obtain ⟨T,oT,n,oc,od,kV,doc,pm,an,qZ,ct,osl,rfl,lk,hcd,_⟩:=F.ex
 refine Qa lk hcd S len fun A outer s H vs Q E hr hsp=>?_
 obtain ⟨t,h,q⟩:=qY qZ A outer s H vs Q E hr hsp
 exact ⟨t,h.nox,q⟩
theorem FunV.binds {x qual:Str} {st:Stmt} {f:Addr} {v:Value} {fd:FuncData} {ps:List Str} {ds:List Value} (F:FunV K x qual st f v fd)
  (h:∀ (T:Addr) (kV doc pm:Value) (an:Option Addr) (qZ ct:Value) (us:List Value),(us ++ ds).length=ps.length->∃ k:Option (Array Value)->Sem (List (Str × Value)),bindArgs (W.fnOf x qual (wa st) (y0 st) (zb st) (.ref T) kV doc pm an qZ ct) ⟨us,[]⟩=seqItems? (.ref T) >>= k /\ k (some #[v])=pure (ps.zip (us ++ ds))):xw K fd ps ds:=by
 obtain ⟨T,oT,n,oc,od,kV,doc,pm,an,qZ,ct,osl,rfl,lk,hcd,lT,dT⟩:=F.ex
 intro s us KX hl
 obtain ⟨k,h1,h2⟩:=h T kV doc pm an qZ ct us hl
 exact .of_defaults (T:=T) (o:=oT) (items:=#[v]) (n:=n) rfl (KX _ _ lT) dT h1 h2
end
end L2
namespace DL
open PySem PySem.Spec L2 L3
open PyProof.Rows hiding St
variable {Γ:Hp->Prop} {l:Nat}
structure FDV (P:Program) (w:World) (K:W.Frag) (mg:Str->Option Value) (base:Heap) (k:Nat) (x:Str) (ps:List Str) (c:Int) (T:FT):Prop where
 ex:∃ f fd t,FnOk P w K mg base CX0 k f fd ps (spD K ps.length T) /\ xw K fd ps [.int c t] /\ W.keepIn K (.ref f)=true /\ mg x=some (.ref f)
section
variable {X:Cx} {x:Str} {ps:List Str} {T:FT} {k:Nat} {e:Expr} {es:List Expr} {t:TDs} {p pos:Pos} {c:Int}
noncomputable def Hr (n:Nat) (c:Int) (T:FT) (t:TDs):TD:=fun ρ φ=>t ρ fun rs=>Nat.beq (rs.length + 1) n=true /\ T (rs.map EV.d ++ [.int c]) φ
theorem Qn (F:FDV X.prog X.w X.K X.mg X.base k x ps c T) (hr:Room k X.A) (ha:EA Γ X (e :: es) t) (hg:Gl X x:=by rfl) (hdb:(x == ("__debug__" : Str))=false:=by decide)
  (he:starEach (e :: es) X.env=(false,eval e X.env) :: starEach es X.env:=by rfl) (hpl:(backTo pos (starEach es X.env)).any (·.1)=false:=by rfl):ED Γ X (.Call (.Name x p) (e :: es) [] pos) (Hr ps.length c T t):=fun H₀=>by
 obtain ⟨f,fd,tk,ok,b,kp,m⟩:=F.ex
 refine impE (gi ok hr hg m kp b (dvs:=[.int c]) (.cons ⟨tk,rfl⟩ .nil) gj (ha H₀) hdb he hpl) fun σ H Q q=>?_
 obtain ⟨ρ,o,R,φ,hφ,kk⟩:=q
 refine ⟨ρ,o,R,_,hφ,fun vs rs H1 s1 rvs h1=>?_⟩
 show spD X.K ps.length T (vs ++ [.int c]) H1 Q E0
 refine ⟨rs.map EV.d ++ [.int c],φ,by rw [zLa,zLm]; exact Nat.eq_of_beq_eq_true h1.1,rvs.reps0.append (Reps.one (show Rep X.K H1 [] (.int c) (.int c) from rfl)),h1.2,fun v r H2 s2 rv pr h2=>?_⟩
 exact kk v r H2 (s1.trans s2) (RV.start (rv.lift pr fun a e=>R.ofree (s1.free e)) s1) h2
end
section
variable {P:Program} {w:World} {K:W.Frag} {mg:Str->Option Value} {base:Heap}
theorem Jv {qual m:Str} {st s0 s1 s2 s3 s4:Stmt} {f C:Addr} {fd:FuncData} {N ps:List Str} {k nI nM l:Nat} {T:FT} {TI:FTQ} {TM:FTR} {ns:List Str} {as1:List Expr}
  (hok:∀ {sp:Sp},(∀ vs H Q E,sp vs H Q E->vs.length=ps.length)->(∀ (qZ:Value) (A:Around) (outer:List Env) (s:Shared) (H:Hp) (vs:List V) (Q:VK) (E:XK),Room k (A.deeper (envOfC qual (zb st) s.heap.objs.size f qZ))->sp vs H Q E ->
   ∃ t,PSs (cxOf CX0 P w K mg base N qual (zb st) f qZ A outer s H E).nox (y0 st) t /\ t { nx:=fun _ H'=>Q .non H',rt:=Q } (L2.start N vs) H)->FnOk P w K mg base CX0 (k + 1) f fd ps sp) (no:m ∉ ns) (hb:y0 st=[s0,s1,s2,s3,s4]) (lM:nM=1)
  (qY:∀ (qZ:Value) (A:Around) (outer:List Env) (s:Shared) (H:Hp) (E:XK) (ds:List D) (φ:EV->Prop),Room k (A.deeper (envOfC qual (zb st) s.heap.objs.size f qZ))->ds.length=ps.length->T ds φ ->
   ∃ t0 ta t2 t3,SD (fun _=>True) (cxOf CX0 P w K mg base N qual (zb st) f qZ A outer s H E).nox s0 t0 /\ EA (fun _=>True) (cxOf CX0 P w K mg base N qual (zb st) f qZ A outer s H E).nox as1 ta /\
    (∀ {t:TA},PA (cxOf CX0 P w K mg base N qual (zb st) f qZ A outer s H E).nox as1 t->PS (cxOf CX0 P w K mg base N qual (zb st) f qZ A outer s H E).nox s1 (tAsg (L7 C (spQ K nI TI) [] E0 t) (kz l))) /\
    QS (fun _=>True) l (cxOf CX0 P w K mg base N qual (zb st) f qZ A outer s H E).nox s2 t2 /\ QS (fun _=>True) l (cxOf CX0 P w K mg base N qual (zb st) f qZ A outer s H E).nox s3 t3 /\
    PS (cxOf CX0 P w K mg base N qual (zb st) f qZ A outer s H E).nox s4 (tRet (Sl C m (spR K nM TM) [] E0 (tVar l) tNil)) /\
    t0 (yb N.length ds) { nx:=fun ρ=>l < ρ.length /\ ta ρ fun rs=>(∀ r ∈ rs,r.k ≠ .own) /\ rs.length + 1=nI /\ TI (.ob C [] []) (rs.map EV.d) fun r0 d=>r0=.non /\ t2 (setS ρ l (dv d)) { nx:=fun ρ1=>t3 ρ1 { nx:=fun ρ2=>∃ ds,slot ρ2 l=some (dv (.ob C ns ds)) /\ TM (.ob C ns ds) [] fun e=>φ ⟨.new,e⟩,rt:=fun _ _=>False },rt:=fun _ _=>False },rt:=fun _=>False }):FnOk P w K mg base CX0 (k + 1) f fd ps (spD K ps.length T):=by
 refine hok (fun vs H Q E h=>?_) (fun qZ A outer s H vs Q E hr h=>?_)
 ·obtain ⟨ds,φ,hl,r,_⟩:=h
  rw [r.length,hl]
 ·obtain ⟨ds,φ,hl,r,hT,kk⟩:=h
  obtain ⟨t0,ta,t2,t3,h0,ha,h1,h2,h3,h4,hq⟩:=qY qZ A outer s H E ds φ hr hl hT
  rw [hb]
  refine ⟨_,wt (h0 ⟨H,trivial⟩) (wt (h1 (ha ⟨H,trivial⟩)) (wt (h2 ⟨H,trivial⟩) (wt (h3 ⟨H,trivial⟩) (qc h4)))),?_⟩
  have R0:=wz (N:=N) (ds:=ds) (vs:=vs) (H:=H) r
  refine ⟨_,[],R0,_,hq,fun ρ σ1 H1 o1 g1 R1 hn=>?_,fun _ _ _ _ _ _ q=>q.elim,fun _ _ _ _ _ _ q=>q.elim,fun _ _ _ _ _ q=>q.elim⟩
  obtain ⟨hlt,hn⟩:=hn
  refine ⟨ρ,o1,R1,_,hn,fun us rs H2 s2' rvs hn2=>?_⟩
  obtain ⟨hown,hlen,hn2⟩:=hn2
  intro x0 dx hx0 hdx hne
  have sx:Same H2 (upd (upd H2 dx (.own x0)) x0 (.ins C dx [])):=(zp hdx _).trans (zp (by rw [zj (Ne.symm hne)]; exact hx0) _)
  show spQ K nI TI (.ref x0 :: (us ++ [])) _ _ E0
  rw [List.append_nil]
  have rr:=rvs.reps hown
  have gx:Grow (o1.map Prod.snd) [x0] H2 (upd (upd H2 dx (.own x0)) x0 (.ins C dx [])):=⟨fun c u hc _=>⟨sx _ _ hc,fun z=>by rw [List.mem_singleton.mp z,hx0] at hc; cases hc⟩,fun c xs hc=>sx _ _ hc,fun c ob u hc=>sx _ _ hc⟩
  refine ⟨.ob C [] [],rs.map EV.d,.ref x0,us,[x0],_,rfl,by rw [zLm]; exact hlen,⟨x0,dx,[],[],rfl,zi,rfl,List.nodup_nil,rfl,rfl,rfl⟩,by simp,Reps.grow gx _ _ rr,hn2,fun u r0 d H3 A3 g3 ft3 nd3 fr3 pr3 rp3 hn3=>?_⟩
  obtain ⟨rfl,hn3⟩:=hn3
  have s13:Same H1 H3:=fun c u hc=>(g3.keep c u (sx _ _ (s2' _ _ hc)) fun z=>by rw [List.mem_singleton.mp z] at hc; rw [s2' _ _ hc] at hx0; cases hx0).1
  have fr13:∀ a ∈ A3,H1 a=none:=fun a ha=>by
   rcases fr3 a ha with z | z
   ·rw [List.mem_singleton.mp z]; exact s2'.free hx0
   ·exact s2'.free (sx.free z)
  refine ⟨rp3,?_⟩
  have S3:=ST.make (l:=l) R1 hlt s13 ft3 nd3 fr13
  refine ⟨_,o1,A3,d,.ref x0,S3,_,hn3,fun ρ4 σ4 H4 o4 A4 d4 S4 hn4=>⟨ρ4,o4,A4,d4,.ref x0,S4,_,hn4,fun ρ5 σ5 H5 o5 A5 d5 S5 hn5=>?_,fun _ _ _ _ _ _ _ q=>q.elim,fun _ _ _ _ _ _ _ q=>q.elim,fun _ _ _ _ _ _ _ _ _ _ _ q=>q.elim⟩,fun _ _ _ _ _ _ _ q=>q.elim,fun _ _ _ _ _ _ _ q=>q.elim,fun _ _ _ _ _ _ _ _ _ _ _ q=>q.elim⟩
  obtain ⟨es,esl,hn5⟩:=hn5
  have e5:some (dv d5)=some (dv (.ob C ns es)):=by rw [<- esl]; exact (w6 S5.hd).symm
  cases e5
  obtain ⟨a5,dx5,xs5,B5,ev5,q5,ln5,nn5,eA5,r5⟩:=id S5.ft
  refine ⟨.ref x0,S5.hv,a5,dx5,_,ev5,q5,uj no,?_⟩
  show spR K nM TM (.ref x0 :: ([] ++ [])) H5 Q E0
  refine ⟨_,[],.ref x0,[],A5,_,rfl,by rw [lM]; rfl,S5.ft,S5.ndA,rfl,hn5,fun u5 e H6 k6 rn6 hn6=>?_⟩
  refine kk u5 ⟨.new,e⟩ H6 (fun c u hc=>k6 c u (S5.Q.same _ _ hc) fun z=>by have z2:H c=none:=S5.frA c z; rw [z2] at hc; cases hc) (RepN.to (Same.refl _) (fun a ha=>⟨by simp,?_⟩) _ _ rn6) trivial hn6
  exact ha.elim (S5.frA a) fun z=>S5.Q.same.free z
end
end DL
namespace DL
open PySem PySem.Spec L2 L3
open PyProof.Rows hiding St
structure MZ where
 nx:DE->Prop
 rt:DE->EV->Prop
noncomputable abbrev TM:=DE->MZ->Prop
end DL
namespace DL
open PySem PySem.Spec L2 L3
open PyProof.Rows hiding St
variable {Γ:Hp->Prop}
noncomputable def spV (K:W.Frag) (n:Nat) (T:FT):Sp:=fun vs H Q _=>∃ ds φ,ds.length=n /\ Reps K H [] ds vs /\ T ds φ /\ ∀ v r H',Same H H'->RV K H H' [] r v->φ r->Q v H'
structure FV (P:Program) (w:World) (K:W.Frag) (mg:Str->Option Value) (base:Heap) (k:Nat) (x:Str) (ps:List Str) (T:FT):Prop where
 ex:∃ f fd,FnOk P w K mg base CX0 k f fd ps (spV K ps.length T) /\ xw K fd ps [] /\ W.keepIn K (.ref f)=true /\ mg x=some (.ref f)
noncomputable def frzA (ρ:DE):DE:=ρ.map (Option.map fun r:EV=>dv r.d)
theorem REnv.frzA {K:W.Frag} {H₀ H:Hp} {σ:St} {ρ:DE} {o:List (Nat × Addr)} (R:REnv K H₀ H σ ρ o):REnv K H₀ H σ (frzA ρ) [] where
 same:=R.same
 fresh:=fun _ z=>absurd z (by simp)
 trk:=fun _ z=>absurd z (by simp)
 mtb:=fun _ z=>absurd z (by simp)
 nda:=List.nodup_nil
 len:=by unfold DL.frzA; rw [zLm]; exact R.len
 slots:=fun i r e=>by
  unfold DL.frzA at e
  rw [List.getElem?_map] at e
  cases e1:ρ[i]? with
  | none=>rw [e1] at e; cases e
  | some x =>
   rw [e1] at e
   cases x with
   | none=>cases e
   | some r' =>
    have e':some (dv r'.d)=some r:=Option.some.inj e
    cases e'
    obtain ⟨v,ev,q⟩:=R.slots i r' e1
    refine ⟨v,ev,.inl ⟨rfl,?_⟩⟩
    rcases q with ⟨_,q⟩ | ⟨_,a,rfl,m,c⟩
    ·exact Rep.sub (fun _ z=>absurd z (by simp)) _ _ q
    ·exact (c.sub (fun _ z=>absurd z (by simp))).rep (by simp)
theorem Jr {O O':List Addr} {H H':Hp} (g:Grow [] O' H H'):Grow O O' H H':=⟨fun b u h _=>g.1 b u h (by simp),g.2,g.3⟩
section
variable {X:Cx} {x y:Str} {ps:List Str} {T:FT} {k:Nat} {e:Expr} {es:List Expr} {t:TDs} {p pos pos' pos2:Pos}
noncomputable def G6 (i n:Nat) (T:FT) (t:TDs):TDS:=fun ρ Z=>t (frzA ρ) fun rs=>Nat.beq rs.length n=true /\ T (rs.map EV.d) fun r=>(match r.k with | .own=>False | _=>True) /\ Z.nx (setS (frzA ρ) i r.sto)
theorem Oa (i:Nat) (hN:X.N.Nodup) (F:FV X.prog X.w X.K X.mg X.base k x ps T) (hr:Room k X.A) (ha:EA Γ X (e :: es) t) (hg:Gl X x:=by rfl) (hdb:(x == ("__debug__" : Str))=false:=by decide)
  (he:starEach (e :: es) X.env=(false,eval e X.env) :: starEach es X.env:=by rfl) (hpl:(backTo pos (starEach es X.env)).any (·.1)=false:=by rfl) (hi:X.N[i]?=some y:=by rfl) (hx:Loc X.env.scope y:=by first | exact Or.inl rfl | exact Or.inr rfl) (hs:swapsWith (.Call (.Name x p) (e :: es) [] pos) (some (.Name y pos')) pos2.line X.env=pure false:=by rfl)
  (hf:X.fn y=true \/ X.env.scope.names.lookup y=some .local:=by first | exact .inl rfl | exact .inr rfl | assumption):SD Γ X (.Assign [.Name y pos'] (.Call (.Name x p) (e :: es) [] pos) pos2) (G6 i ps.length T t):=fun H₀=>by
 obtain ⟨f,fd,ok,b,kp,m⟩:=F.ex
 refine impS (qf hN hi hx (gi ok hr hg m kp b .nil gj (ha H₀) hdb he hpl) hs hf) fun D σ H h=>?_
 obtain ⟨ρ,o,R,Z,hZ,k1,k2,k3,k4⟩:=h
 refine ⟨frzA ρ,[],R.frzA,_,hZ,fun vs rs H1 s1 rvs h1=>?_⟩
 show spV X.K ps.length T (vs ++ []) H1 _ E0
 rw [List.append_nil]
 refine ⟨rs.map EV.d,_,by rw [zLm]; exact Nat.eq_of_beq_eq_true h1.1,rvs.reps0,h1.2,fun v r H2 s2 rv h2=>?_⟩
 obtain ⟨o',R',g⟩:=R.frzA.put (s1.trans s2) i (RV.start rv s1) (v3 h2.1)
 exact k1 _ _ H2 o' (Jr g) R' h2.2
end
section
variable {P:Program} {w:World} {K:W.Frag} {mg:Str->Option Value} {base:Heap}
theorem Jx {x qual:Str} {st:Stmt} {f:Addr} {fd:FuncData} {N ps:List Str} {k:Nat} {T:FT} (F:Fun K x qual st f fd) (S:zn N ps (zb st))
  (qY:∀ (qZ:Value) (A:Around) (outer:List Env) (s:Shared) (H:Hp) (E:XK) (ds:List D) (φ:EV->Prop),Room k (A.deeper (envOfC qual (zb st) s.heap.objs.size f qZ))->ds.length=ps.length->T ds φ ->
   ∃ t,SDs (fun _=>True) (cxOf CX0 P w K mg base N qual (zb st) f qZ A outer s H E).nox (y0 st) t /\ t (yb N.length ds) { nx:=fun _=>φ (dv .non),rt:=φ }):FnOk P w K mg base CX0 (k + 1) f fd ps (spV K ps.length T):=by
 refine F.ok S (fun vs H Q E h=>?_) (fun qZ A outer s H vs Q E hr h=>?_)
 ·obtain ⟨ds,φ,hl,r,_⟩:=h
  rw [r.length,hl]
 ·obtain ⟨ds,φ,hl,r,hT,kk⟩:=h
  obtain ⟨t,ht,hq⟩:=qY qZ A outer s H E ds φ hr hl hT
  have rl:=r.length
  refine ⟨Y6 K H t,ht ⟨H,trivial⟩,yb N.length ds,[],⟨Same.refl H,(fun _ z=>absurd z (by simp)),(fun _ z=>absurd z (by simp)),(fun _ z=>absurd z (by simp)),List.nodup_nil,fun i r' e=>?_,?_⟩,_,hq,fun ρ' σ' H' o' g R' q=>?_,fun _ _ _ _ _ _ q=>q.elim,fun _ _ _ _ _ _ q=>q.elim,fun v r' H' s' rv q=>kk v r' H' s' rv q⟩
  ·unfold yb at e
   rcases Nat.lt_or_ge i ds.length with hi | hi
   ·rw [List.getElem?_append_left (by simpa using hi),List.getElem?_map] at e
    have ed:ds[i]?=some ds[i]:=by simp [hi]
    rw [ed] at e
    have e':some (dv ds[i])=some r':=Option.some.inj e
    cases e'
    obtain ⟨v,ev,rv⟩:=r.get ed
    refine ⟨v,?_,.inl ⟨rfl,rv⟩⟩
    unfold L2.start
    rw [List.getElem?_append_left (by rw [zLm,rl]; exact hi),List.getElem?_map,ev]
    rfl
   ·rw [List.getElem?_append_right (by simpa using hi),List.getElem?_replicate] at e
    split at e <;> cases e
  ·unfold L2.start yb
   simp [rl]
  ·exact kk .non (dv .non) H' R'.same rfl q
theorem Jt {x qual:Str} {st:Stmt} {f:Addr} {fd:FuncData} {N ps:List Str} {k:Nat} {T:FT} (F:Fun K x qual st f fd) (S:zn N ps (zb st)) (b:xw K fd ps []) (m:mg x=some (.ref f))
  (qY:∀ (qZ:Value) (A:Around) (outer:List Env) (s:Shared) (H:Hp) (E:XK) (ds:List D) (φ:EV->Prop),Room k (A.deeper (envOfC qual (zb st) s.heap.objs.size f qZ))->ds.length=ps.length->T ds φ ->
   ∃ t,SDs (fun _=>True) (cxOf CX0 P w K mg base N qual (zb st) f qZ A outer s H E).nox (y0 st) t /\ t (yb N.length ds) { nx:=fun _=>φ (dv .non),rt:=φ }):FV P w K mg base (k + 1) x ps T:=⟨f,fd,Jx F S qY,b,F.kp,m⟩
end
noncomputable def Lj (K:W.Frag) (C0 C2:Addr) (tb:(DE->Addr->Prop)->TDS) (ts ts2:TDS):TDS:=fun ρ Z =>
 tb (fun ρ' C=>(W.exmOne K (.ref C) (.ref C0)=some true /\ ts ρ' Z) \/ (W.exmOne K (.ref C) (.ref C0)=some false /\ W.exmOne K (.ref C) (.ref C2)=some true /\ ts2 ρ' Z)) (frzE ρ) Z
theorem O9 {X:Cx} {K0:W.Frag} (hK:X.K=K0) {c c2:Str} {C0 C2:Addr} {body:List Stmt} {b₀ b₂:Stmt} {suite suite2:List Stmt} {np hpos np2 hpos2 pos:Pos} {tb:(DE->Addr->Prop)->TDS} {ts ts2:TDS} (hm:X.mg c=some (.ref C0)) (hm2:X.mg c2=some (.ref C2))
  (hb:∀ (Γ':Hp->Prop) (pn:List (Addr × Obj)) (xe:Value->Shared->Prop) (χ:DE->Addr->Prop),XP Γ' (Xtry X pn xe) χ->SDs Γ' (Xtry X pn xe) body (tb χ))
  (hs:∀ a,SDs Γ (Xhan X a) (b₀ :: suite) ts) (hs2:∀ a,SDs Γ (Xhan X a) (b₂ :: suite2) ts2) (hst:X.stack=X.env :: X.outer:=by rfl) (hfr:X.env.frame=some X.env.locals:=by rfl)
  (hg:Gl X c:=by rfl) (hdb:(c == ("__debug__" : Str))=false:=by decide) (hg2:Gl X c2:=by rfl) (hdb2:(c2 == ("__debug__" : Str))=false:=by decide) :
  SD Γ X (.Try body [.ExceptHandler (some (.Name c np)) none (b₀ :: suite) hpos,.ExceptHandler (some (.Name c2 np2)) none (b₂ :: suite2) hpos2] [] [] pos) (Lj K0 C0 C2 tb ts ts2):=fun H₀ pn s σ H D I h=>by
 subst hK
 obtain ⟨ρ,o,R,Z,hZ,k1,k2,k3,k4⟩:=h
 refine wpAny_Try_except ?_
 have hfrm:X.A.frames=some (X.env :: X.outer):=by rw [<- hst]; exact I.ok.frames
 have back:∀ {xe:Value->Shared->Prop} {σ':St} {H':Hp} {s':Shared},Inv (Xtry X (X.pn ++ pn) xe) [] σ' H' s'->Inv X pn σ' H' s':=fun {xe σ' H' s'} J =>
  ul (X:=Xtry X (X.pn ++ pn) xe) (A':=X.A) (calm':=X.calm) (pn':=X.pn) (xe':=X.xe) J rfl (fun z=>I.ok.hd z) (fun p hp=>List.mem_append_left _ hp)
 have go:=hb (fun H'=>H'=H) (X.pn ++ pn) (fun e s₁=>wpAny (model X.prog X.w) X.A (noteFrame e X.env) (fun _ s₂=>wpAny (model X.prog X.w) X.A (setFlight e none) (fun _ s₃=>wpAny (model X.prog X.w) X.A (handleBy e X.env [.ExceptHandler (some (.Name c np)) none (b₀ :: suite) hpos,.ExceptHandler (some (.Name c2 np2)) none (b₂ :: suite2) hpos2]) (SP X pn D) X.xe s₃) X.xe s₂) X.xe s₁)
  (fun ρ' C=>(W.exmOne X.K (.ref C) (.ref C0)=some true /\ ts ρ' Z) \/ (W.exmOne X.K (.ref C) (.ref C0)=some false /\ W.exmOne X.K (.ref C) (.ref C2)=some true /\ ts2 ρ' Z)) (fun H₀' hH ρ1 o1 pins' σ1 H1 s1 e s' J R1 hc=>?_) ⟨H,rfl⟩ [] s σ H D
  (ul (A':=X.A) (calm':=X.calm) (pn':=X.pn ++ pn) I rfl (fun z=>I.ok.hd z) (fun p hp=>by rwa [List.append_nil] at hp))
  ⟨frzE ρ,[],R.frz,Z,hZ,fun ρ' σ' H' o' g R' q=>k1 ρ' σ' H' o' R'.gr (R'.unfrz R.same) q,fun ρ' σ' H' o' g R' q=>k2 ρ' σ' H' o' R'.gr (R'.unfrz R.same) q,fun ρ' σ' H' o' g R' q=>k3 ρ' σ' H' o' R'.gr (R'.unfrz R.same) q,
   fun v r H' sm rv q=>k4 v r H' (R.same.trans sm) (rv.start R.same) q⟩
 ·refine wpAny_mono go (fun f s1 hf=>?_) (fun e s1 he=>he)
  cases f with
  | next=>obtain ⟨σ',H',J,q⟩:=hf; exact qe pn s1 σ' H' D (back J) q
  | brk=>obtain ⟨σ',H',J,q⟩:=hf; exact ⟨σ',H',back J,q⟩
  | cont=>obtain ⟨σ',H',J,q⟩:=hf; exact ⟨σ',H',back J,q⟩
  | ret u=>obtain ⟨v,σ',H',J,rv,q⟩:=hf; exact ⟨v,σ',H',back J,rv,q⟩
 ·subst hH
  obtain ⟨a,C,t,H',B,rfl,hos,hbare,F,fl,sm,C',e',hmt⟩:=hc
  cases e'
  have hf:∀ b ∈ L2.frs X.stack,H' b=none:=fun b hb=>by
   obtain ⟨_,o,ho,_⟩:=J.stack.mem hb
   exact F.un.free b o ho (J.stkFree b hb) (fun z=>nomatch z)
  have fl':Heap.FlyingW B (X.env :: X.outer) a (.ref C) t s'.heap:=by rw [<- hst]; exact fl
  refine wpAny_looks_onW hfrm hfr fl' fun h₄ held₄ u₄=>?_
  refine wpAny_landsW held₄ fun h₅ fl₅ u₅=>?_
  have F5:FlyB X.prog X.w X.stack H1 s1.heap H' B h₅:=F.step fl₅.1 (u₄.trans u₅) fl.2.2.1 hf
  have inX:∀ {H2:Hp} {hh:Heap},Un (L2.frs X.stack) [] H1 H2 s1.heap hh->HOk X.prog X.w H2 hh->Inv (Xhan X a) pn σ1 H2 { s' with heap:=hh }:=fun {H2 hh} un hok=>by
   have J5:=J.call' (s':={ s' with heap:=hh }) hos un hok hbare (fun b z=>absurd z (by simp))
   exact ul (X:=Xtry X (X.pn ++ pn) _) (A':=X.A.mark (some (.ref a))) (calm':=false) (pn':=X.pn) J5 rfl (fun z=>nomatch z) (fun p hp=>List.mem_append_left _ hp)
  have J5:=inX F5.un F5.hok
  have LT:W.Looks (model X.prog X.w) h₅ (typeOf (.ref a)) (.ref C):=by
   obtain ⟨ob,hob,hcls⟩:=fl₅.there
   exact hcls ▸ (W.Looks.ld hob).andThen .now
  rcases hmt with hmt | hmt
  ·refine wpAny_handleBy_cons (codeAny_handlers_test (wm (X:=Xhan X a) J5 hg hm ?_ hdb)) (by intro q; cases q)
   refine (W.exm_one J5.kIn LT hmt.1).here ?_
   refine codeAny_handlers_suite ?_
   refine lands_againW fl₅ fun h₆ fl₆ u₆=>?_
   have F6:FlyB X.prog X.w X.stack H1 s1.heap H' B h₆:=F5.step fl₆.1 u₆ (by rw [hst]; exact fl₅.2.2.1) hf
   have R6:=(R1.unfrz R.same).to sm
   have gr:Grow (o.map Prod.snd) (o1.map Prod.snd) H₀' H':=R1.gr.trans (Grow.same sm)
   have suite:=hs a H₀ pn _ _ _ D (inX F6.un F6.hok)
    ⟨_,o1,R6,Z,hmt.2,fun ρ' σ' H2 o' g R' q=>k1 _ _ H2 o' (gr.trans g) R' q,fun ρ' σ' H2 o' g R' q=>k2 _ _ H2 o' (gr.trans g) R' q,fun ρ' σ' H2 o' g R' q=>k3 _ _ H2 o' (gr.trans g) R' q,k4⟩
   have backH:∀ {σ':St} {H':Hp} {s':Shared},Inv (Xhan X a) pn σ' H' s'->Inv X pn σ' H' s':=fun {σ' H' s'} J =>
    ul (X:=Xhan X a) (A':=X.A) (calm':=X.calm) (pn':=X.pn) (xe':=X.xe) J rfl (fun z=>I.ok.hd z) (fun p hp=>hp)
   refine wpAny_mono suite (fun f s8 hf=>?_) (fun _ _ z=>z.elim)
   cases f with
   | next=>obtain ⟨σ',H2,J8,q⟩:=hf; exact ⟨_,H2,backH J8,q⟩
   | brk=>obtain ⟨σ',H2,J8,q⟩:=hf; exact ⟨_,H2,backH J8,q⟩
   | cont=>obtain ⟨σ',H2,J8,q⟩:=hf; exact ⟨_,H2,backH J8,q⟩
   | ret u=>obtain ⟨v,σ',H2,J8,rv,q⟩:=hf; exact ⟨v,_,H2,backH J8,rv,q⟩
  ·refine wpAny_handleBy_cons (codeAny_handlers_test (wm (X:=Xhan X a) J5 hg hm ?_ hdb)) (by intro q; cases q)
   refine (W.exm_one J5.kIn LT hmt.1).here ?_
   show wpAny _ _ (handleBy _ _ _) _ _ _
   refine wpAny_handleBy_cons (codeAny_handlers_test (wm (X:=Xhan X a) J5 hg2 hm2 ?_ hdb2)) (by intro q; cases q)
   refine (W.exm_one J5.kIn LT hmt.2.1).here ?_
   refine codeAny_handlers_suite ?_
   refine lands_againW fl₅ fun h₆ fl₆ u₆=>?_
   have F6:FlyB X.prog X.w X.stack H1 s1.heap H' B h₆:=F5.step fl₆.1 u₆ (by rw [hst]; exact fl₅.2.2.1) hf
   have R6:=(R1.unfrz R.same).to sm
   have gr:Grow (o.map Prod.snd) (o1.map Prod.snd) H₀' H':=R1.gr.trans (Grow.same sm)
   have suite:=hs2 a H₀ pn _ _ _ D (inX F6.un F6.hok)
    ⟨_,o1,R6,Z,hmt.2.2,fun ρ' σ' H2 o' g R' q=>k1 _ _ H2 o' (gr.trans g) R' q,fun ρ' σ' H2 o' g R' q=>k2 _ _ H2 o' (gr.trans g) R' q,fun ρ' σ' H2 o' g R' q=>k3 _ _ H2 o' (gr.trans g) R' q,k4⟩
   have backH:∀ {σ':St} {H':Hp} {s':Shared},Inv (Xhan X a) pn σ' H' s'->Inv X pn σ' H' s':=fun {σ' H' s'} J =>
    ul (X:=Xhan X a) (A':=X.A) (calm':=X.calm) (pn':=X.pn) (xe':=X.xe) J rfl (fun z=>I.ok.hd z) (fun p hp=>hp)
   refine wpAny_mono suite (fun f s8 hf=>?_) (fun _ _ z=>z.elim)
   cases f with
   | next=>obtain ⟨σ',H2,J8,q⟩:=hf; exact ⟨_,H2,backH J8,q⟩
   | brk=>obtain ⟨σ',H2,J8,q⟩:=hf; exact ⟨_,H2,backH J8,q⟩
   | cont=>obtain ⟨σ',H2,J8,q⟩:=hf; exact ⟨_,H2,backH J8,q⟩
   | ret u=>obtain ⟨v,σ',H2,J8,rv,q⟩:=hf; exact ⟨v,_,H2,backH J8,rv,q⟩
end DL
namespace L2
open PySem PySem.Spec PyProof.Rows
section
variable {X:Cx} {e:Expr} {pos:Pos}
theorem Ox {t:TE} (h:PE X e t):PE X (.FormattedValue e 114 none pos) (fun σ H Q=>t σ H fun x H1=>∃ z,x=.str z /\ (reprText z).length <= sizeLine /\ Q (.str (reprText z)) H1):=by
 intro pn s σ H Q I q
 refine wpAny_FormattedValue_repr (thn (h pn s σ H _ I q) fun v s1 ⟨x,H1,I1,rx,z,ex,hz,q1⟩=>?_)
 subst ex
 obtain ⟨t,rfl⟩:=rx
 refine wpAny_pyReprObj_str ?_ hz
 exact formatField_str (fun t' tk=>⟨.str _,H1,I1.tok _,⟨_,rfl⟩,q1⟩) hz
theorem Rn:MtR X "str.upper" (fun x xs H Q=>∃ a,x=.str a /\ xs=[] /\ a.length <= 1000 /\ Q (.str (Txt.upper a)) H):=by
 intro pn s σ H x xs v us Q I rx rs h
 obtain ⟨a,rfl,rfl,hl,q⟩:=h
 obtain ⟨t,rfl⟩:=rx
 cases rs
 exact SCL.upper (by omega) fun _=>⟨.str _,H,I.tok _,⟨_,rfl⟩,q⟩
end
end L2
namespace DL
open PySem PySem.Spec L2 L3
open PyProof.Rows hiding St
variable {Γ:Hp->Prop}
section
variable {X:Cx} {e o:Expr} {te td:TD} {pos apos cpos:Pos}
noncomputable def Hq (te:TD):TD:=fun ρ φ=>te ρ fun r=>match r.d with
 | .str z=>(reprText z).length <= sizeLine /\ φ (dv (.str (reprText z)))
 | _=>False
theorem M5 (h:ED Γ X e te):ED Γ X (.FormattedValue e 114 none pos) (Hq te):=fun H₀=>impE (Ox (h H₀)) fun σ H Q q=>by
 obtain ⟨ρ,o,R,φ,hφ,k⟩:=q
 refine ⟨ρ,o,R,_,hφ,fun v r H1 s1 rv h1=>?_⟩
 obtain ⟨kd,d⟩:=r
 cases d with
 | str z=>exact ⟨z,rv.view,h1.1,k _ _ H1 s1 (by exact rfl) h1.2⟩
 | _=>exact h1.elim
noncomputable def Ps (td:TD):TD:=fun ρ φ=>td ρ fun x=>match x.d with
 | .str a=>a.length <= 1000 /\ φ (dv (.str (Txt.upper a)))
 | _=>False
theorem Qi (ho:ED Γ X o td) (hbase:attributeBase o "upper" X.env (eval o X.env)=eval o X.env:=by rfl) (hline:(apos.endLine == cpos.line)=true:=by rfl) :
  ED Γ X (.Call (.Attribute o "upper" apos) [] [] cpos) (Ps td):=fun H₀ =>
 impE (b6 PySem.F.plainAttrs_str PySem.F.slot_str_upper PySem.F.type_str_upper Rn (ho H₀) hbase hline) fun σ H Q q=>by
  obtain ⟨ρ,oo,R,φ,hφ,kk⟩:=q
  refine ⟨ρ,oo,R,_,hφ,fun v r H1 s1 rv h1=>?_⟩
  obtain ⟨kd,d⟩:=r
  cases d with
  | str a =>
   cases (show v=_ from rv.view)
   exact ⟨rfl,a,rfl,rfl,h1.1,kk _ (dv (.str _)) H1 s1 (by exact rfl) h1.2⟩
  | _=>exact h1.elim
end
theorem wk {l:Nat} {X:Cx} {sts:List Stmt}:QSs Γ l X sts (fun _ _=>False):=fun H₀=>fq cy fun D σ H h=>by
 obtain ⟨_,_,_,_,_,_,_,hZ,_⟩:=h
 exact hZ.elim
section
variable {P:Program} {w:World} {K:W.Frag} {mg:Str->Option Value} {base:Heap}
theorem Gs {f:Addr} {fd:FuncData} {ps:List Str} {k:Nat} {T0:FT} {T1:FTX} (o0:FnOk P w K mg base CX0 k f fd ps (spD K ps.length T0)) (o1:FnOk P w K mg base (CX1 P w) k f fd ps (spX K ps.length T1)) :
  FnOk P w K mg base (CX1 P w) k f fd ps (spX K ps.length fun ds φ χ=>T0 ds φ \/ T1 ds φ χ):=by
 refine ⟨fun vs H Q E hs=>?_,fun A outer s H args us vs Q E hr he hb hv hs=>?_⟩
 ·obtain ⟨ds,φ,χ,hl,hR,_⟩:=hs
  rw [hR.length,hl]
 ·obtain ⟨ds,φ,χ,hl,hR,hT,kk,kx⟩:=hs
  rcases hT with hT | hT
  ·refine codeAny_mono (o0.run A outer s H args us vs Q E hr he hb hv ⟨ds,φ,hl,hR,hT,kk⟩) fun r s' q=>?_
   match r,q with
   | .ok (.ret u),q=>exact q
   | .error e,q=>exact False.elim q
  ·exact o1.run A outer s H args us vs Q E hr he hb hv ⟨ds,φ,χ,hl,hR,hT,kk,kx⟩
theorem Nv {x qual:Str} {st:Stmt} {f:Addr} {v0:Value} {fd:FuncData} {N ps:List Str} {k:Nat} {T:FTX} (F:FunV K x qual st f v0 fd) (S:zn N ps (zb st))
  (qY:∀ (qZ:Value) (A:Around) (outer:List Env) (s:Shared) (H:Hp) (E:XK) (ds:List D) (φ:EV->Prop) (χ:Addr->Prop),Room k (A.deeper (envOfC qual (zb st) s.heap.objs.size f qZ))->ds.length=ps.length->T ds φ χ ->
   XP (Same H) (cxOf (CX1 P w) P w K mg base N qual (zb st) f qZ A outer s H E) (fun _=>χ)->XR (Same H) (cxOf (CX1 P w) P w K mg base N qual (zb st) f qZ A outer s H E) (fun _=>χ) ->
   ∃ t,SDs (Same H) (cxOf (CX1 P w) P w K mg base N qual (zb st) f qZ A outer s H E) (y0 st) t /\ t (yb N.length ds) { nx:=fun _=>φ (dv .non),rt:=fun r=>xf r /\ φ r }):FnOk P w K mg base (CX1 P w) (k + 1) f fd ps (spX K ps.length T):=by
 obtain ⟨Tt,oT,nn,oc,od,kV,doc,pm,an,qZ,ct,osl,rfl,lk,hcd,_⟩:=F.ex
 refine Qa lk hcd S (fun vs H Q E h=>?_) fun A outer s H vs Q E hr h=>?_
 ·obtain ⟨ds,φ,χ,hl,r,_⟩:=h
  rw [r.length,hl]
 ·obtain ⟨ds,φ,χ,hl,r,hT,kk,kx⟩:=h
  obtain ⟨t,ht,hq⟩:=qY qZ A outer s H E ds φ χ hr hl hT (fun H₀ g ρ o pn σ H1 s1 e s' J R hc=>Vw J hc fun C H' ⟨sm,C',e',c⟩=>by cases e'; exact kx _ H' ((g.trans R.same).trans sm) c)
   (fun H₀ g ρ o pn σ H1 s1 a C vs h' J R hx c=>U9 J hx (kx C H1 (g.trans R.same) c))
  refine ⟨Y6 K H t,ht ⟨H,Same.refl H⟩,yb N.length ds,[],wz r,_,hq,fun ρ' σ' H' o' g R' q=>?_,fun _ _ _ _ _ _ q=>q.elim,fun _ _ _ _ _ _ q=>q.elim,fun v r' H' s' rv q=>kk v r' H' s' rv q.1 q.2⟩
  exact kk .non (dv .non) H' R'.same rfl trivial q
end
structure FXV (P:Program) (w:World) (K:W.Frag) (mg:Str->Option Value) (base:Heap) (k:Nat) (x:Str) (ps:List Str) (c:Int) (T:FTX):Prop where
 ex:∃ f fd t,FnOk P w K mg base (CX1 P w) k f fd ps (spX K ps.length T) /\ xw K fd ps [.int c t] /\ W.keepIn K (.ref f)=true /\ mg x=some (.ref f)
noncomputable def Tq (n:Nat) (c:Int) (T:FTX) (χ:DE->Addr->Prop) (t:TDs):TD:=fun ρ φ=>t ρ fun rs=>Nat.beq (rs.length + 1) n=true /\ T (rs.map EV.d ++ [.int c]) φ (χ ρ)
theorem Tg {X:Cx} {x:Str} {ps:List Str} {T:FTX} {k:Nat} {c:Int} {e:Expr} {es:List Expr} {t:TDs} {p pos:Pos} {χ:DE->Addr->Prop} (F:FXV X.prog X.w X.K X.mg X.base k x ps c T) (hr:Room k X.A) (hx:XP Γ X χ) (ha:EA Γ X (e :: es) t) (hg:Gl X x:=by rfl) (hdb:(x == ("__debug__" : Str))=false:=by decide)
  (he:starEach (e :: es) X.env=(false,eval e X.env) :: starEach es X.env:=by rfl) (hpl:(backTo pos (starEach es X.env)).any (·.1)=false:=by rfl):ED Γ X (.Call (.Name x p) (e :: es) [] pos) (Tq ps.length c T χ t):=fun H₀ pn s σ H Q I h=>by
 obtain ⟨f,fd,tk,ok,b,kp,m⟩:=F.ex
 obtain ⟨ρ,o,R,φ,hφ,kk⟩:=h
 refine wpAny_Call_Name_kw (wm I hg m ?_ hdb)
 refine W.callWith_K (h₀:=X.base) I.ok.mod.kin kp (thn (ha H₀ pos pn s σ H (fun vs H1=>Same H H1 /\ spX X.K ps.length T (vs ++ [.int c]) H1 Q (fun cls _ H'=>Same H1 H' /\ ∃ C,cls=.ref C /\ χ ρ C)) I ⟨ρ,o,R,_,hφ,fun vs rs H1 s1 rvs h1=>?_⟩) fun us s1 ⟨vs,H1,I1,r,sm,q⟩=>⟨I1.kIn,?_⟩) he hpl
 ·refine ⟨s1,rs.map EV.d ++ [.int c],φ,χ ρ,by rw [zLa,zLm]; exact Nat.eq_of_beq_eq_true h1.1,rvs.reps0.append (Reps.one (show Rep X.K H1 [] (.int c) (.int c) from rfl)),h1.2,fun v r H2 s2 rv pr h2=>?_,fun C H' sm c=>⟨sm,C,rfl,c⟩⟩
  exact kk v r H2 (s1.trans s2) (RV.start (rv.lift pr fun a e=>R.ofree (s1.free e)) s1) h2
 ·have hl:(us ++ [Value.int c tk]).length=ps.length:=by
   have:=ok.len _ _ _ _ q
   rw [zLa] at this ⊢
   rw [<- r.length]
   exact this
  have hb:=b s1 us I1.kIn hl
  refine wpAny_call (codeAny_mono (ok.run X.A X.stack s1 H1 ⟨us,[]⟩ (us ++ [.int c tk]) (vs ++ [.int c]) Q _ hr I1.env0 hb (r.append (.cons (show RelV (.int c) (.int c tk) from ⟨tk,rfl⟩) .nil)) q) fun r s' hq=>?_)
  cases r with
  | error e=>exact hx H₀.1 H₀.2 ρ o pn σ H1 s1 e s' I1 (R.to sm) hq
  | ok fl =>
   cases fl with
   | ret u=>exact I1.after hq
   | next=>exact False.elim hq
   | brk=>exact False.elim hq
   | cont=>exact False.elim hq
section
variable {X:Cx} {x:Str} {ps:List Str} {T:FT} {k:Nat} {e tg:Expr} {es:List Expr} {t:TDs} {p pos pos2:Pos} {g2:TG} {g:TGD}
noncomputable def sUnV (n:Nat) (T:FT) (t:TDs) (g:TGD):TDS:=fun ρ Z=>t (frzA ρ) fun rs=>Nat.beq rs.length n=true /\ T (rs.map EV.d) fun r=>(match r.k with | .own=>False | _=>True) /\ g r.d (frzA ρ) Z.nx
theorem Lf (F:FV X.prog X.w X.K X.mg X.base k x ps T) (hr:Room k X.A) (ha:EA Γ X (e :: es) t) (hgt:PG X tg g2) (hl:c9 X.K g2 g) (hg:Gl X x:=by rfl) (hdb:(x == ("__debug__" : Str))=false:=by decide)
  (he:starEach (e :: es) X.env=(false,eval e X.env) :: starEach es X.env:=by rfl) (hpl:(backTo pos (starEach es X.env)).any (·.1)=false:=by rfl) (hs:swapsWithSole [tg] (.Call (.Name x p) (e :: es) [] pos) pos2.line X.env=pure false:=by rfl) (hw:swappedStores [tg] (.Call (.Name x p) (e :: es) [] pos) X.env=pure none:=by rfl)
  (h1:(assignEach [tg] X.env).map (·.2)=[assign tg X.env]:=by rfl):SD Γ X (.Assign [tg] (.Call (.Name x p) (e :: es) [] pos) pos2) (sUnV ps.length T t g):=fun H₀=>by
 obtain ⟨f,fd,ok,b,kp,m⟩:=F.ex
 refine impS (Xe (gi ok hr hg m kp b .nil gj (ha H₀) hdb he hpl) hgt hs hw h1) fun D σ H h=>?_
 obtain ⟨ρ,o,R,Z,hZ,k1,k2,k3,k4⟩:=h
 refine ⟨frzA ρ,[],R.frzA,_,hZ,fun vs rs H1 s1 rvs h1=>?_⟩
 show spV X.K ps.length T (vs ++ []) H1 _ E0
 rw [List.append_nil]
 refine ⟨rs.map EV.d,_,by rw [zLm]; exact Nat.eq_of_beq_eq_true h1.1,rvs.reps0,h1.2,fun v r H2 s2 rv h2=>?_⟩
 have s12:=s1.trans s2
 exact hl H₀.1 H2 σ _ [] r.d v _ _ (R.frzA.to s12) ((RV.start rv s1).solid (v3 h2.1)) h2.2 fun ρ' σ' R' q=>k1 ρ' σ' H2 [] (Jr (Grow.same s12)) R' q
end
end DL
namespace DL
open PySem PySem.Spec L2 L3
open PyProof.Rows hiding St
theorem Li {Γ:Hp->Prop} {X:Cx} {st:Stmt} {t:TDS} (h:SD Γ X.nox st t):SD Γ X st t:=fun H₀ pn s σ H D I hw =>
 wpAny_mono (h H₀ pn s σ H D (I.wish _) hw) (fun _ _ q=>q.unwish) (fun _ _ z=>z.elim)
theorem Wn {α:Type} {us:List α} (h:us.length=1):∃ a0,us=[a0]:=match us,h with
 | [a0],_=>⟨a0,rfl⟩
theorem gs {α:Type} {us:List α} (h:us.length=2):∃ a0 a1,us=[a0,a1]:=match us,h with
 | [a0,a1],_=>⟨a0,a1,rfl⟩
theorem bj {α:Type} {us:List α} (h:us.length=3):∃ a0 a1 a2,us=[a0,a1,a2]:=match us,h with
 | [a0,a1,a2],_=>⟨a0,a1,a2,rfl⟩
theorem J9 {α:Type} {us:List α} (h:us.length=4):∃ a0 a1 a2 a3,us=[a0,a1,a2,a3]:=match us,h with
 | [a0,a1,a2,a3],_=>⟨a0,a1,a2,a3,rfl⟩
end DL
namespace K17
open PySem PySem.Spec L2 L3 DL
open PyProof.Rows hiding St
open PySem.Builtin.Int (intBits)
theorem eD_ {p:Prop} (h:¬p:=by decide):p=False:=eq_false h
theorem Wo:(("var" : Str) = "num")=False:=eD_
theorem gw:(("value" : Str) = "body")=False:=eD_
theorem kn:(("value" : Str) = "apply")=False:=eD_
theorem kl:(("value" : Str) = "bring")=False:=eD_
theorem qp:(("value" : Str) = "choose")=False:=eD_
theorem gy:(("leave" : Str) = "body")=False:=eD_
theorem kq:(("leave" : Str) = "value")=False:=eD_
theorem ky:(("leave" : Str) = "apply")=False:=eD_
theorem ku:(("leave" : Str) = "bring")=False:=eD_
theorem qq:(("leave" : Str) = "choose")=False:=eD_
local macro_rules | `(tactic| walk_at "dl")=>do
 let ids <- (("sNil sSeq sRet sIf sSet Lk d2 d1 tj dC slot setS EV.sto EV.ret aNil u0 dTup dLst Qp dCB wr vAnd vNot vIf bAnd bOr bNot bYes tTru tBo truD sSub sFd sMod sPow sLt sGt sGe sI sI0 sAdd sMul sNeg sEq sNe sIs Nn sIx sSl dSl Ky Kx sLen sIsI sTupC sListC sApp iSeq iR1 Pi gN gT2 yb Yb bv Wr Yi Ye Z0 Yd Y9 Y8 fg Y7 br bw fj Yg List.map_cons List.map_nil zLc zLn List.cons_append List.nil_append List.replicate_succ List.replicate_zero Nat.reduceAdd Nat.reduceSub Nat.zero_add Nat.sub_self Bool.and_self Bool.and_true Bool.true_and true_and and_true Bool.not_true Bool.not_false forall_const true_implies false_implies Bool.true_eq_false Bool.false_eq_true reduceCtorEq implies_true yj Xj Y1 U1 qx yr He xf ym y7 Bool.not_eq_eq_eq_not beq_eq_false_iff_ne beq_iff_eq ne_eq decide_eq_true_eq decide_eq_false_iff_not Bool.not_eq_true Bool.not_eq_false not_true_eq_false not_false_eq_true Fc Fb Fa and_self Nat.beq_eq Nat.ble_eq Nat.reduceLeDiff eq_self Nat.reduceEqDiff sIxx To keyD sIn j6 cp10 Int.reduceLE Int.reduceToNat Va Ml zLm Option.map_some Int.zero_add Ll Int.reduceEq Int.reduceNeg Int.reduceLT P8 Pv sTry hanZ clrS frzE Option.map_none dIsE sFrz frzS iZ Sz Sx Sy Z4 sPop sExt sIsB h7 Hn Mb dSlT Ma sLP Xf g6 cr bu fh fi Z3 fk bt Yc bz Wq Yh Z1 sDictP G7 Oc Zw seqD qSeq qSet Lv qE qT qB qIf qNil qRet Lx hid Og Vp dFld fE2 fTup Nz fNil qFld Oh Ly Lw Vq Re pFld Kk Pu rE rP Lp List.getElem?_cons_succ List.getElem?_cons_zero Qu at_0 Gz Ho ix0 ix1 ix2 ix3 ix4 ix5 ix6 ix7 Wo gw kn kl qp gy kq ky ku qq Hq Ps Lj Tq sUnV".splitOn " ").toArray).mapM fun s=>`(Lean.Parser.Tactic.simpLemma| $(Lean.mkIdent s.toName):ident)
 `(tactic| simp only [$ids,*])
seal SDs SD ED EA ET EW EQ QA QT QS QSs QL
structure Tops (mg:Str->Option Value):Prop where
 ValueError:mg "ValueError" = none
 all:mg "all" = none
 any:mg "any" = none
 bool:mg "bool" = none
 dict:mg "dict" = none
 int:mg "int" = none
 isinstance:mg "isinstance" = none
 len:mg "len" = none
 list:mg "list" = none
 range:mg "range" = none
 reversed:mg "reversed" = none
 tuple:mg "tuple" = none
 zip:mg "zip" = none
section
variable {P:Program} {w:World} {K:W.Frag} {mg:Str->Option Value} {base:Heap} {f C:Addr} {fd:FuncData}
noncomputable def mth (i:Nat):Stmt:=yh (top 25) i
noncomputable def zv:List Str:=["functions", "most", "calls", "steps", "frames", "tasks", "ready", "is_cut"]
theorem ix0:ixF zv "functions" = some 0:=by decide
theorem ix1:ixF zv "most" = some 1:=by decide
theorem ix2:ixF zv "calls" = some 2:=by decide
theorem ix3:ixF zv "steps" = some 3:=by decide
theorem ix4:ixF zv "frames" = some 4:=by decide
theorem ix5:ixF zv "tasks" = some 5:=by decide
theorem ix6:ixF zv "ready" = some 6:=by decide
theorem ix7:ixF zv "is_cut" = some 7:=by decide
structure MS where
 calls:List D
 steps:List D
 frames:List (Int × List (Str × D))
 tasks:List D
 ready:List D
 cut:Bool
noncomputable def dkD (rows:List (Str × D)):D:=.dk (rows.map fun p=>Sum.inr p.1) (rows.map Prod.snd)
noncomputable def frD (p:Int × List (Str × D)):D:=.tup [.int p.1,dkD p.2]
noncomputable def msD (C:Addr) (fns:List (Str × D)) (most:Int) (s:MS):D:=.ob C zv [dkD fns,.int most,.lst s.calls,.lst s.steps,.lst (s.frames.map frD),.lst s.tasks,.lst s.ready,.bl s.cut]
noncomputable def Ve (most:Int) (n:Int) (k:Str) (s:MS):Bool × MS:=if most <= s.steps.length then (false,{ s with cut:=true }) else (true,{ s with steps:=s.steps ++ [.tup [.int n,.str k]] })
noncomputable def O3 (C:Addr):FTQ:=fun d ds φ=>∃ fns most s n k,d=msD C fns most s /\ ds=[.int n,.str k] /\ s.steps.length <= 10000 /\ φ (.bl (Ve most n k s).1) (msD C fns most (Ve most n k s).2)
noncomputable def rowG:List (Str × D)->Str->Option D
 | [],_=>none
 | p :: r,z=>if p.1=z then some p.2 else rowG r z
theorem ql (z:Str):∀ rows:List (Str × D),vn (rows.map fun p=>(Sum.inr p.1:Key)) (rows.map Prod.snd) (Sum.inr z)=rowG rows z
 | []=>rfl
 | p :: r=>by
  show (if (Sum.inr p.1:Key)=Sum.inr z then some p.2 else vn (r.map fun p=>(Sum.inr p.1:Key)) (r.map Prod.snd) (Sum.inr z))=_
  unfold rowG
  by_cases h:p.1=z
  ·rw [if_pos h,if_pos (by rw [h])]
  ·rw [if_neg h,if_neg (fun e=>h (Sum.inr.inj e))]
   exact ql z r
theorem X1:∀ (zs:List Str) (vs:List D),zs.length=vs.length->(zs.map Sum.inr:List Key)=(zs.zip vs).map fun p=>(Sum.inr p.1:Key)
 | [],_,_=>rfl
 | _ :: _,[],h=>by simp at h
 | z :: zs,v :: vs,h=>by rw [List.map_cons,List.zip_cons_cons,List.map_cons,X1 zs vs (by simpa using h)]
theorem Zp {a b:TDb} {ρ:DE} {ψ:Bool->Prop} (ha:∀ ψ:Bool->Prop,ψ false->a ρ ψ) (hb:∀ ψ:Bool->Prop,ψ false->b ρ ψ) (h:ψ false):bOr a b ρ ψ:=ha _ ⟨fun z=>(by cases z),fun _=>hb _ h⟩
theorem P3 {t:TD} {ρ:DE} {ψ:Bool->Prop} (h:t ρ fun r=>match r.d with | .bl b=>ψ b | _=>False):tBo t ρ ψ:=h
theorem c5 {a b:TDb} {ρ:DE} {ψ:Bool->Prop} (h:a ρ fun c=>(c=true->b ρ ψ) /\ (c=false->ψ false)):bAnd a b ρ ψ:=h
theorem Yw {a:TDb} {ρ:DE} {ψ:Bool->Prop} (h:a ρ fun c=>ψ (!c)):bNot a ρ ψ:=h
theorem xk {op:D->D->(EV->Prop)->Prop} {ta tb:TD} {ρ:DE} {φ:EV->Prop} (x y:EV) (h1:∀ ψ:EV->Prop,ψ x->ta ρ ψ) (h2:∀ ψ:EV->Prop,ψ y->tb ρ ψ) (h:op x.d y.d φ):d2 op ta tb ρ φ:=h1 _ (h2 _ h)
theorem h6 {ds:List D} {i:Int} {d:D} {φ:EV->Prop} (e:atI ds i=some d) (h:φ (dv d)):sIxx (.tup ds) (.int i) φ:=by
 show match atI ds i with | some d=>φ (dv d) | none=>False
 rw [e]
 exact h
theorem xj {tc:TDb} {t1 t2:TDS} {ρ:DE} {Z:DZ} (b:Bool) (h:∀ ψ:Bool->Prop,ψ b->tc ρ ψ) (h1:b=true->t1 ρ Z) (h2:b=false->t2 ρ Z):sIf tc t1 t2 ρ Z:=h _ ⟨h1,h2⟩
theorem wj {t u:TDS} {ρ:DE} {Z:DZ} (h:t ρ { Z with nx:=fun ρ'=>u ρ' Z }):sSeq t u ρ Z:=h
theorem Zv {ρ:DE} {Z:DZ} (h:Z.nx ρ):sNil ρ Z:=h
theorem v8 {i:Nat} {te:TD} {ρ:DE} {Z:DZ} (h:te ρ fun r=>(match r.k with | .own=>False | _=>True) /\ Z.nx (setS ρ i r.sto)):sSet i te ρ Z:=h
theorem vj {te:TD} {ρ:DE} {Z:DZ} (h:te ρ fun r=>Z.rt r.ret):sRet te ρ Z:=h
theorem Uz {i:Nat} {d:D} {ρ:DE} {ψ:DE->Prop} (h:ψ (setS ρ i (dv d))):gN i d ρ ψ:=h
theorem u7 {n:Nat} {T:FT} {t:TDs} {ρ:DE} {φ:EV->Prop} (rs:List EV) (h:∀ ψ:List EV->Prop,ψ rs->t ρ ψ) (hn:Nat.beq rs.length n=true) (hT:T (rs.map EV.d) φ):Qp n T t ρ φ:=h _ ⟨hn,hT⟩
theorem zu {te:TD} {t:TDs} {ρ:DE} {φ:List EV->Prop} (r:EV) (rs:List EV) (h1:∀ ψ:EV->Prop,ψ r->te ρ ψ) (h2:∀ ψ:List EV->Prop,ψ rs->t ρ ψ) (h:φ (r :: rs)):u0 te t ρ φ:=h1 _ (h2 _ h)
theorem Xz {te:TD} {ρ:DE} {φ:EV->Prop} (h:te ρ fun r=>sTupC [r.d] φ):dCB sTupC (u0 te aNil) ρ φ:=h
noncomputable def vlD (e:D):D:=.tup [.str "value", e]
noncomputable def bdD (b:D):D:=.tup [.str "body", b]
noncomputable def pmD (ps:List (Str × D)):D:=.tup (ps.map fun p=>.tup [.str p.1,p.2])
noncomputable def clD (nm:Str) (as:List D) (dn:Bool) (v:D):D:=.tup [.str nm,.tup as,.non,.bl dn,v]
noncomputable def gvD (z:Str):D:=.tup [.str "give", .tup [.str "var", .str z]]
noncomputable def ms0:MS:={ calls:=[],steps:=[],frames:=[],tasks:=[],ready:=[],cut:=false }
noncomputable def s17 (nm:Str) (as:List D) (rows:List (Str × D)) (ts rd:List D):MS:={ calls:=[clD nm as false .non],steps:=[.tup [.int 0,.str "call"]],frames:=[(0,rows)],tasks:=ts,ready:=rd,cut:=false }
noncomputable def e17 (nm:Str) (as:List D) (v:D):MS:={ calls:=[clD nm as true v],steps:=[.tup [.int 0,.str "call"]],frames:=[],tasks:=[],ready:=[v],cut:=false }
noncomputable def lvD:D:=.tup [.str "leave"]
noncomputable def Vb (C:Addr):FT:=fun ds φ=>∃ fns most s z fs n rows v,ds=[msD C fns most s,.str z] /\ s.frames=fs ++ [(n,rows)] /\ rowG rows z=some v /\ ym v /\ φ (dv v)
theorem Z7 (T:Tops mg) (O:CO K C zv) (F:Fun K "standing" "Run.standing" (mth 5) f fd) (hm:Meth K C "standing" f):FMD P w K mg base 1 C zv "standing" ["self", "name"] (Vb C):=by
 have S:zn ["self", "name"] ["self", "name"] (zb (mth 5)):=⟨rfl,rfl,rfl,by decide +kernel,rfl,by decide +kernel,by decide +kernel⟩
 refine Jz F S (F.binds fun _ _ _ _ _ _ us hl=>(by obtain ⟨_,_,rfl⟩:=gs hl; rfl)) hm (by decide) fun qZ A outer s H E ds φ hr hl hT=>?_
 have hu:=hr.units
 refine ⟨_,(zl (y3 (zh hu (zh hu (zh hu (wx O (za 0)) (Td zc)) zc) (za 1)))),?_⟩
 obtain ⟨fns,most,ms,z,fs,n,rows,v,rfl,hf,hv,pv,h⟩:=hT
 unfold msD
 rw [hf,zMa,List.map_cons,List.map_nil]
 simp only [frD]
 walk_at "dl"
 unfold dkD
 simp only [ql,hv]
 exact ⟨pv,h⟩
theorem T4 {v:D} (pv:ym v):frs2 (dv v):=by
 cases v <;> first | exact pv | exact pv.elim
theorem xx:∀ {zs:List Str} {vs:List D},zs.length=vs.length->(zs.zip vs).map Prod.snd=vs
 | [],[],_=>rfl
 | [],_ :: _,h=>by simp at h
 | _ :: _,[],h=>by simp at h
 | z :: zs,v :: vs,h=>by rw [List.zip_cons_cons,List.map_cons,xx (by simpa using h)]
noncomputable def tVal (C:Addr):FTQ:=fun d ds φ=>∃ fns most nm as rows,∃ z:Str,∃ v,d=msD C fns most (s17 nm as rows [lvD] []) /\ ds=[.tup [.str "var", .str z]] /\ rowG rows z=some v /\ ym v /\ φ .non (msD C fns most (s17 nm as rows [lvD] [v]))
noncomputable def Lc (C:Addr):FTQ:=fun d ds φ=>∃ fns most nm as rows,∃ z:Str,d=msD C fns most (s17 nm as rows [lvD] []) /\ ds=[gvD z] /\ φ .non (msD C fns most (s17 nm as rows [lvD,vlD (.tup [.str "var", .str z])] []))
noncomputable def P1 (C:Addr):FTQ:=fun d ds φ=>∃ fns most nm as rows v,d=msD C fns most (s17 nm as rows [] [v]) /\ ds=[] /\ y7 as /\ ym v /\ φ .non (msD C fns most (e17 nm as v))
noncomputable def P2 (C:Addr):FTQ:=fun d ds φ=>∃ fns,∃ most:Int,∃ nm:Str,∃ as:List D,∃ n0 ps sz b,d=msD C fns most ms0 /\ ds=[.str nm,.tup as] /\ rowG fns nm=some (.tup [n0,pmD ps,sz,b]) /\ ym n0 /\ y7 (ps.map Prod.snd) /\ ym sz /\ ym b /\ y7 as /\ ps.length=as.length /\ as.length <= 10 /\ (ps.map Prod.fst).Nodup /\ 1 <= most /\
 φ .non (msD C fns most (s17 nm as ((ps.map Prod.fst).zip as) [lvD,bdD b] []))
theorem Nw (T:Tops mg) (O:CO K C zv) (F:Fun K "step" "Run.step" (mth 3) f fd) (hm:Meth K C "step" f):FM P w K mg base 1 C zv "step" ["self", "number", "kind"] (O3 C):=by
 have S:zn ["self", "number", "kind"] ["self", "number", "kind"] (zb (mth 3)):=⟨rfl,rfl,rfl,by decide +kernel,rfl,by decide +kernel,by decide +kernel⟩
 refine Yn F S (F.binds fun _ _ _ _ _ _ us hl=>(by obtain ⟨_,_,_,rfl⟩:=bj hl; rfl)) hm (by decide) fun qZ A outer s H E d0 ds φ hr hl hT=>?_
 have hu:=hr.units
 refine ⟨_,(yg (rz (sr (Hd (vh T.len (z9 (wx O (za 0)) zd)) (wx O (za 0)))) (yg (Lu O y8 (xu xh))
    (yx (Pc (Tb xh)))) Pd)
   (yg (ud (wu O y8) (xu (yp (z9 (za 1) (z9 (za 2) zd)))))
   (yx (Pc (Tb xh))))),?_⟩
 obtain ⟨fns,most,ms,n,k,rfl,rfl,hl5,h⟩:=hT
 unfold msD at h ⊢
 walk_at "dl"
 unfold Ve at h
 refine ⟨fun q=>⟨trivial,_,_,rfl,rfl,by decide,_,rfl,?_⟩,fun q=>⟨_,_,rfl,rfl,_,_,rfl,rfl,by omega,⟨trivial,trivial,trivial⟩,_,rfl,?_⟩⟩
 ·rw [if_pos q] at h
  exact h
 ·rw [if_neg q] at h
  exact h
theorem j4 (T:Tops mg) (O:CO K C zv) (Ed:FMD P w K mg base 1 C zv "standing" ["self", "name"] (Vb C)) (F:Fun K "begin_value" "Run.begin_value" (mth 13) f fd) (hm:Meth K C "begin_value" f):FM P w K mg base 2 C zv "begin_value" ["self", "expression"] (tVal C):=by
 have S:zn ["self", "expression", "kind"] ["self", "expression"] (zb (mth 13)):=⟨rfl,rfl,rfl,by decide +kernel,rfl,by decide +kernel,by decide +kernel⟩
 refine Yn F S (F.binds fun _ _ _ _ _ _ us hl=>(by obtain ⟨_,_,rfl⟩:=gs hl; rfl)) hm (by decide) fun qZ A outer s H E d0 ds φ hr hl hT=>?_
 have hu:=hr.units
 refine ⟨_,(yg (Pb 2 (by decide) S.nd (zh hu (za 1) zc))
   (yx (rz (sr (we hu (za 2) zo)) wk (yx (rz (sr (we hu (za 2) zo)) (yx (ud (wu O y8) (xu (M2 O Ed (hr.mono (by decide)) (za 0) (z9 (zh hu (za 1) zc) zd))))) wk))))),?_⟩
 obtain ⟨fns,most,nm,as,rows,z,v,rfl,rfl,hv,pv,h⟩:=hT
 unfold msD
 walk_at "dl"
 refine ⟨_,_,rfl,rfl,_,_,rfl,rfl,(show 0 <= 100000 by decide),⟨_,rfl⟩,?_⟩
 refine ⟨fns,most,_,z,[],0,rows,v,rfl,rfl,hv,pv,?_⟩
 exact ⟨T4 pv,_,rfl,h⟩
theorem da (T:Tops mg) (O:CO K C zv) (F:Fun K "begin_body" "Run.begin_body" (mth 9) f fd) (hm:Meth K C "begin_body" f):FM P w K mg base 2 C zv "begin_body" ["self", "body"] (Lc C):=by
 have S:zn ["self", "body", "kind"] ["self", "body"] (zb (mth 9)):=⟨rfl,rfl,rfl,by decide +kernel,rfl,by decide +kernel,by decide +kernel⟩
 refine Yn F S (F.binds fun _ _ _ _ _ _ us hl=>(by obtain ⟨_,_,rfl⟩:=gs hl; rfl)) hm (by decide) fun qZ A outer s H E d0 ds φ hr hl hT=>?_
 have hu:=hr.units
 refine ⟨_,(yg (Pb 2 (by decide) S.nd (zh hu (za 1) zc))
   (yx (rz (sr (we hu (za 2) zo)) (yx (ud (wu O y8) (xu (yp (z9 zo (z9 (zh hu (za 1) zc) zd)))))) wk))),?_⟩
 obtain ⟨fns,most,nm,as,rows,z,rfl,rfl,h⟩:=hT
 unfold msD gvD
 walk_at "dl"
 exact ⟨_,_,rfl,rfl,_,_,rfl,rfl,(show 1 <= 100000 by decide),⟨trivial,⟨trivial,trivial,trivial⟩,trivial⟩,_,rfl,h⟩
theorem Qd (T:Tops mg) (O:CO K C zv) (F:Fun K "leave" "Run.leave" (mth 17) f fd) (hm:Meth K C "leave" f):FM P w K mg base 1 C zv "leave" ["self"] (P1 C):=by
 have S:zn ["self", "frame"] ["self"] (zb (mth 17)):=⟨rfl,rfl,rfl,by decide +kernel,rfl,by decide +kernel,by decide +kernel⟩
 refine Yn F S (F.binds fun _ _ _ _ _ _ us hl=>(by obtain ⟨_,rfl⟩:=Wn hl; rfl)) hm (by decide) fun qZ A outer s H E d0 ds φ hr hl hT=>?_
 have hu:=hr.units
 refine ⟨_,(yg (xc (cx 1 (by decide) S.nd (wu O y8)))
   (yx (xc (Of (wu O y8) (zh hu (za 1) zc) (xl (rh (zh hu (wx O (za 0)) (zh hu (za 1) zc)) qy (vc zc)) (yp (z9 xh (z9 (zh hu (wx O (za 0)) (Td zc)) zd)))))))),?_⟩
 obtain ⟨fns,most,nm,as,rows,v,rfl,rfl,pa,pv,h⟩:=hT
 refine yc (fun ρ=>ρ=[some (dv (.ob C zv [dkD fns,.int most,.lst [clD nm as false .non],.lst [.tup [.int 0,.str "call"]],.lst [],.lst [],.lst [v],.bl false])),some (dv (frD ((0:Int),rows)))]) ?_ ?_
 ·unfold msD
  walk_at "dl"
  exact ⟨_,_,rfl,rfl,_,_,frD ((0:Int),rows),rfl,rfl,rfl,rfl⟩
 rintro _ rfl
 simp only [frD]
 refine ⟨fun ρ=>∃ d',slot ρ 0=some (dv d') /\ φ .non d',?_,fun _ y=>y⟩
 unfold clD
 walk_at "dl"
 exact ⟨fun y=>absurd y.2 (by decide),(show ¬ ([D.str nm,D.tup as,D.non]:List D)=[] from fun z=>nomatch z),(by rw [sizeLine_eq]; exact (show 5 <= _ by decide)),⟨trivial,pa,trivial,trivial,pv,trivial⟩,_,_,rfl,rfl,_,_,_,0,rfl,rfl,rfl,rfl,_,rfl,h⟩
theorem Qe (T:Tops mg) (cU:GC K mg "MOST_CALLS" (.int 20)) (O:CO K C zv) (Eg:FM P w K mg base 1 C zv "step" ["self", "number", "kind"] (O3 C)) (F:Fun K "enter" "Run.enter" (mth 16) f fd) (hm:Meth K C "enter" f):FM P w K mg base 2 C zv "enter" ["self", "name", "args"] (P2 C):=by
 have S:zn ["self", "name", "args", "number", "up", "function"] ["self", "name", "args"] (zb (mth 16)):=⟨rfl,rfl,rfl,by decide +kernel,rfl,by decide +kernel,by decide +kernel⟩
 refine Yn F S (F.binds fun _ _ _ _ _ _ us hl=>(by obtain ⟨_,_,_,rfl⟩:=bj hl; rfl)) hm (by decide) fun qZ A outer s H E d0 ds φ hr hl hT=>?_
 have hu:=hr.units
 refine ⟨_,(yg (xc (Zz 3 (by decide) S.nd (Tb (vh T.len (z9 (wx O (za 0)) zd)))))
   (yx (xc (rz (sr (Hd (vh T.len (z9 (wx O (za 0)) zd)) (M4 cU))) wk (yx (xc (rz (Ls (di O Eg (hr.mono (by decide)) (u4 (za 3) (u4 zo Xa)))) (yg (xc (Zz 4 (by decide) S.nd (Tb (Qk (vg (wx O (za 0))) (zh hu (zh hu (wx O (za 0)) (Td zc)) zc) yy))))
     (yg (xc (Zz 5 (by decide) S.nd (Tb (zh hu (wx O (za 0)) (za 1)))))
     (yg (xc (ud (wu O y8) (xu (yp (z9 (za 1) (z9 (za 2) (z9 (za 4) (z9 xh (z9 yy zd)))))))))
     (yg (xc (ud (wu O y8) (Hh (Xx (xu (za 3)) (Xx (xu (Ql T.dict T.zip (z9 (qz (T:=["param", "shape"]) (F:=[]) (js:=[]) (ub (zh hu (za 5) zc)) (show zw (zb (mth 16)) _ ["param", "shape"] [] from ⟨rfl,by decide +kernel,by decide +kernel,by decide +kernel,by decide +kernel,by decide +kernel⟩) .nil (by decide) (fun cl C fp s H=>(gd (K0:=K) (n:=2) (by rfl) (by rfl) (wv (ya (i:=0) (show ((["param", "shape"]:List Str) ++ ([]:List Str)).Nodup by decide +kernel) rfl (by walk_at "o")) (wv (ya (i:=1) (show ((["param", "shape"]:List Str) ++ ([]:List Str)).Nodup by decide +kernel) rfl (by walk_at "o")) gc)))) (Ux (t6 va (Ym va jh) (xi (by decide)) (t6 va jh (xi (by decide)) Uy))) (d8 0 1) (fun cl C fp s H=>wo) (fun cl C fp s H=>(za 0))) (z9 (za 2) zd)))) M1)))))
     (yg (xc (ud (wu O y8) (xu (yp (z9 zo zd)))))
     (yx (xc (ud (wu O y8) (xu (yp (z9 zo (z9 (zh hu (za 5) zc) zd)))))))))))) Pd))))))),?_⟩
 obtain ⟨fns,most,nm,as,n0,ps,sz,b,rfl,rfl,hf,p1,p2,p3,p4,p5,hl,hl2,nd,hm,h⟩:=hT
 refine yc (fun ρ=>ρ=[some (dv (msD C fns most ms0)),some (dv (.str nm)),some (dv (.tup as)),some (dv (.int 0)),none,none]) ?_ ?_
 ·unfold msD
  walk_at "dl"
  rfl
 rintro _ rfl
 refine ⟨fun ρ=>∃ d',slot ρ 0=some (dv d') /\ φ .non d',?_,fun _ y=>y⟩
 unfold msD
 walk_at "dl"
 refine ⟨fun q=>absurd q (by decide),fun _=>⟨fun ρ=>∃ d',slot ρ 0=some (dv d') /\ φ .non d',?_,fun _ y=>y⟩⟩
 walk_at "dl"
 refine ⟨_,rfl,fns,most,ms0,0, "call", rfl,rfl,by decide,?_⟩
 have es:Ve most 0 "call" ms0=(true,{ ms0 with steps:=[.tup [.int 0,.str "call"]] }):=by
  unfold Ve
  rw [if_neg (show ¬ most <= ((ms0.steps.length:Nat):Int) from fun z=>by have z:most <= 0:=z; omega)]
  rfl
 rw [es]
 refine ⟨fun _=>?_,fun y=>(nomatch y)⟩
 refine yc (fun ρ=>ρ=[some (dv (msD C fns most { ms0 with steps:=[.tup [.int 0,.str "call"]] })),some (dv (.str nm)),some (dv (.tup as)),some (dv (.int 0)),some (dv .non),none]) ?_ ?_
 ·unfold msD
  walk_at "dl"
  exact fun z=>(nomatch (show true=false from z))
 rintro _ rfl
 have ppm:ym (pmD ps):=zr.mpr fun x hx=>by
  obtain ⟨y,hy,rfl⟩:=List.mem_map.mp hx
  exact ⟨trivial,zr.mp p2 _ (List.mem_map.mpr ⟨y,hy,rfl⟩),trivial⟩
 refine yc (fun ρ=>ρ=[some (dv (msD C fns most { ms0 with steps:=[.tup [.int 0,.str "call"]] })),some (dv (.str nm)),some (dv (.tup as)),some (dv (.int 0)),some (dv .non),some (dv (.tup [n0,pmD ps,sz,b]))]) ?_ ?_
 ·unfold msD
  walk_at "dl"
  unfold dkD
  simp only [ql,hf]
  exact ⟨⟨p1,ppm,p3,p4,trivial⟩,trivial⟩
 rintro _ rfl
 refine yc (fun ρ=>ρ=[some (dv (msD C fns most { ms0 with steps:=[.tup [.int 0,.str "call"]],calls:=[clD nm as false .non] })),some (dv (.str nm)),some (dv (.tup as)),some (dv (.int 0)),some (dv .non),some (dv (.tup [n0,pmD ps,sz,b]))]) ?_ ?_
 ·unfold msD
  walk_at "dl"
  exact ⟨_,_,rfl,rfl,_,_,rfl,rfl,(show 0 <= 100000 by decide),⟨trivial,p5,trivial,trivial,trivial,trivial⟩,rfl⟩
 rintro _ rfl
 refine yc (fun ρ=>ρ=[some (dv (msD C fns most { ms0 with steps:=[.tup [.int 0,.str "call"]],calls:=[clD nm as false .non],frames:=[((0:Int),(ps.map Prod.fst).zip as)] })),some (dv (.str nm)),some (dv (.tup as)),some (dv (.int 0)),some (dv .non),some (dv (.tup [n0,pmD ps,sz,b]))]) ?_ ?_
 ·unfold msD
  walk_at "dl"
  refine ⟨_,_,rfl,rfl,_,_,rfl,rfl,(show 0 <= 100000 by decide),trivial,?_⟩
  refine wf (ps.map fun p=>.tup [.str p.1,p.2]) ?_ (fun d=>match d with | .tup [a,_]=>some a | _=>none) (by rw [zLm]; omega) ?_ ?_
  ·intro ψ hψ
   unfold pmD
   walk_at "dl"
   exact hψ
  ·intro d hd
   obtain ⟨y,hy,rfl⟩:=List.mem_map.mp hd
   unfold ρ0
   walk_at "dl"
  ·have ef:(ps.map fun p=>D.tup [.str p.1,p.2]).filterMap (fun d=>match d with | .tup [a,_]=>some a | _=>none)=(ps.map Prod.fst).map D.str:=by
    rw [List.filterMap_map,List.map_map,<- List.filterMap_eq_map]
    rfl
   rw [ef]
   have lp:(ps.map Prod.fst).length=as.length:=by rw [zLm]; exact hl
   have e5:frD ((0:Int),(ps.map Prod.fst).zip as)=D.tup [.int 0,.dk ((ps.map Prod.fst).map Sum.inr) as]:=by
    show D.tup [.int 0,dkD ((ps.map Prod.fst).zip as)]=_
    unfold dkD
    rw [<- X1 _ _ lp,xx lp]
   refine ⟨ps.map Prod.fst,as,⟨.inl rfl,.inr rfl⟩,lp,by omega,nd,p5,?_⟩
   rw [e5]
   rfl
 rintro _ rfl
 refine yc (fun ρ=>ρ=[some (dv (msD C fns most { ms0 with steps:=[.tup [.int 0,.str "call"]],calls:=[clD nm as false .non],frames:=[((0:Int),(ps.map Prod.fst).zip as)],tasks:=[lvD] })),some (dv (.str nm)),some (dv (.tup as)),some (dv (.int 0)),some (dv .non),some (dv (.tup [n0,pmD ps,sz,b]))]) ?_ ?_
 ·unfold msD
  walk_at "dl"
  exact ⟨_,_,rfl,rfl,_,_,rfl,rfl,(show 0 <= 100000 by decide),⟨trivial,trivial⟩,rfl⟩
 rintro _ rfl
 refine ⟨fun ρ=>∃ d',slot ρ 0=some (dv d') /\ φ .non d',?_,fun _ y=>y⟩
 have ea:atI [n0,pmD ps,sz,b] (3:Int)=some b:=kh (by decide) rfl
 unfold msD
 walk_at "dl"
 rw [ea]
 exact ⟨_,_,rfl,rfl,_,_,rfl,rfl,(show 1 <= 100000 by decide),⟨trivial,p4,trivial⟩,_,rfl,h⟩
noncomputable def O5 (C:Addr):FTQ:=fun d ds φ=>∃ fns:List (Str × D),∃ most,d=.ob C [] [] /\ ds=[.tup (fns.map Prod.snd),.int most] /\ fns.length <= 100 /\ (fns.map Prod.fst).Nodup /\ y7 (fns.map Prod.snd) /\ (∀ p ∈ fns,∃ r,p.2=.tup (.str p.1 :: r)) /\ φ .non (msD C fns most ms0)
noncomputable def O2 (C:Addr):FTR:=fun d ds φ=>∃ fns most nm as v,d=msD C fns most (e17 nm as v) /\ ds=[] /\ ym v /\ φ (.tup [.bl true,v,.lst [clD nm as true v],.lst [.tup [.int 0,.str "call"]]])
noncomputable def tGo (C:Addr):FTQ:=fun d ds φ=>∃ fns most nm as rows v,∃ z:Str,d=msD C fns most (s17 nm as rows [lvD,bdD (gvD z)] []) /\ ds=[] /\ rowG rows z=some v /\ ym v /\ y7 as /\ φ .non (msD C fns most (e17 nm as v))
theorem jv {tc:TQb} {ρ:DE} {k:Bool->DE->Prop} (b:Bool) (h:∀ k:Bool->DE->Prop,k b ρ->tc ρ k) (hk:k b ρ):tc ρ k:=h k hk
noncomputable def st17 (nm:Str) (as:List D) (rows:List (Str × D)) (z:Str) (v:D):Nat->MS
 | 3=>s17 nm as rows [lvD,bdD (gvD z)] []
 | 2=>s17 nm as rows [lvD,vlD (.tup [.str "var", .str z])] []
 | 1=>s17 nm as rows [lvD] [v]
 | _=>e17 nm as v
noncomputable def me17 (ρ:DE):Nat:=match slot ρ 0 with
 | some ⟨_,.ob _ _ [_,_,_,_,_,.lst [_,.tup (.str k :: _)],_,_]⟩=>if k = "body" then 3 else 2
 | some ⟨_,.ob _ _ [_,_,_,_,_,.lst [_],_,_]⟩=>1
 | _=>0
theorem Gv (T:Tops mg) (O:CO K C zv) (Fh:FM P w K mg base 2 C zv "begin_body" ["self", "body"] (Lc C)) (Ff:FM P w K mg base 2 C zv "begin_value" ["self", "expression"] (tVal C)) (E2:FM P w K mg base 1 C zv "leave" ["self"] (P1 C)) (F:Fun K "go" "Run.go" (mth 2) f fd) (hm:Meth K C "go" f):FM P w K mg base 3 C zv "go" ["self"] (tGo C):=by
 have S:zn ["self", "task"] ["self"] (zb (mth 2)):=⟨rfl,rfl,rfl,by decide +kernel,rfl,by decide +kernel,by decide +kernel⟩
 refine Yn F S (F.binds fun _ _ _ _ _ _ us hl=>(by obtain ⟨_,rfl⟩:=Wn hl; rfl)) hm (by decide) fun qZ A outer s H E d0 ds φ hr hl hT=>?_
 have hu:=hr.units
 refine ⟨_,(yx (Rc (sr (EW.et (Zc (vg (wx O (za 0))) (qw (jj (vg (wx O (za 0)))))))) (yg (xc (cx 1 (by decide) S.nd (wu O y8)))
    (yx (rz (sr (we hu (zh hu (za 1) zc) zo)) (yx (qb (di O Fh (hr.mono (by decide)) (u4 (zh hu (za 1) zc) Xa)))) (yx (rz (sr (we hu (zh hu (za 1) zc) zo)) (yx (qb (di O Ff (hr.mono (by decide)) (u4 (zh hu (za 1) zc) Xa)))) (yx (rz (sr (we hu (zh hu (za 1) zc) zo)) wk (yx (rz (sr (we hu (zh hu (za 1) zc) zo)) wk (yx (rz (sr (we hu (zh hu (za 1) zc) zo)) wk (yx (qb (Xw O E2 (hr.mono (by decide)))))))))))))))))),?_⟩
 obtain ⟨fns,most,nm,as,rows,v,z,rfl,rfl,hv,pv,pa,h⟩:=hT
 refine ⟨fun ρ=>∃ k t,k <= 3 /\ ρ=[some (dv (msD C fns most (st17 nm as rows z v k))),t],me17,⟨3,none,by decide,rfl⟩,fun ρ1 hP=>?_⟩
 obtain ⟨k,t,hk,rfl⟩:=hP
 have pop:∀ {ts:List D} {x:D} {rd:List D} (J:DE->Prop),J [some (dv (msD C fns most (s17 nm as rows ts rd))),some (dv x)]->True:=fun _ _=>trivial
 have hk:k=0 \/ k=1 \/ k=2 \/ k=3:=by omega
 rcases hk with rfl | rfl | rfl | rfl
 ·refine jv false (fun k hk=>?_) ⟨fun q=>(nomatch q),fun _=>⟨_,rfl,h⟩⟩
  unfold msD at hk ⊢
  walk_at "dl"
  exact ⟨fun z=>(nomatch (show true=false from z)),fun _=>hk⟩
 ·refine jv true (fun k hk=>?_) ⟨fun _=>?_,fun q=>(nomatch q)⟩
  ·unfold msD at hk ⊢
   walk_at "dl"
   exact ⟨fun _=>hk,fun z=>(nomatch (show false=true from z))⟩
  refine yc (fun ρ=>ρ=[some (dv (msD C fns most (s17 nm as rows [] [v]))),some (dv lvD)]) ?_ ?_
  ·unfold msD
   walk_at "dl"
   exact ⟨_,_,rfl,rfl,_,_,lvD,rfl,rfl,rfl,rfl⟩
  rintro _ rfl
  unfold msD lvD
  walk_at "dl"
  exact ⟨_,rfl,fns,most,nm,as,rows,v,rfl,rfl,pa,pv,⟨0,_,by decide,rfl⟩,(show 0 < 1 by decide)⟩
 ·refine jv true (fun k hk=>?_) ⟨fun _=>?_,fun q=>(nomatch q)⟩
  ·unfold msD at hk ⊢
   walk_at "dl"
   exact ⟨fun _=>hk,fun z=>(nomatch (show false=true from z))⟩
  refine yc (fun ρ=>ρ=[some (dv (msD C fns most (s17 nm as rows [lvD] []))),some (dv (vlD (.tup [.str "var", .str z])))]) ?_ ?_
  ·unfold msD
   walk_at "dl"
   exact ⟨_,_,rfl,rfl,_,_,vlD (.tup [.str "var", .str z]),rfl,rfl,rfl,rfl⟩
  rintro _ rfl
  unfold msD vlD
  walk_at "dl"
  exact ⟨_,rfl,fns,most,nm,as,rows,z,v,rfl,rfl,hv,pv,⟨1,_,by decide,rfl⟩,(show 1 < 2 by decide)⟩
 ·refine jv true (fun k hk=>?_) ⟨fun _=>?_,fun q=>(nomatch q)⟩
  ·unfold msD at hk ⊢
   walk_at "dl"
   exact ⟨fun _=>hk,fun z=>(nomatch (show false=true from z))⟩
  refine yc (fun ρ=>ρ=[some (dv (msD C fns most (s17 nm as rows [lvD] []))),some (dv (bdD (gvD z)))]) ?_ ?_
  ·unfold msD
   walk_at "dl"
   exact ⟨_,_,rfl,rfl,_,_,bdD (gvD z),rfl,rfl,rfl,rfl⟩
  rintro _ rfl
  unfold msD bdD
  walk_at "dl"
  exact ⟨_,rfl,fns,most,nm,as,rows,z,rfl,rfl,⟨2,_,by decide,rfl⟩,(show 2 < 3 by decide)⟩
theorem Nx (T:Tops mg) (O:CO K C zv) (F:Fun K "__init__" "Run.__init__" (mth 0) f fd) (hm:Meth K C "__init__" f):FM P w K mg base 2 C zv "__init__" ["self", "program", "most"] (O5 C):=by
 have S:zn ["self", "program", "most"] ["self", "program", "most"] (zb (mth 0)):=⟨rfl,rfl,rfl,by decide +kernel,rfl,by decide +kernel,by decide +kernel⟩
 refine Yn F S (F.binds fun _ _ _ _ _ _ us hl=>(by obtain ⟨_,_,_,rfl⟩:=bj hl; rfl)) hm (by decide) fun qZ A outer s H E d0 ds φ hr hl hT=>?_
 have hu:=hr.units
 refine ⟨_,(yg (xc (vk O.cl (O.na _ (by decide)) y8 (xu (Qm T.dict (z9 (qz (T:=["function"]) (F:=[]) (js:=[]) (ub (za 1)) (show zw (zb (mth 0)) _ ["function"] [] from ⟨rfl,by decide +kernel,by decide +kernel,by decide +kernel,by decide +kernel,by decide +kernel⟩) .nil (by decide) (fun cl C fp s H=>(ya (i:=0) (show ((["function"]:List Str) ++ ([]:List Str)).Nodup by decide +kernel) rfl (by walk_at "o"))) (xi (by decide)) (xm 0) (fun cl C fp s H=>wo) (fun cl C fp s H=>(yp (z9 (zh hu (za 0) zc) (z9 (za 0) zd))))) zd)))))
   (yg (xc (vk O.cl (O.na _ (by decide)) y8 (xu (za 2))))
   (yg (xc (vk O.cl (O.na _ (by decide)) y8 (xu (yi zd))))
   (yg (xc (vk O.cl (O.na _ (by decide)) y8 (xu (yi zd))))
   (yg (xc (vk O.cl (O.na _ (by decide)) y8 (xu (yi zd))))
   (yg (xc (vk O.cl (O.na _ (by decide)) y8 (xu (yi zd))))
   (yg (xc (vk O.cl (O.na _ (by decide)) y8 (xu (yi zd))))
   (yx (xc (vk O.cl (O.na _ (by decide)) y8 (xu xh))))))))))),?_⟩
 obtain ⟨fns,most,rfl,rfl,hl1,nd,pf,hn,h⟩:=hT
 refine yc (fun ρ=>ρ=[some (dv (.ob C ["functions"] [dkD fns])),some (dv (.tup (fns.map Prod.snd))),some (dv (.int most))]) ?_ ?_
 ·simp only [Oh,fE2,dCB,u0,aNil]
  refine wf (fns.map Prod.snd) ?_ (fun d=>match d with | .tup (.str z :: r)=>some (.tup [.str z,.tup (.str z :: r)]) | _=>none) (by rw [zLm]; omega) ?_ ?_
  ·intro ψ hψ
   walk_at "dl"
   exact hψ
  ·intro d hd
   obtain ⟨y,hy,rfl⟩:=List.mem_map.mp hd
   obtain ⟨r,er⟩:=hn y hy
   rw [er]
   unfold ρ0
   walk_at "dl"
  ·have ef:(fns.map Prod.snd).filterMap (fun d=>match d with | .tup (.str z :: r)=>some (D.tup [.str z,.tup (.str z :: r)]) | _=>none)=Vy (fns.map fun p=>Sum.inr p.1) (fns.map Prod.snd):=by
    clear hl1 nd pf h hl
    induction fns with
    | nil=>rfl
    | cons p fns ih =>
     obtain ⟨r,er⟩:=hn p List.mem_cons_self
     simp only [List.map_cons,List.filterMap_cons,er]
     rw [ih fun q hq=>hn q (List.mem_cons_of_mem _ hq)]
     rfl
   rw [ef]
   refine ⟨_,_,rfl,by rw [zLm,zLm],?_,pf,_,[],[],rfl,rfl,by simp,by simp,rfl⟩
   rw [show (fns.map fun p=>(Sum.inr p.1:Key))=(fns.map Prod.fst).map Sum.inr from by rw [List.map_map]; rfl]
   exact List.Pairwise.map _ (fun a b h e=>h (Sum.inr.inj e)) nd
 rintro _ rfl
 refine yc (fun ρ=>ρ=[some (dv (.ob C ["functions", "most"] [dkD fns,.int most])),some (dv (.tup (fns.map Prod.snd))),some (dv (.int most))]) ?_ ?_
 ·walk_at "dl"
  exact ⟨trivial,_,_,_,rfl,rfl,by decide,by decide,rfl⟩
 rintro _ rfl
 refine yc (fun ρ=>ρ=[some (dv (.ob C ["functions", "most", "calls"] [dkD fns,.int most,.lst []])),some (dv (.tup (fns.map Prod.snd))),some (dv (.int most))]) ?_ ?_
 ·walk_at "dl"
  exact ⟨trivial,_,_,_,rfl,rfl,by decide,by decide,rfl⟩
 rintro _ rfl
 refine yc (fun ρ=>ρ=[some (dv (.ob C ["functions", "most", "calls", "steps"] [dkD fns,.int most,.lst [],.lst []])),some (dv (.tup (fns.map Prod.snd))),some (dv (.int most))]) ?_ ?_
 ·walk_at "dl"
  exact ⟨trivial,_,_,_,rfl,rfl,by decide,by decide,rfl⟩
 rintro _ rfl
 refine yc (fun ρ=>ρ=[some (dv (.ob C ["functions", "most", "calls", "steps", "frames"] [dkD fns,.int most,.lst [],.lst [],.lst []])),some (dv (.tup (fns.map Prod.snd))),some (dv (.int most))]) ?_ ?_
 ·walk_at "dl"
  exact ⟨trivial,_,_,_,rfl,rfl,by decide,by decide,rfl⟩
 rintro _ rfl
 refine yc (fun ρ=>ρ=[some (dv (.ob C ["functions", "most", "calls", "steps", "frames", "tasks"] [dkD fns,.int most,.lst [],.lst [],.lst [],.lst []])),some (dv (.tup (fns.map Prod.snd))),some (dv (.int most))]) ?_ ?_
 ·walk_at "dl"
  exact ⟨trivial,_,_,_,rfl,rfl,by decide,by decide,rfl⟩
 rintro _ rfl
 refine yc (fun ρ=>ρ=[some (dv (.ob C ["functions", "most", "calls", "steps", "frames", "tasks", "ready"] [dkD fns,.int most,.lst [],.lst [],.lst [],.lst [],.lst []])),some (dv (.tup (fns.map Prod.snd))),some (dv (.int most))]) ?_ ?_
 ·walk_at "dl"
  exact ⟨trivial,_,_,_,rfl,rfl,by decide,by decide,rfl⟩
 rintro _ rfl
 refine ⟨fun ρ=>∃ d',slot ρ 0=some (dv d') /\ φ .non d',?_,fun _ y=>y⟩
 walk_at "dl"
 exact ⟨trivial,_,_,_,rfl,rfl,by decide,by decide,_,rfl,h⟩
theorem Qc (T:Tops mg) (O:CO K C zv) (F:Fun K "told" "Run.told" (mth 1) f fd) (hm:Meth K C "told" f):FMR P w K mg base 1 C zv "told" ["self"] (O2 C):=by
 have S:zn ["self"] ["self"] (zb (mth 1)):=⟨rfl,rfl,rfl,by decide +kernel,rfl,by decide +kernel,by decide +kernel⟩
 refine Jy F S (F.binds fun _ _ _ _ _ _ us hl=>(by obtain ⟨_,rfl⟩:=Wn hl; rfl)) hm (by decide) fun qZ A outer s H E d0 ds φ hr hl hT=>?_
 have hu:=hr.units
 refine ⟨_,(Od (G8 (sr (vg (wx O (za 0)))) (P9 (Vk (Pm (ww (Qh xh) (ww (Qh yy) (ww (rg (wu O y8)) (ww (rg (wu O y8)) Ta))))))) Lm)
    (P9 (Vk (Pm (ww (Qh xh) (ww (Qh (zh hu (wx O (za 0)) zc)) (ww (rg (wu O y8)) (ww (rg (wu O y8)) Ta)))))))),?_⟩
 obtain ⟨fns,most,nm,as,v,rfl,rfl,pv,h⟩:=hT
 unfold msD
 walk_at "dl"
 exact ⟨fun z=>(nomatch (show false=true from z)),fun _=>⟨pv,_,_,rfl,rfl,_,_,rfl,rfl,_,_,rfl,rfl,_,_,rfl,rfl,h⟩⟩
theorem vz {ds:List D} {i:Nat} {d:D} (e:ds[i]?=some d):atI ds (i:Int)=some d:=kh (by omega) (by rw [show ((i:Int)).toNat=i from rfl]; exact e)
theorem Uu {te:TD} {ρ:DE} {φ:List D->Prop} {x:D} (h:∀ ψ:EV->Prop,ψ (dv x)->te ρ ψ) (hx:iR1 (u0 (fun _ ψ=>ψ (dv x)) aNil) ρ φ):iR1 (u0 te aNil) ρ φ:=h _ hx
theorem Ur {n k:Nat} (h:k < n):ixN n ((k:Nat):Int)=some k:=by
 unfold ixN
 rw [if_pos (by omega)]
 simp
 exact h
theorem Hm {ta tb:TD} {ρ:DE} {φ:EV->Prop} (x y:EV) (h1:∀ ψ:EV->Prop,ψ x->ta ρ ψ) (h2:∀ ψ:EV->Prop,ψ y->tb ρ ψ) (h:wr [x,y]=true /\ Nat.ble 2 1000=true /\ φ (dv (.tup [x.d,y.d]))):dTup (u0 ta (u0 tb aNil)) ρ φ:=h1 _ (h2 _ h)
theorem N9 {i j:Nat} {k:Int} {tk te:TD} {ρ:DE} {Z:DZ} {ds:List D} (e:slot ρ i=some (dO (.lst ds))) (d:D) (h1:∀ ψ:EV->Prop,ψ (dv d)->te ρ ψ) (h2:∀ ψ:EV->Prop,ψ (dv (.int k))->tk ρ ψ) (hk:ixN ds.length k=some j) (hz:Z.nx (setS ρ i (dO (.lst (ds.set j d))))):Zw i tk te ρ Z:=by
 unfold Zw
 rw [e]
 refine h1 _ (h2 _ ⟨trivial,?_⟩)
 show match ixN ds.length k with | some j=>Z.nx (setS ρ i (dO (.lst (ds.set j d)))) | none=>False
 rw [hk]
 exact hz
theorem Mm {tc:TD} {ρ:DE} {ψ:Bool->Prop} (bs:List Bool) (h:∀ φ:EV->Prop,φ (df (.lst (bs.map D.bl)))->tc ρ φ) (hψ:ψ (bs.all id)):tTru (dCB (cr fun bs=>bs.all id) (u0 tc aNil)) ρ ψ:=h _ (by
 show cr (fun bs=>bs.all id) [D.lst (bs.map D.bl)] (fun r=>match truD r.d with | some b=>ψ b | none=>False)
 unfold cr
 dsimp only
 rw [c4]
 exact hψ)
theorem yz {ds:List D} {i:Int} {d:D} {φ:EV->Prop} (e:atI ds i=some d) (h:φ (dv d)):sIxx (.lst ds) (.int i) φ:=by
 show match atI ds i with | some d=>φ (dv d) | none=>False
 rw [e]
 exact h
theorem Zx {i:Nat} {t:TDS} {ρ:DE} {Z:DZ} (h:t (frzS ρ i) Z):sFrz i t ρ Z:=h
theorem h9 {i:Nat} {te:TD} {ρ:DE} {Z:DZ} {ds:List D} (e:slot ρ i=some (dO (.lst ds))) (h:te ρ fun r=>(match r.k with | .own=>False | _=>True) /\ ds.length <= 100000 /\ Z.nx (setS ρ i (dO (.lst (ds ++ [r.d]))))):sApp i te ρ Z:=by
 unfold sApp
 rw [e]
 exact h
noncomputable def uf:D->Bool
 | .non | .bl _ | .int _ | .str _ | .tup _ | .lst _=>true
 | _=>false
noncomputable def uc:FT:=g1 fun d φ=>uf d=true /\ φ (dv (.bl (xr d)))
noncomputable def w5:D->Bool
 | .non=>true
 | .tup [l,m,r]=>xr m && w5 l && w5 r
 | _=>false
noncomputable def szD:D->Nat
 | .tup [l,_,r]=>1 + szD l + szD r
 | _=>1
noncomputable def okB:D->Bool
 | .tup [l,m,r]=>okB l && uf m && okB r
 | d=>uf d
theorem Vd (d:D):1 <= szD d:=by
 unfold szD
 split <;> omega
theorem ug {d:D} (h:okB d=true):uf d=true:=by
 unfold okB at h
 split at h
 ·rfl
 ·exact h
noncomputable def Zs:FT:=g1 fun d φ=>okB d=true /\ szD d <= 10000 /\ φ (dv (.bl (w5 d)))
noncomputable def sumZ (ds:List D):Nat:=(ds.map szD).sum
theorem sy (ds es:List D):sumZ (ds ++ es)=sumZ ds + sumZ es:=by
 unfold sumZ
 simp
theorem Xp:∀ (ds:List D),ds.length <= sumZ ds
 | []=>Nat.zero_le _
 | d :: ds=>by
  have:=Xp ds
  have:=Vd d
  unfold sumZ at *
  simp
  omega
inductive IsTr:D->Nat->Prop
 | leaf:IsTr .non 0
 | node {l r:D} {a b:Nat} {m:Int}:IsTr l a->IsTr r b->IsTr (.tup [l,.int m,r]) (a + b + 1)
theorem IsTr.tree {d:D} {n:Nat} (h:IsTr d n):w5 d=true:=by
 induction h with
 | leaf=>rfl
 | node _ _ h1 h2=>simp [w5,xr,h1,h2]
theorem IsTr.ok {d:D} {n:Nat} (h:IsTr d n):okB d=true:=by
 induction h with
 | leaf=>rfl
 | node _ _ h1 h2=>simp [okB,uf,h1,h2]
theorem IsTr.sz {d:D} {n:Nat} (h:IsTr d n):szD d=2 * n + 1:=by
 induction h with
 | leaf=>rfl
 | node _ _ h1 h2=>simp [szD,h1,h2]; omega
theorem IsTr.pure {d:D} {n:Nat} (h:IsTr d n):ym d:=by
 induction h with
 | leaf=>trivial
 | node _ _ h1 h2=>exact ⟨h1,trivial,h2,trivial⟩
theorem IsTr.inv {d:D} {n:Nat} (h:IsTr d n):(d=.non /\ n=0) \/ ∃ l m r a b,d=.tup [l,.int m,r] /\ n=a + b + 1 /\ IsTr l a /\ IsTr r b:=by
 cases h with
 | leaf=>exact .inl ⟨rfl,rfl⟩
 | node h1 h2=>exact .inr ⟨_,_,_,_,_,rfl,rfl,h1,h2⟩
noncomputable def Ub:D->Bool
 | .tup l=>l.all xr
 | _=>false
noncomputable def xn (s:Str) (d:D):Bool:=if s = "num" then xr d else if s = "list" then Ub d else w5 d
noncomputable def fc:D->Prop
 | .tup l=>l.length <= 1000 /\ ∀ x ∈ l,uf x=true
 | _=>True
noncomputable def Ask (d:D):Prop:=okB d=true /\ szD d <= 10000 /\ fc d
noncomputable def La:FT:=g2 fun s d φ=>match s with
 | .str z=>Ask d /\ φ (dv (.bl (xn z d)))
 | _=>False
end
structure Cls (K:W.Frag) (mg:Str->Option Value) (cE cF cV cNoPaper cNoProgram cNoRatio cNoRow cNoSize cNoTable cNoText cTooMany:Addr):Prop where
 b_TollError:mg "TollError" = some (.ref cE)
 b_NoFunction:mg "NoFunction" = some (.ref cF)
 b_NoValue:mg "NoValue" = some (.ref cV)
 b_NoPaper:mg "NoPaper" = some (.ref cNoPaper)
 b_NoProgram:mg "NoProgram" = some (.ref cNoProgram)
 b_NoRatio:mg "NoRatio" = some (.ref cNoRatio)
 b_NoRow:mg "NoRow" = some (.ref cNoRow)
 b_NoSize:mg "NoSize" = some (.ref cNoSize)
 b_NoTable:mg "NoTable" = some (.ref cNoTable)
 b_NoText:mg "NoText" = some (.ref cNoText)
 b_TooMany:mg "TooMany" = some (.ref cTooMany)
 x_NoFunction:excV K cF
 x_NoValue:excV K cV
 m_F:W.exmOne K (.ref cF) (.ref cE)=some true
 m_V:W.exmOne K (.ref cV) (.ref cE)=some true
 k_F:W.kitOne K (.ref cF) (.type "ValueError")=some true
 k_V:W.kitOne K (.ref cV) (.type "ValueError")=some true
 n_F:∀ c ∈ [cNoPaper,cNoProgram,cNoRatio,cNoRow,cNoSize,cNoTable,cNoText,cTooMany],W.kitOne K (.ref cF) (.ref c)=some false
 n_V:∀ c ∈ [cNoPaper,cNoProgram,cNoRatio,cNoRow,cNoSize,cNoTable,cNoText,cTooMany],W.kitOne K (.ref cV) (.ref c)=some false
 k_FV:W.kitOne K (.ref cF) (.ref cV)=some false
 k_VF:W.kitOne K (.ref cV) (.ref cF)=some false
 e_FF:W.exmOne K (.ref cF) (.ref cF)=some true
 e_VF:W.exmOne K (.ref cV) (.ref cF)=some false
 e_VV:W.exmOne K (.ref cV) (.ref cV)=some true
 y_F:X0 K cF
 y_V:X0 K cV
section
variable {P:Program} {w:World} {K:W.Frag} {mg:Str->Option Value} {base:Heap} {f C:Addr} {fd:FuncData}
theorem Vn {fns:List (Str × D)} {nm:Str} {i:Nat} {d:D} (h:∀ p ∈ fns.take i,p.1 ≠ nm) (e:fns[i]?=some (nm,d)):rowG fns nm=some d:=by
 induction fns generalizing i with
 | nil=>simp at e
 | cons p fns ih =>
  cases i with
  | zero =>
   simp only [List.getElem?_cons_zero,Option.some.injEq] at e
   subst e
   unfold rowG
   simp
  | succ i =>
   have:=h p (by simp)
   have:=ih (i:=i) (fun q hq=>h q (by simp [hq])) (by simpa using e)
   unfold rowG
   simp_all
theorem X7 {fns:List (Str × D)} {nm:Str} {d:D} (e:rowG fns nm=some d):∃ p ∈ fns,p.1=nm:=by
 induction fns with
 | nil=>cases e
 | cons p fns ih =>
  unfold rowG at e
  split at e
  ·rename_i q
   exact ⟨p,by simp,by simp_all⟩
  ·obtain ⟨q,hq,e2⟩:=ih e
   exact ⟨q,by simp [hq],e2⟩
noncomputable def NmOk (z:Str):Prop:=(reprText z).length <= 1000
noncomputable def Sm (cF:Addr):FTX:=fun ds φ χ=>∃ fns:List (Str × D),∃ nm,ds=[.tup (fns.map Prod.snd),.str nm] /\ NmOk nm /\ (∀ p ∈ fns,∃ r,p.2=.tup (.str p.1 :: r)) /\ y7 (fns.map Prod.snd) /\ (∀ fn,rowG fns nm=some fn->φ (dv fn)) /\ (rowG fns nm=none->χ cF)
noncomputable def pS (ps:List (Str × Str)):List (Str × D):=ps.map fun p=>(p.1,.str p.2)
noncomputable def vt (ps:List (Str × Str)) (as:List D):Bool:=decide (as.length=ps.length) && (ps.zip as).all fun q=>xn q.1.2 q.2
noncomputable def Sr (cV:Addr):FTX:=fun ds φ χ=>∃ n0 ps sz b as,ds=[.tup [n0,pmD (pS ps),sz,b],.lst as] /\ ps.length <= 100 /\ (∀ a ∈ as,Ask a) /\ (vt ps as=true->φ (dv .non)) /\ (vt ps as=false->χ cV)
theorem Yq (T:Tops mg) (F:Fun K "is_whole" "is_whole" (top 13) f fd) (m:mg "is_whole" = some (.ref f)):FD P w K mg base 1 "is_whole" ["thing"] uc:=by
 have S:zn ["thing"] ["thing"] (zb (top 13)):=⟨rfl,rfl,rfl,by decide +kernel,rfl,by decide +kernel,by decide +kernel⟩
 refine su F S (F.binds fun _ _ _ _ _ _ us hl=>(by obtain ⟨_,rfl⟩:=Wn hl; rfl)) m fun qZ A outer s H E ds φ hr hl hT=>?_
 have hu:=hr.units
 refine ⟨_,(zl (y3 (Pq (v7 T.isinstance (z9 (za 0) (z9 (Wy T.int Tu) zd))) (Pp (Hi (v7 T.isinstance (z9 (za 0) (z9 (Wy T.bool jn) zd)))))))),?_⟩
 obtain ⟨d,rfl,hp,h⟩:=Hb hT
 cases d <;> first | (cases hp; done) | (walk_at "dl"; exact h)
theorem Ww (T:Tops mg) (Fi:FD P w K mg base 1 "is_whole" ["thing"] uc) (F:Fun K "is_tree" "is_tree" (top 17) f fd) (m:mg "is_tree" = some (.ref f)):FD P w K mg base 2 "is_tree" ["thing"] Zs:=by
 have S:zn ["thing", "waiting", "part"] ["thing"] (zb (top 17)):=⟨rfl,rfl,rfl,by decide +kernel,rfl,by decide +kernel,by decide +kernel⟩
 refine su F S (F.binds fun _ _ _ _ _ _ us hl=>(by obtain ⟨_,rfl⟩:=Wn hl; rfl)) m fun qZ A outer s H E ds φ hr hl hT=>?_
 have hu:=hr.units
 refine ⟨_,(ze (zy 1 S.nd (yi (z9 (za 0) zd)))
   (ze (R5 (vg (za 1)) (ze (Lh 1 2 S.nd)
    (ze (xg (Gy (za 2) yy) (zl Zu) y9)
    (ze (xg (EW.et (Yr (jj (vg (v7 T.isinstance (z9 (za 2) (z9 (Wy T.tuple vd) zd))))) (Yr (dh hu (vh T.len (z9 (za 2) zd)) zc) (Xv (jj (vg (zx Fi (hr.mono (by decide)) (z9 (zh hu (za 2) zc) zd)))))))) (zl (y3 xh)) y9)
    (zl (Vh 1 (z9 (zh hu (za 2) zc) (z9 (zh hu (za 2) zc) zd))))))))
   (zl (y3 xh)))),?_⟩
 obtain ⟨d0,rfl,hok,hsz,h⟩:=Hb hT
 walk_at "dl"
 refine ⟨fun ρ=>∃ ds a2,ρ=[some (dv d0),some (dO (.lst ds)),a2] /\ ds.all w5=w5 d0 /\ ds.all okB=true /\ sumZ ds <= 10000,fun ρ=>match ρ with
  | [_,some ⟨_,.lst ds⟩,_]=>sumZ ds
  | _=>0,⟨[d0],none,rfl,by simp,by simp [hok],by simpa [sumZ] using hsz⟩,?_⟩
 rintro ρ ⟨ds,a2,rfl,e1,e2,e3⟩
 refine Mq (ds:=ds) rfl ⟨fun z=>?_,fun z=>?_⟩
 ·rcases List.eq_nil_or_concat ds with rfl | ⟨ds,d,rfl⟩
  ·cases z
  rw [List.concat_eq_append] at e1 e2 e3 ⊢
  rw [List.all_append] at e1 e2
  rw [sy] at e3
  have e4:sumZ [d]=szD d:=by simp [sumZ]
  have e5:sumZ (ds ++ [d])=sumZ ds + szD d:=by rw [sy,e4]
  have hl:=Xp ds
  have hz:=Vd d
  simp only [List.all_cons,List.all_nil,Bool.and_true,Bool.and_eq_true] at e1 e2
  have hpl:=ug e2.2
  cases d with
  | non =>
   walk_at "dl"
   refine ⟨⟨ds,_,rfl,?_,e2.1,by omega⟩,by omega⟩
   rw [<- e1]
   simp [w5]
  | tup l =>
   by_cases hl3:(l.length:Int)=3
   ·match l,hl3 with
    | [x,y,w],_ =>
     have e6:okB x=true /\ uf y=true /\ okB w=true:=by
      have:=e2.2
      simp only [okB,Bool.and_eq_true] at this
      exact ⟨this.1.1,this.1.2,this.2⟩
     have e7:szD (.tup [x,y,w])=1 + szD x + szD w:=by simp [szD]
     walk_at "dl"
     simp only [uc,g1,e6.2.1]
     walk_at "dl"
     simp only [Int.reduceAdd,Int.cast_ofNat_Int,not_true_eq_false,false_implies,true_and,true_implies,eq_self]
     refine ⟨fun hw=>?_,fun hw=>?_⟩
     ·have:w5 d0=false:=by
       rw [<- e1]
       simp [w5,hw]
      rw [this] at h
      exact h
     ·refine ⟨by omega,⟨_,_,rfl,?_,?_,?_⟩,?_⟩
      ·rw [<- e1]
       simp [w5,hw]
      ·simp [e2.1,e6.1,e6.2.2]
      ·rw [sy]
       have:sumZ [x,w]=szD x + szD w:=by simp [sumZ]
       omega
      ·rw [e5,e7,sy]
       simp [sumZ]
   ·have ht:w5 (.tup l)=false:=by
     unfold w5
     split
     ·rename_i h; cases h
     ·rename_i h
      cases h
      exact absurd rfl hl3
     ·rfl
    have:w5 d0=false:=by rw [<- e1,ht]; simp
    rw [this] at h
    have hl3':=eq_false hl3
    walk_at "dl"
    simp only [hl3',not_false_eq_true,true_implies,false_implies,and_true]
    exact h
  | bl | int | str | lst =>
   have:w5 d0=false:=by rw [<- e1]; simp [w5]
   rw [this] at h
   walk_at "dl"
   exact h
  | _=>cases hpl
 ·have e0:ds=[]:=by cases ds with | nil=>rfl | cons=>cases z
  subst e0
  have e1':w5 d0=true:=by rw [<- e1]; rfl
  rw [e1'] at h
  walk_at "dl"
  exact h
theorem Ny (T:Tops mg) (Fi:FD P w K mg base 1 "is_whole" ["thing"] uc) (El:FD P w K mg base 2 "is_tree" ["thing"] Zs) (F:Fun K "fits" "fits" (top 16) f fd) (m:mg "fits" = some (.ref f)):FD P w K mg base 3 "fits" ["shape", "thing"] La:=by
 have S:zn ["shape", "thing"] ["shape", "thing"] (zb (top 16)):=⟨rfl,rfl,rfl,by decide +kernel,rfl,by decide +kernel,by decide +kernel⟩
 refine su F S (F.binds fun _ _ _ _ _ _ us hl=>(by obtain ⟨_,_,rfl⟩:=gs hl; rfl)) m fun qZ A outer s H E ds φ hr hl hT=>?_
 have hu:=hr.units
 refine ⟨_,(ze (xg (we hu (za 0) zo) (zl (y3 (zx Fi (hr.mono (by decide)) (z9 (za 1) zd)))) y9)
   (ze (xg (we hu (za 0) zo) (zl (y3 (Pq (v7 T.isinstance (z9 (za 1) (z9 (Wy T.tuple vd) zd))) (Pp (Th T.all (z9 (qz (T:=["number"]) (F:=[]) (js:=[]) (ub (za 1)) (show zw (zb (top 16)) _ ["number"] [] from ⟨rfl,by decide +kernel,by decide +kernel,by decide +kernel,by decide +kernel,by decide +kernel⟩) .nil (by decide) (fun cl C fp s H=>(ya (i:=0) (show ((["number"]:List Str) ++ ([]:List Str)).Nodup by decide +kernel) rfl (by walk_at "o"))) (xi (by decide)) (xm 0) (fun cl C fp s H=>wo) (fun cl C fp s H=>(zx Fi (hr.mono (by decide)) (z9 (za 0) zd)))) zd)))))) y9)
   (zl (y3 (zx El (hr.mono (by decide)) (z9 (za 1) zd)))))),?_⟩
 obtain ⟨s0,d,rfl,h⟩:=Gw hT
 cases s0 with
 | str z =>
  obtain ⟨⟨h1,h2,h3⟩,h⟩:=h
  have hp:=ug h1
  walk_at "dl"
  refine ⟨fun z1=>?_,fun z1=>⟨fun z2=>?_,fun z2=>?_⟩⟩
  ·have e:xn z d=xr d:=by unfold xn; rw [if_pos z1]
   rw [e] at h
   simp only [uc,g1]
   exact ⟨hp,trivial,h⟩
  ·have e:xn z d=Ub d:=by unfold xn; rw [if_neg z1,if_pos z2]
   rw [e] at h
   cases d with
   | tup l =>
    walk_at "dl"
    refine wf l (fun ψ hψ=>?_) (fun d=>some (.bl (xr d))) (by have:=h3.1; omega) ?_ ?_
    ·walk_at "dl"
     exact hψ
    ·intro d hd
     simp only [ρ0,List.map_nil,List.append_nil,List.replicate]
     walk_at "dl"
     simp only [uc,g1]
     exact ⟨h3.2 d hd,trivial,trivial⟩
    ·have e:l.filterMap (fun d=>some (D.bl (xr d)))=(l.map xr).map D.bl:=by
      rw [List.map_map]
      exact congrFun (List.filterMap_eq_map (f:=fun d=>D.bl (xr d))) l
     rw [e]
     walk_at "dl"
     rw [c4]
     have e2:(l.map xr).all id=Ub (.tup l):=by unfold Ub; rw [List.all_map]; rfl
     simp only [e2]
     exact h
   | non | bl | int | str | lst =>
    walk_at "dl"
    exact h
   | _=>cases hp
  ·have e:xn z d=w5 d:=by unfold xn; rw [if_neg z1,if_neg z2]
   rw [e] at h
   simp only [Zs,g1]
   exact ⟨h1,h2,trivial,h⟩
 | _=>exact h.elim
theorem j0 (T:Tops mg) {cE cF cV cNoPaper cNoProgram cNoRatio cNoRow cNoSize cNoTable cNoText cTooMany:Addr} (Z:Cls K mg cE cF cV cNoPaper cNoProgram cNoRatio cNoRow cNoSize cNoTable cNoText cTooMany) (F:Fun K "function_of" "function_of" (top 14) f fd) (m:mg "function_of" = some (.ref f)):FX P w K mg base 1 "function_of" ["program", "name"] (Sm cF):=by
 have S:zn ["program", "name", "function"] ["program", "name"] (zb (top 14)):=⟨rfl,rfl,rfl,by decide +kernel,rfl,by decide +kernel,by decide +kernel⟩
 refine Js F S (F.binds fun _ _ _ _ _ _ us hl=>(by obtain ⟨_,_,rfl⟩:=gs hl; rfl)) m fun qZ A outer s H E ds φ χ hr hl hT hxp hxr=>?_
 have hu:=hr.units
 refine ⟨_,(ze (Li (cq (ub (za 0)) (ya (i:=2) S.nd rfl (by walk_at "o")) (xm 2) (zl (xg (we hu (zh hu (za 2) zc) (za 1)) (zl (y3 (za 2))) y9))))
   (zl (jz PySem.F.excBase_ValueError Z.b_NoFunction Z.x_NoFunction hr.hd hxr (z9 (M3 (.cons zo (.cons (M5 (za 1)) .nil))) zd)))),?_⟩
 obtain ⟨fns,nm,rfl,hnm,hn,pf,h1,h2⟩:=hT
 refine wj ?_
 refine rn (fns.map Prod.snd) (fun ψ hψ=>⟨trivial,hψ⟩) (fun i ρ=>(∃ t,ρ=[some (dv (.tup (fns.map Prod.snd))),some (dv (.str nm)),t]) /\ ∀ p ∈ fns.take i,p.1 ≠ nm) ⟨⟨none,rfl⟩,by simp⟩ ?_ ?_
 ·rintro i d _ hd ⟨⟨t,rfl⟩,hp⟩
  rw [List.getElem?_map] at hd
  cases ep:fns[i]? with
  | none=>rw [ep] at hd; cases hd
  | some p =>
   rw [ep] at hd
   cases hd
   have hm:p ∈ fns:=List.mem_of_getElem? ep
   obtain ⟨r,er⟩:=hn p hm
   have tk:fns.take (i + 1)=fns.take i ++ [p]:=by rw [List.take_add_one,ep]; rfl
   have pp:=zr.mp pf p.2 (List.mem_map.mpr ⟨p,hm,rfl⟩)
   obtain ⟨z,d⟩:=p
   simp only at er
   subst er
   walk_at "dl"
   refine ⟨fun e=>?_,fun e=>⟨⟨_,rfl⟩,?_⟩⟩
   ·subst e
    exact ⟨pp.2,h1 _ (Vn hp ep)⟩
   ·rw [tk]
    intro q hq
    rcases List.mem_append.mp hq with hq | hq
    ·exact hp q hq
    ·rw [List.mem_singleton.mp hq]; exact e
 ·rintro _ ⟨⟨t,rfl⟩,hp⟩
  rw [zLm,List.take_length] at hp
  have e:rowG fns nm=none:=by
   cases e:rowG fns nm with
   | none=>rfl
   | some d =>
    obtain ⟨p,hm,e2⟩:=X7 e
    exact absurd e2 (hp p hm)
  have hz:(reprText nm).length <= 1000:=hnm
  have l1:(Str.empty ++ Str.ofString "no function has the name ").length=25:=by decide +kernel
  refine ⟨by rw [l1,sizeLine_eq]; decide,by rw [sizeLine_eq]; omega,?_,rfl,h2 e⟩
  rw [show (Str.empty ++ Str.ofString "no function has the name " ++ reprText nm).length=(Str.empty ++ Str.ofString "no function has the name ").length + (reprText nm).length from Array.size_append,l1,sizeLine_eq]
  omega
theorem d9 (T:Tops mg) {cE cF cV cNoPaper cNoProgram cNoRatio cNoRow cNoSize cNoTable cNoText cTooMany:Addr} (Z:Cls K mg cE cF cV cNoPaper cNoProgram cNoRatio cNoRow cNoSize cNoTable cNoText cTooMany) (En:FD P w K mg base 3 "fits" ["shape", "thing"] La) (F:Fun K "check_args" "check_args" (top 24) f fd) (m:mg "check_args" = some (.ref f)):FX P w K mg base 4 "check_args" ["function", "args"] (Sr cV):=by
 have S:zn ["function", "args", "shapes"] ["function", "args"] (zb (top 24)):=⟨rfl,rfl,rfl,by decide +kernel,rfl,by decide +kernel,by decide +kernel⟩
 refine Js F S (F.binds fun _ _ _ _ _ _ us hl=>(by obtain ⟨_,_,rfl⟩:=gs hl; rfl)) m fun qZ A outer s H E ds φ χ hr hl hT hxp hxr=>?_
 have hu:=hr.units
 refine ⟨_,(ze (zk (u3 (T:=["param", "shape"]) (F:=[]) (js:=[]) 2 S.nd (ub (zh hu (za 0) zc)) (show zw (zb (top 24)) _ ["param", "shape"] [] from ⟨rfl,by decide +kernel,by decide +kernel,by decide +kernel,by decide +kernel,by decide +kernel⟩) .nil (by decide) (fun cl C fp s H=>(gd (K0:=K) (n:=2) (by rfl) (by rfl) (wv (ya (i:=0) (show ((["param", "shape"]:List Str) ++ ([]:List Str)).Nodup by decide +kernel) rfl (by walk_at "o")) (wv (ya (i:=1) (show ((["param", "shape"]:List Str) ++ ([]:List Str)).Nodup by decide +kernel) rfl (by walk_at "o")) gc)))) (Ux (t6 va (Ym va jh) (xi (by decide)) (t6 va jh (xi (by decide)) Uy))) (d8 0 1) (fun cl C fp s H=>wo) (fun cl C fp s H=>(za 1))))
   (ze (zk (xg (dh hu (vh T.len (z9 (za 1) zd)) (vh T.len (z9 (za 2) zd))) (zl (jz PySem.F.excBase_ValueError Z.b_NoValue Z.x_NoValue hr.hd hxr (z9 zo zd))) y9))
   (zl (X6 2 (xg (jj (vg (Th T.all (z9 (qz (T:=["shape", "arg"]) (F:=[]) (js:=[]) (Hg T.zip (z9 (za 2) (z9 (za 1) zd))) (show zw (zb (top 24)) _ ["shape", "arg"] [] from ⟨rfl,by decide +kernel,by decide +kernel,by decide +kernel,by decide +kernel,by decide +kernel⟩) .nil (by decide) (fun cl C fp s H=>(gd (K0:=K) (n:=2) (by rfl) (by rfl) (wv (ya (i:=0) (show ((["shape", "arg"]:List Str) ++ ([]:List Str)).Nodup by decide +kernel) rfl (by walk_at "o")) (wv (ya (i:=1) (show ((["shape", "arg"]:List Str) ++ ([]:List Str)).Nodup by decide +kernel) rfl (by walk_at "o")) gc)))) (Ux (t6 va (Ym va jh) (xi (by decide)) (t6 va jh (xi (by decide)) Uy))) (d8 0 1) (fun cl C fp s H=>wo) (fun cl C fp s H=>(zx En (hr.mono (by decide)) (z9 (za 0) (z9 (za 1) zd))))) zd)))) (zl (jz PySem.F.excBase_ValueError Z.b_NoValue Z.x_NoValue hr.hd hxr (z9 zo zd))) y9))))),?_⟩
 obtain ⟨n0,ps,sz,b,as,rfl,hl2,ha,h1,h2⟩:=hT
 refine zg (fun ρ=>ρ=[some (dv (.tup [n0,pmD (pS ps),sz,b])),some (dv (.lst as)),some (dO (.lst (ps.map fun p=>.str p.2)))]) ?_ ?_
 ·refine v8 (wf ((pS ps).map fun p:Str × D=>D.tup [.str p.1,p.2]) (fun ψ hψ=>⟨trivial,hψ⟩) (fun d=>match d with | .tup [_,a]=>some a | _=>none) (by rw [zLm]; unfold pS; rw [zLm]; omega) (fun d hd=>?_) ?_)
  ·obtain ⟨y,hy,rfl⟩:=List.mem_map.mp hd
   exact ⟨fun _=>⟨trivial,rfl⟩,fun z=>(by cases z)⟩
  ·have ef:((pS ps).map fun p=>D.tup [.str p.1,p.2]).filterMap (fun d=>match d with | .tup [_,a]=>some a | _=>none)=ps.map fun p=>D.str p.2:=by
    unfold pS
    rw [List.map_map,List.filterMap_map,<- List.filterMap_eq_map]
    rfl
   rw [ef]
   exact ⟨trivial,rfl⟩
 rintro _ rfl
 have le:(ps.map fun p=>D.str p.2).length=ps.length:=zLm ..
 refine zg (fun ρ=>as.length=ps.length /\ ρ=[some (dv (.tup [n0,pmD (pS ps),sz,b])),some (dv (.lst as)),some (dO (.lst (ps.map fun p=>.str p.2)))]) ?_ ?_
 ·refine xj (!eqD (.int as.length) (.int (ps.map fun p=>D.str p.2).length)) (fun ψ hψ=>⟨yj ▸ trivial,yj ▸ trivial,hψ⟩) (fun z=>⟨rfl,h2 ?_⟩) (fun z=>⟨?_,rfl⟩)
  ·rw [qx,Bool.not_eq_true',beq_eq_false_iff_ne,le] at z
   unfold vt
   rw [decide_eq_false (by omega)]
   rfl
  ·rw [qx,Bool.not_eq_false',beq_iff_eq,le] at z
   omega
 rintro _ ⟨el,rfl⟩
 have ez:∀ (xs:List (Str × Str)) (ys:List D),zipD (xs.map fun p=>D.str p.2) ys=(xs.zip ys).map fun q=>D.tup [.str q.1.2,q.2]:=fun xs=>by
  induction xs with
  | nil=>intro ys; rfl
  | cons x xs ih=>intro ys; cases ys with
   | nil=>rfl
   | cons y ys =>
    have:=ih ys
    unfold zipD at this ⊢
    rw [List.map_cons,List.zipWith_cons_cons,this]
    rfl
 have gb:vt ps as=((ps.zip as).map fun q=>xn q.1.2 q.2).all id:=by
  unfold vt
  rw [decide_eq_true el,Bool.true_and,List.all_map]
  rfl
 refine Zx (xj (!((ps.zip as).map fun q=>xn q.1.2 q.2).all id) (fun ψ hψ=>Yw (Mm ((ps.zip as).map fun q=>xn q.1.2 q.2) (fun φ hφ=>?_) hψ)) (fun z=>⟨rfl,h2 (by rw [gb]; exact Bool.not_eq_true' _ ▸ z)⟩) (fun z=>h1 (by rw [gb]; exact Bool.not_eq_false' _ ▸ z)))
 refine wf (zipD (ps.map fun p:Str × Str=>D.str p.2) as) (fun ψ hψ=>⟨trivial,trivial,hψ⟩) (fun d=>match d with | .tup [.str s,a]=>some (.bl (xn s a)) | _=>none) ?_ (fun d hd=>?_) ?_
 ·rw [ez,zLm,List.length_zip]
  omega
 ·rw [ez] at hd
  obtain ⟨q,hq,rfl⟩:=List.mem_map.mp hd
  exact ⟨fun _=>⟨rfl,ha _ (List.of_mem_zip hq).2,trivial,rfl⟩,fun z=>(by cases z)⟩
 ·have e3:(zipD (ps.map fun p=>D.str p.2) as).filterMap (fun d=>match d with | .tup [.str s,a]=>some (D.bl (xn s a)) | _=>none)=((ps.zip as).map fun q=>xn q.1.2 q.2).map D.bl:=by
   rw [ez,List.filterMap_map,List.map_map,<- List.filterMap_eq_map]
   rfl
  rw [e3]
  exact hφ
structure TrIn (fns:List (Str × D)) (nm:Str) (as:List D):Prop where
 len:fns.length <= 100
 nd:(fns.map Prod.fst).Nodup
 pu:y7 (fns.map Prod.snd)
 fm:∀ p ∈ fns,∃ r,p.2=.tup (.str p.1 :: r)
 nm:NmOk nm
 ask:∀ a ∈ as,Ask a
noncomputable def fnD (z:Str) (ps:List (Str × Str)) (sz:D):D:=.tup [.str z,pmD (pS ps),sz,gvD (ps.map Prod.fst).head!]
noncomputable def tTr0:FT:=fun ds φ=>∃ fns nm as most ps sz v r,ds=[.tup (fns.map Prod.snd),.str nm,.lst as,.int most] /\ TrIn fns nm as /\ 1 <= most /\ rowG fns nm=some (fnD nm ps sz) /\ ym sz /\ as=v :: r /\ y7 as /\ as.length <= 10 /\ (ps.map Prod.fst).Nodup /\ vt ps as=true /\
 φ ⟨.new,.tup [.bl true,v,.lst [clD nm as true v],.lst [.tup [.int 0,.str "call"]]]⟩
noncomputable def tTr1 (cF cV:Addr):FTX:=fun ds _ χ=>∃ fns nm as most,ds=[.tup (fns.map Prod.snd),.str nm,.lst as,.int most] /\ TrIn fns nm as /\
 ((rowG fns nm=none /\ χ cF) \/ ∃ n0 ps sz b,rowG fns nm=some (.tup [n0,pmD (pS ps),sz,b]) /\ ps.length <= 100 /\ vt ps as=false /\ χ cV)
noncomputable def Qs:Stmt->List Expr
 | .Assign _ (.Call _ as _ _) _=>as
 | _=>[]
theorem Q9 {v:Value} {cF cV:Addr} (T:Tops mg) (O:CO K C zv) (Fj:FX P w K mg base 4 "check_args" ["function", "args"] (Sr cV)) (Fg:FX P w K mg base 1 "function_of" ["program", "name"] (Sm cF))
  (Eh:FM P w K mg base 2 C zv "__init__" ["self", "program", "most"] (O5 C)) (E3:FM P w K mg base 2 C zv "enter" ["self", "name", "args"] (P2 C)) (Eo:FM P w K mg base 3 C zv "go" ["self"] (tGo C)) (Ei:FMR P w K mg base 1 C zv "told" ["self"] (O2 C))
  (mk:W.makesIn K C=true) (kC:W.keepIn K (.ref C)=true) (mR:mg "Run" = some (.ref C)) (F:FunV K "trace" "trace" (top 23) f v fd):FnOk P w K mg base CX0 6 f fd ["program", "name", "args", "most"] (spD K 4 tTr0):=by
 have E4:=Ha (T':=fun ds φ=>Sr cV ds φ fun _=>False) Fj fun _ _ h=>h
 have Fx:=Ha (T':=fun ds φ=>Sm cF ds φ fun _=>False) Fg fun _ _ h=>h
 have S:zn ["program", "name", "args", "most", "run"] ["program", "name", "args", "most"] (zb (top 23)):=⟨rfl,rfl,rfl,by decide +kernel,rfl,by decide +kernel,by decide +kernel⟩
 obtain ⟨fI,fdI,okI,bI,hI⟩:=Eh.ex
 obtain ⟨fT,fdT,okT,bT,hTt⟩:=Ei.ex
 refine Jv (N:=["program", "name", "args", "most", "run"]) (C:=C) (ns:=zv) (m:="told") (l:=4) (nI:=3) (nM:=1) (TI:=O5 C) (TM:=O2 C) (as1:=Qs ((y0 (top 23)).getD 1 (.Pass ⟨0,0,0,0⟩))) (fun len hb=>F.ok S len hb) (by decide) rfl rfl fun qZ A outer s H E ds φ hr hl hT=>?_
 have hu:=hr.units
 refine ⟨_,_,_,_,(Zt (zx E4 (hr.mono (by decide)) (z9 (zx Fx (hr.mono (by decide)) (z9 (za 0) (z9 (za 1) zd))) (z9 (za 2) zd)))),(z9 (za 0) (z9 (za 3) zd)),?_,(qb (di O E3 (hr.mono (by decide)) (u4 (za 1) (u4 (v6 T.tuple (z9 (za 2) zd)) Xa)))),(qb (Xw O Eo (hr.mono (by decide)))),?_,?_⟩
 ·intro t ht
  exact Xe (Ou ⟨mk,hI.at_,hI.fn,kC⟩ okI (hr.mono (by decide)) rfl mR bI .nil gj ht) (ya (i:=4) S.nd rfl (by walk_at "o")) rfl rfl rfl
 ·exact cz (Xh (vf rfl (by first | exact Or.inl rfl | exact Or.inr (Or.inl rfl) | exact Or.inr (Or.inr rfl)) (by decide) (by decide)) O.cl hTt okT (hr.mono (by decide)) bT .nil gj rfl)
 ·obtain ⟨fns,nm,as,most,ps,sz,v,r,rfl,I,hm,hf,psz,ea,pa,hl3,nd2,hz,h⟩:=hT
  have lp:ps.length=as.length:=by
   unfold vt at hz
   rw [Bool.and_eq_true,decide_eq_true_eq] at hz
   exact hz.1.symm
  have fst:(pS ps).map Prod.fst=ps.map Prod.fst:=by unfold pS; rw [List.map_map]; rfl
  have p2:y7 ((pS ps).map Prod.snd):=zr.mpr fun x hx=>by
   obtain ⟨y,hy,rfl⟩:=List.mem_map.mp hx
   obtain ⟨q,hq,rfl⟩:=List.mem_map.mp hy
   trivial
  have ppm:ym (pmD (pS ps)):=zr.mpr fun x hx=>by
   obtain ⟨y,hy,rfl⟩:=List.mem_map.mp hx
   exact ⟨trivial,zr.mp p2 _ (List.mem_map.mpr ⟨y,hy,rfl⟩),trivial⟩
  have hv:rowG (((pS ps).map Prod.fst).zip as) (ps.map Prod.fst).head! = some v:=by
   rw [fst,ea]
   cases ps with
   | nil=>rw [ea] at lp; cases lp
   | cons p ps =>
    show rowG ((p.1,v) :: _) p.1=some v
    unfold rowG
    rw [if_pos rfl]
  have pv:ym v:=by rw [ea] at pa; exact pa.1
  walk_at "dl"
  refine ⟨fns,nm,rfl,I.nm,I.fm,I.pu,fun fn e=>?_,fun e=>absurd (hf.symm.trans e) (fun z=>nomatch z)⟩
  cases (Option.some.inj (hf.symm.trans e))
  refine ⟨.str nm,ps,sz,gvD (ps.map Prod.fst).head!,as,rfl,by omega,I.ask,fun _=>?_,fun z=>absurd (hz.symm.trans z) (by decide)⟩
  refine ⟨by simp,by simp,?_⟩
  refine ⟨fns,most,rfl,rfl,I.len,I.nd,I.pu,I.fm,rfl,?_⟩
  refine ⟨_,rfl,fns,most,nm,as,.str nm,pS ps,sz,gvD (ps.map Prod.fst).head!,rfl,rfl,hf,trivial,p2,psz,⟨trivial,⟨trivial,trivial,trivial⟩,trivial⟩,pa,by unfold pS; rw [zLm]; exact lp,hl3,by rw [fst]; exact nd2,hm,?_⟩
  refine ⟨_,rfl,fns,most,nm,as,_,v,_,rfl,rfl,hv,pv,pa,?_⟩
  exact ⟨_,rfl,fns,most,nm,as,v,rfl,rfl,pv,h⟩
theorem T3 {v:Value} {cF cV:Addr} (T:Tops mg) (Fj:FX P w K mg base 4 "check_args" ["function", "args"] (Sr cV)) (Fg:FX P w K mg base 1 "function_of" ["program", "name"] (Sm cF)) (F:FunV K "trace" "trace" (top 23) f v fd):FnOk P w K mg base (CX1 P w) 6 f fd ["program", "name", "args", "most"] (spX K 4 (tTr1 cF cV)):=by
 have S:zn ["program", "name", "args", "most", "run"] ["program", "name", "args", "most"] (zb (top 23)):=⟨rfl,rfl,rfl,by decide +kernel,rfl,by decide +kernel,by decide +kernel⟩
 refine Nv (N:=["program", "name", "args", "most", "run"]) F S fun qZ A outer s H E ds φ χ hr hl hT hxp hxr=>?_
 have hu:=hr.units
 refine ⟨_,(ze (Zt (dw Fj (hr.mono (by decide)) hxp (z9 (dw Fg (hr.mono (by decide)) hxp (z9 (za 0) (z9 (za 1) zd))) (z9 (za 2) zd)))) Sv),?_⟩
 obtain ⟨fns,nm,as,most,rfl,I,h⟩:=hT
 refine wj ⟨rfl,fns,nm,rfl,I.nm,I.fm,I.pu,fun fn e=>?_,fun e=>?_⟩
 ·rcases h with ⟨e2,_⟩ | ⟨n0,ps,sz,b,e2,hl,gb,h⟩
  ·exact absurd (e2.symm.trans e) (fun z=>nomatch z)
  ·cases (Option.some.inj (e2.symm.trans e))
   exact ⟨rfl,n0,ps,sz,b,as,rfl,hl,I.ask,fun z=>absurd (gb.symm.trans z) (by decide),fun _=>h⟩
 ·rcases h with ⟨_,h⟩ | ⟨n0,ps,sz,b,e2,_⟩
  ·exact h
  ·exact absurd (e.symm.trans e2) (fun z=>nomatch z)
noncomputable def letC (w:Int):Nat:=(("abcdfghjkmnopqrstuvwxyz" : Str).cps.toList).getD w.toNat 0
noncomputable def one (c:Nat):Str:=⟨#[c]⟩
noncomputable def ui (ws:List Int) (a:Nat) (k:Nat):Str:=Str.join "" ((ws.set a ((ws.getD a 0 + (k:Int)).fmod 23)).map fun w=>one (letC w))
theorem rf:∀ cs:List Nat,(Str.join "" (cs.map one)).cps.toList=cs
 | []=>rfl
 | [c]=>rfl
 | c :: c2 :: cs=>by
  have ih:=rf (c2 :: cs)
  have e:Str.join "" ((c :: c2 :: cs).map one)=one c ++ ("" : Str) ++ Str.join "" ((c2 :: cs).map one):=rfl
  rw [e]
  show ((#[c] ++ #[]) ++ (Str.join "" ((c2 :: cs).map one)).cps:Array Nat).toList=_
  rw [Array.toList_append,ih]
  rfl
theorem Ry:∀ i j:Fin 23,letC (i.val:Int)=letC (j.val:Int)->i=j:=by decide +kernel
theorem Y3 (ws:List Int) (a:Nat) (ha:a < ws.length) (m:Nat) (hm:m <= 20):((List.range m).map (ui ws a)).Nodup:=by
 refine List.pairwise_map.mpr (List.Pairwise.imp_of_mem ?_ List.nodup_range)
 intro k k' hk hk' ne e
 refine ne ?_
 have hk:=List.mem_range.mp hk
 have hk':=List.mem_range.mp hk'
 have ee:∀ k,(ui ws a k).cps.toList=(ws.set a ((ws.getD a 0 + (k:Int)).fmod 23)).map letC:=fun k=>by
  unfold ui
  rw [show ((ws.set a ((ws.getD a 0 + (k:Int)).fmod 23)).map fun w=>one (letC w))=((ws.set a ((ws.getD a 0 + (k:Int)).fmod 23)).map letC).map one from by rw [List.map_map]; rfl]
  exact rf _
 have e2:=congrArg (fun s:Str=>s.cps.toList[a]?) e
 simp only [ee,List.getElem?_map,List.getElem?_set_self ha,Option.map_some,Option.some.injEq] at e2
 have m1:=yu (ws.getD a 0 + (k:Int)) 23 (by decide)
 have m2:=yu (ws.getD a 0 + (k':Int)) 23 (by decide)
 have q:=Ry ⟨((ws.getD a 0 + (k:Int)).fmod 23).toNat,by omega⟩ ⟨((ws.getD a 0 + (k':Int)).fmod 23).toNat,by omega⟩ (by
  simp only
  rw [Int.toNat_of_nonneg m1.1,Int.toNat_of_nonneg m2.1]
  exact e2)
 have q2:(ws.getD a 0 + (k:Int)).fmod 23=(ws.getD a 0 + (k':Int)).fmod 23:=by
  have:=congrArg Fin.val q
  simp only at this
  omega
 rw [Int.fmod_eq_emod_of_nonneg _ (by decide),Int.fmod_eq_emod_of_nonneg _ (by decide)] at q2
 omega
noncomputable def Mv:FT:=fun ds φ=>∃ c,ds=[.int c] /\ ∀ n,φ (dv (.int n))
structure LowS (z:Str):Prop where
 len:z.length <= 8
 low:∀ c ∈ z.cps.toList,97 <= c /\ c <= 122
theorem Rx:∀ i:Fin 23,97 <= letC (i.val:Int) /\ letC (i.val:Int) <= 122:=by decide +kernel
theorem Rm (ws:List Int) (a:Nat) (k:Nat):(ui ws a k).length=ws.length:=by
 have ee:(ui ws a k).cps.toList=(ws.set a ((ws.getD a 0 + (k:Int)).fmod 23)).map letC:=by
  unfold ui
  rw [show ((ws.set a ((ws.getD a 0 + (k:Int)).fmod 23)).map fun w=>one (letC w))=((ws.set a ((ws.getD a 0 + (k:Int)).fmod 23)).map letC).map one from by rw [List.map_map]; rfl]
  exact rf _
 show (ui ws a k).cps.size=_
 rw [<- Array.length_toList,ee,zLm,List.length_set]
theorem Rl (ws:List Int) (a:Nat) (k:Nat) (hw:∀ w ∈ ws,0 <= w /\ w < 23) (hl:ws.length <= 8):LowS (ui ws a k):=by
 have ee:(ui ws a k).cps.toList=(ws.set a ((ws.getD a 0 + (k:Int)).fmod 23)).map letC:=by
  unfold ui
  rw [show ((ws.set a ((ws.getD a 0 + (k:Int)).fmod 23)).map fun w=>one (letC w))=((ws.set a ((ws.getD a 0 + (k:Int)).fmod 23)).map letC).map one from by rw [List.map_map]; rfl]
  exact rf _
 refine ⟨?_,fun c hc=>?_⟩
 ·show (ui ws a k).cps.size <= 8
  rw [<- Array.length_toList,ee,zLm,List.length_set]
  exact hl
 ·rw [ee] at hc
  obtain ⟨w,hw',rfl⟩:=List.mem_map.mp hc
  have b:0 <= w /\ w < 23:=by
   rcases List.mem_or_eq_of_mem_set hw' with q | q
   ·exact hw w q
   ·rw [q]; exact yu _ 23 (by decide)
  have:=Rx ⟨w.toNat,by omega⟩
  rw [show ((⟨w.toNat,by omega⟩:_root_.Fin 23).val:Int)=w from Int.toNat_of_nonneg b.1] at this
  exact this
noncomputable def Qz:FT:=fun ds φ=>∃ c:Int,∃ m:Nat,ds=[.int c,.int m] /\ m <= 20 /\ ∀ (zs:List Str) (n:Nat),zs.length=m->zs.Nodup->(∀ z ∈ zs,LowS z /\ z.length=n)->1 <= n->φ (df (.lst (zs.map D.str)))
theorem U3 {z:Str} (hl:z.length <= 30) (h:∀ c ∈ z.cps.toList,c < 16 ^ 8):NmOk z:=by
 have:=(sum_filter_repr (fun _=>true) [z] (fun y hy c hc=>by rw [List.mem_singleton.mp hy] at hc; exact h c hc)).1
 have e:(List.map (fun x=>x.length) (List.map reprText (List.filter (fun _=>true) [z]))).sum=(reprText z).length:=by simp
 rw [e] at this
 have e2:(List.map (fun x=>x.length) [z]).sum=z.length:=by simp
 rw [e2] at this
 have this:(reprText z).length <= 10 * z.length + 2 * 1:=this
 show (reprText z).length <= 1000
 omega
theorem LowS.sg {z:Str} (h:LowS z):∀ c ∈ z.cps.toList,c < 16 ^ 8:=fun c hc=>Nat.lt_of_le_of_lt (h.low c hc).2 (by decide)
theorem LowS.nm {z:Str} (h:LowS z):NmOk z:=U3 (by have:=h.len; omega) h.sg
theorem Se:∀ i:_root_.Fin 26,∀ c ∈ PySem.Unicode.upperOf (97 + i.val),c < 97:=by decide +kernel
theorem LowS.ups {z:Str} (h:LowS z):∀ c ∈ (Txt.upper z).cps.toList,c < 97:=fun c hc=>by
 have hc:c ∈ ((Array.mapIdx (fun _ c=>(PySem.Unicode.upperOf c).toArray) z.cps).flatten).toList:=hc
 rw [Array.mem_toList_iff,Array.mem_flatten] at hc
 obtain ⟨l,hl,hc⟩:=hc
 rw [Array.mem_mapIdx] at hl
 obtain ⟨i,hi,rfl⟩:=hl
 have b:=h.low z.cps[i] (by rw [Array.mem_toList_iff]; exact Array.getElem_mem hi)
 have:=Se ⟨z.cps[i] - 97,by omega⟩ c
 rw [show 97 + (⟨z.cps[i] - 97,by omega⟩:_root_.Fin 26).val=z.cps[i] from by show 97 + (z.cps[i] - 97)=_; omega] at this
 exact this (by simpa using hc)
theorem LowS.up {z:Str} (h:LowS z):NmOk (Txt.upper z):=U3 (by have:=len_upper z; have:=h.len; omega) fun c hc=>Nat.lt_trans (h.ups c hc) (by decide)
theorem LowS.no {z y:Str} (h:LowS z) (hy:LowS y) (ln:1 <= y.length):Txt.upper z ≠ y:=fun e=>by
 have hp:0 < y.cps.size:=ln
 have m:y.cps[0] ∈ y.cps.toList:=by rw [Array.mem_toList_iff]; exact Array.getElem_mem hp
 have a:=(hy.low _ m).1
 have b:=h.ups y.cps[0] (by rw [e]; exact m)
 omega
theorem Px {a b:Str} (ha:∀ c ∈ a.cps.toList,c < 16 ^ 8) (hb:∀ c ∈ b.cps.toList,c < 16 ^ 8) (hl:a.length + b.length <= 30):NmOk (a ++ b):=by
 refine U3 (by rw [show (a ++ b).length=a.length + b.length from Array.size_append]; exact hl) fun c hc=>?_
 have hc:c ∈ (a.cps ++ b.cps).toList:=hc
 rw [Array.toList_append] at hc
 exact (List.mem_append.mp hc).elim (ha c) (hb c)
theorem qg {t:TDs} {tk:TD} {ρ:DE} {φ:EV->Prop} (rs:List EV) (k:Nat) (r:EV) (h1:∀ ψ:List EV->Prop,ψ rs->t ρ ψ) (hl:Nat.ble rs.length 1000=true) (h2:∀ ψ:EV->Prop,ψ (dv (.int (k:Nat)))->tk ρ ψ) (e:rs[k]?=some r) (h:φ r):Ma t tk ρ φ:=h1 _ ⟨hl,h2 _ (by
 show match atI rs (k:Int) with | some r=>φ r | none=>False
 rw [kh (x:=r) (by omega) (by rw [show ((k:Nat):Int).toNat=k from rfl]; exact e)]
 exact h)⟩
theorem Hs {z:Str} (h:LowS z) (lo hi:Option Int):NmOk (cutS z lo hi):=by
 have sub:∀ c ∈ (cutS z lo hi).cps.toList,c ∈ z.cps.toList:=fun c hc=>List.mem_of_mem_drop (List.mem_of_mem_take hc)
 refine U3 ?_ fun c hc=>h.sg c (sub c hc)
 show ((List.take _ (List.drop _ z.cps.toList)).toArray).size <= 30
 have:=h.len
 have e:z.cps.toList.length=z.length:=Array.length_toList
 rw [List.size_toArray,List.length_take,List.length_drop]
 omega
noncomputable def Mx:FT:=fun ds φ=>∃ (zs:List Str) (m n:Nat) (c:Int),ds=[.lst (zs.map D.str),.int m,.int c] /\ zs.length=8 /\ 1 <= m /\ m <= 4 /\ zs.Nodup /\ (∀ z ∈ zs,LowS z /\ z.length=n) /\ 1 <= n /\ ∀ nm,NmOk nm->((∃ k:Nat,(c.fdiv 3).fmod m=(k:Int) /\ zs[k]?=some nm) \/ nm ∉ zs.take m)->φ (dv (.str nm))
theorem j8 (T:Tops mg) (F:Fun K "_law_cell_at" "_law_cell_at" (top 27) f fd) (m:mg "_law_cell_at" = some (.ref f)):FD P w K mg base 1 "_law_cell_at" ["_law_script", "_law_k"] Su:=by
 have S:zn ["_law_script", "_law_k"] ["_law_script", "_law_k"] (zb (top 27)):=⟨rfl,rfl,rfl,by decide +kernel,rfl,by decide +kernel,by decide +kernel⟩
 refine su F S (F.binds fun _ _ _ _ _ _ us hl=>(by obtain ⟨_,_,rfl⟩:=gs hl; rfl)) m fun qZ A outer s H E ds φ hr hl hT=>?_
 have hu:=hr.units
 refine ⟨_,(ze (xg (Gx (za 1) (vh T.len (z9 (za 0) zd))) (zl (y3 (zh hu (za 0) (za 1)))) y9)
   (zl (y3 zc))),?_⟩
 obtain ⟨ns,k,rfl,h⟩:=Ss hT
 walk_at "dl"
 refine ⟨fun hk=>?_,fun hk=>?_⟩
 ·have hk':k < ns.length:=by omega
  rw [kh (x:=ns[k]) (by omega) (by simp [hk'])]
  rw [show ns.getD k 0=ns[k] by simp [List.getD,hk']] at h
  exact h
 ·have hk':ns.length <= k:=by omega
  rw [show ns.getD k 0=0 by simp [List.getD,hk']] at h
  exact h
theorem db (T:Tops mg) (F:Fun K "_law_number" "_law_number" (top 28) f fd) (m:mg "_law_number" = some (.ref f)):FD P w K mg base 1 "_law_number" ["_law_cell"] Mv:=by
 have S:zn ["_law_cell"] ["_law_cell"] (zb (top 28)):=⟨rfl,rfl,rfl,by decide +kernel,rfl,by decide +kernel,by decide +kernel⟩
 refine su F S (F.binds fun _ _ _ _ _ _ us hl=>(by obtain ⟨_,rfl⟩:=Wn hl; rfl)) m fun qZ A outer s H E ds φ hr hl hT=>?_
 have hu:=hr.units
 refine ⟨_,(zl (y3 (xl (Po (ye (za 0) (Po (Te zc (sf zc zc)) zc)) (sf zc zc)) zc))),?_⟩
 obtain ⟨c,rfl,h⟩:=hT
 walk_at "dl"
 exact ⟨IntMulOk.of_left (by decide),by decide,h _⟩
theorem Za (T:Tops mg) (F:Fun K "_law_names" "_law_names" (top 29) f fd) (m:mg "_law_names" = some (.ref f)):FD P w K mg base 1 "_law_names" ["_law_cell", "_law_many"] Qz:=by
 have S:zn ["_law_cell", "_law_many", "_law_letters", "_law_word", "_law_at", "_law_names_here", "_law_k", "_law_turned"] ["_law_cell", "_law_many"] (zb (top 29)):=⟨rfl,rfl,rfl,by decide +kernel,rfl,by decide +kernel,by decide +kernel⟩
 refine su F S (F.binds fun _ _ _ _ _ _ us hl=>(by obtain ⟨_,_,rfl⟩:=gs hl; rfl)) m fun qZ A outer s H E ds φ hr hl hT=>?_
 have hu:=hr.units
 refine ⟨_,(ze (zk (zy 2 S.nd zo))
   (ze (zk (zy 0 S.nd (ye (za 0) (sf zc zc))))
   (ze (zk (u3 (T:=["_law_k"]) (F:=["_law_cell"]) (js:=[0]) 3 S.nd (vv T.range (z9 (xl zc (ye (za 0) zc)) zd)) (show zw (zb (top 29)) _ ["_law_k"] ["_law_cell"] from ⟨rfl,by decide +kernel,by decide +kernel,by decide +kernel,by decide +kernel,by decide +kernel⟩) (.cons rfl .nil) (by decide) (fun cl C fp s H=>(ya (i:=0) (show ((["_law_k"]:List Str) ++ (["_law_cell"]:List Str)).Nodup by decide +kernel) rfl (by walk_at "o"))) (xi (by decide)) (xm 0) (fun cl C fp s H=>wo) (fun cl C fp s H=>(ye (xl (t9 (za 1) (xl (za 0) zc)) (Te (za 0) (za 0))) zc))))
   (ze (zk (zy 4 S.nd (ye (t9 (za 0) zc) (vh T.len (z9 (za 3) zd)))))
   (ze (zk (zy 5 S.nd (yi zd)))
   (ze (zk (cq (vv T.range (z9 (za 1) zd)) (ya (i:=6) S.nd rfl (by walk_at "o")) (xm 6) (ze (zy 7 S.nd (rj T.list (z9 (za 3) zd)))
    (ze (rm 7 hu (za 4) (ye (xl (zh hu (za 3) (za 4)) (za 6)) zc))
    (zl (X6 7 (vi 5 (Qj zo (qz (T:=["_law_part"]) (F:=["_law_letters"]) (js:=[2]) (ub (za 7)) (show zw (zb (top 29)) _ ["_law_part"] ["_law_letters"] from ⟨rfl,by decide +kernel,by decide +kernel,by decide +kernel,by decide +kernel,by decide +kernel⟩) (.cons rfl .nil) (by decide) (fun cl C fp s H=>(ya (i:=0) (show ((["_law_part"]:List Str) ++ (["_law_letters"]:List Str)).Nodup by decide +kernel) rfl (by walk_at "o"))) (xi (by decide)) (xm 0) (fun cl C fp s H=>wo) (fun cl C fp s H=>(zh hu (za 1) (za 0))))))))))))
   (zl (y3 (za 5))))))))),?_⟩
 obtain ⟨c0,m,rfl,hl1,h⟩:=hT
 have f9:∀ (x:Int) (y:Int),y ≠ 0->y.natAbs <= 100->FdOk x y:=fun x y a b=>of_eq_true (Z8 a (by omega))
 refine zg (fun ρ=>ρ=[some (dv (.int c0)),some (dv (.int m)),some (dv (.str "abcdfghjkmnopqrstuvwxyz")),none,none,none,none,none]) ?_ ?_
 ·walk_at "dl"
 rintro _ rfl
 have cb:=yu c0 (10 ^ 9) (by decide)
 obtain ⟨c,ec⟩:∃ c,c0.fmod (10 ^ 9)=c:=⟨_,rfl⟩
 rw [ec] at cb
 refine zg (fun ρ=>ρ=[some (dv (.int c)),some (dv (.int m)),some (dv (.str "abcdfghjkmnopqrstuvwxyz")),none,none,none,none,none]) ?_ ?_
 ·walk_at "dl"
  rw [ec]
 rintro _ rfl
 have c8:=yu c 8 (by decide)
 refine zg (fun ρ=>∃ ws:List Int,(∀ w ∈ ws,0 <= w /\ w < 23) /\ 1 <= ws.length /\ ws.length <= 8 /\ ρ=[some (dv (.int c)),some (dv (.int m)),some (dv (.str "abcdfghjkmnopqrstuvwxyz")),some (dO (.lst (ws.map D.int))),none,none,none,none]) ?_ ?_
 ·walk_at "dl"
  refine wf (rngD 0 (1 + c.fmod 8).toNat) (fun ψ hψ=>?_) (fun d=>match d with | .int k=>some (.int ((c.fdiv (k + 1) + k * k).fmod 23)) | _=>none) (by rw [uv]; omega) ?_ ?_
  ·walk_at "dl"
   exact ⟨by omega,by omega,hψ⟩
  ·intro d hd
   obtain ⟨i,hi⟩:=List.getElem?_of_mem hd
   obtain ⟨hi2,rfl⟩:=rq hi
   unfold ρ0
   walk_at "dl"
   exact ⟨fdOk (m:=64) (by omega) (Pw (by omega)),IntMulOk.of_left (Pw (m:=64) (by omega))⟩
  ·refine ⟨trivial,(List.range (1 + c.fmod 8).toNat).map fun k:Nat=>(c.fdiv ((k:Int) + 1) + (k:Int) * k).fmod 23,fun w hw=>?_,by rw [zLm,List.length_range]; omega,by rw [zLm,List.length_range]; omega,?_⟩
   ·obtain ⟨k,_,rfl⟩:=List.mem_map.mp hw
    exact yu _ 23 (by decide)
   ·have e4:∀ n,(rngD 0 n).filterMap (fun d=>match d with | .int k=>some (D.int ((c.fdiv (k + 1) + k * k).fmod 23)) | _=>none)=((List.range n).map fun k:Nat=>(c.fdiv ((k:Int) + 1) + (k:Int) * k).fmod 23).map D.int:=fun n=>by
     unfold rngD
     rw [List.filterMap_map,List.map_map,<- List.filterMap_eq_map]
     congr 1
     funext k
     simp
    rw [e4]
 rintro _ ⟨ws,hw,l1,l2,rfl⟩
 have ab:=yu (c.fdiv 8) ws.length (by omega)
 obtain ⟨at_,ea⟩:∃ at_:Nat,(c.fdiv 8).fmod ws.length=at_:=⟨((c.fdiv 8).fmod ws.length).toNat,by omega⟩
 rw [ea] at ab
 refine zg (fun ρ=>ρ=[some (dv (.int c)),some (dv (.int m)),some (dv (.str "abcdfghjkmnopqrstuvwxyz")),some (dO (.lst (ws.map D.int))),some (dv (.int at_)),none,none,none]) ?_ ?_
 ·walk_at "dl"
  rw [ea]
  exact ⟨f9 _ _ (by decide) (by decide),by omega,rfl⟩
 rintro _ rfl
 refine zg (fun ρ=>ρ=[some (dv (.int c)),some (dv (.int m)),some (dv (.str "abcdfghjkmnopqrstuvwxyz")),some (dO (.lst (ws.map D.int))),some (dv (.int at_)),some (dO (.lst [])),none,none]) ?_ ?_
 ·walk_at "dl"
 rintro _ rfl
 refine zg (fun ρ=>∃ a b,ρ=[some (dv (.int c)),some (dv (.int m)),some (dv (.str "abcdfghjkmnopqrstuvwxyz")),some (dO (.lst (ws.map D.int))),some (dv (.int at_)),some (dO (.lst (((List.range m).map (ui ws at_)).map D.str))),a,b]) ?_ ?_
 ·refine rn (rngD 0 m) (fun ψ hψ=>?_) (fun i ρ=>∃ a b,ρ=[some (dv (.int c)),some (dv (.int m)),some (dv (.str "abcdfghjkmnopqrstuvwxyz")),some (dO (.lst (ws.map D.int))),some (dv (.int at_)),some (dO (.lst (((List.range i).map (ui ws at_)).map D.str))),a,b]) ⟨none,none,rfl⟩ ?_ ?_
  ·walk_at "dl"
   exact ⟨by omega,by omega,hψ⟩
  ·rintro i d _ hd ⟨a,b,rfl⟩
   obtain ⟨hi,rfl⟩:=rq hd
   have lt:at_ < ws.length:=by omega
   have e1:atI ws (at_:Int)=some (ws.getD at_ 0):=kh (by omega) (by simp [lt])
   have e2:ixN ws.length (at_:Int)=some at_:=by
    unfold ixN
    rw [if_pos (by omega),if_pos (by omega)]
    simp
   have ln23:(("abcdfghjkmnopqrstuvwxyz" : Str).cps.toList).length=23:=by decide +kernel
   have sz:("abcdfghjkmnopqrstuvwxyz" : Str).length <= sizeLine:=by rw [sizeLine_eq]; decide +kernel
   walk_at "dl"
   simp only [e1,e2,Option.map_some]
   simp only [Pt,dC]
   have es:(ws.map D.int).set at_ (.int ((ws.getD at_ 0 + (i:Int)).fmod 23))=(ws.set at_ ((ws.getD at_ 0 + (i:Int)).fmod 23)).map D.int:=by rw [List.map_set]
   rw [es]
   have hv:∀ w ∈ ws.set at_ ((ws.getD at_ 0 + (i:Int)).fmod 23),0 <= w /\ w < 23:=fun w hw'=>by
    rcases List.mem_or_eq_of_mem_set hw' with q | q
    ·exact hw w q
    ·rw [q]; exact yu _ 23 (by decide)
   have lv:(ws.set at_ ((ws.getD at_ 0 + (i:Int)).fmod 23)).length <= 8:=by rw [List.length_set]; exact l2
   have en:ui ws at_ i=Str.join "" ((ws.set at_ ((ws.getD at_ 0 + (i:Int)).fmod 23)).map fun w=>one (letC w)):=rfl
   generalize ws.set at_ ((ws.getD at_ 0 + (i:Int)).fmod 23)=vs at hv lv en
   refine wf (vs.map D.int) (fun ψ hψ=>?_) (fun d=>match d with | .int w=>some (.str (one (letC w))) | _=>none) (by rw [zLm]; omega) ?_ ?_
   ·walk_at "dl"
    exact hψ
   ·intro d hd
    obtain ⟨w,hw',rfl⟩:=List.mem_map.mp hd
    obtain ⟨w0,w1⟩:=hv w hw'
    have e5:atI ("abcdfghjkmnopqrstuvwxyz" : Str).cps.toList w=some (letC w):=kh w0 (by
     unfold letC
     rw [List.getD_eq_getElem?_getD,List.getElem?_eq_getElem (by rw [ln23]; omega)]
     rfl)
    unfold ρ0
    walk_at "dl"
    rw [e5]
    exact ⟨sz,rfl⟩
   ·have e6:(vs.map D.int).filterMap (fun d=>match d with | .int w=>some (D.str (one (letC w))) | _=>none)=(vs.map fun w=>one (letC w)).map D.str:=by
     rw [List.filterMap_map,List.map_map,<- List.filterMap_eq_map]
     rfl
    rw [e6]
    refine ⟨_,rfl,?_,trivial,by simp; omega,some (dv (.int i)),some (dv (.lst (vs.map D.int))),?_⟩
    ·have sm:∀ us:List Int,((us.map fun w=>one (letC w)).map fun t=>t.length + (Str.ofString "").length).sum=us.length:=fun us=>by
      induction us with
      | nil=>rfl
      | cons u us ih=>simp only [List.map_cons,List.sum_cons,ih,zLc]; show 1 + 0 + us.length=_; omega
     rw [sm,sizeLine_eq]
     omega
    ·rw [List.range_succ,zMa,zMa,List.map_cons,List.map_nil,List.map_cons,List.map_nil,en]
  ·rintro _ ⟨a,b,rfl⟩
   rw [uv]
   exact ⟨a,b,rfl⟩
 rintro _ ⟨a,b,rfl⟩
 walk_at "dl"
 exact ⟨zr.mpr fun x hx=>by obtain ⟨z,_,rfl⟩:=List.mem_map.mp hx; trivial,h _ ws.length (by simp) (Y3 ws at_ (by omega) m hl1) (fun z hz=>by obtain ⟨k,_,rfl⟩:=List.mem_map.mp hz; exact ⟨Rl ws at_ k hw l2,Rm ws at_ k⟩) l1⟩
theorem Yp (T:Tops mg) (F:Fun K "_law_name" "_law_name" (top 36) f fd) (m:mg "_law_name" = some (.ref f)):FD P w K mg base 1 "_law_name" ["_law_names_here", "_law_many", "_law_cell"] Mx:=by
 have S:zn ["_law_names_here", "_law_many", "_law_cell"] ["_law_names_here", "_law_many", "_law_cell"] (zb (top 36)):=⟨rfl,rfl,rfl,by decide +kernel,rfl,by decide +kernel,by decide +kernel⟩
 refine su F S (F.binds fun _ _ _ _ _ _ us hl=>(by obtain ⟨_,_,_,rfl⟩:=bj hl; rfl)) m fun qZ A outer s H E ds φ hr hl hT=>?_
 have hu:=hr.units
 refine ⟨_,(ze (xg (dh hu (ye (za 2) zc) zc) (zl (y3 (zh hu (za 0) (ye (t9 (za 2) zc) (za 1))))) y9)
   (zl (y3 (t8 (z9 (zh hu (za 0) (za 1)) (z9 (xl (zh hu (za 0) zc) zo) (z9 (Tc (zh hu (za 0) zc) (vc zc) qy) (z9 (Qi (zh hu (za 0) zc)) (z9 zo (z9 (xl zo (zh hu (za 0) zc)) zd)))))) (ye (t9 (za 2) zc) zc))))),?_⟩
 obtain ⟨zs,m,n,c,rfl,h8,m1,m4,nd,hz,n1,h⟩:=hT
 have f9:∀ (x:Int) (y:Int),y ≠ 0->y.natAbs <= 300->FdOk x y:=fun x y a b=>of_eq_true (Z8 a (by omega))
 have at_:∀ i:Nat,i < 8->∃ z,LowS z /\ zs[i]?=some z /\ z.length=n /\ atI (zs.map D.str) (i:Int)=some (.str z):=fun i hi=>⟨zs[i],(hz _ (List.getElem_mem (by omega))).1,List.getElem?_eq_getElem (by omega),(hz _ (List.getElem_mem (by omega))).2,vz (by rw [List.getElem?_map,List.getElem?_eq_getElem (by omega)]; rfl)⟩
 refine wj (xj _ (fun ψ hψ=>⟨(show (3:Int) ≠ 0 by decide),yj ▸ trivial,yj ▸ trivial,hψ⟩) (fun _=>?_) (fun _=>Zv ?_))
 ·have mb:=yu (c.fdiv 3) m (by omega)
  obtain ⟨k,ek⟩:=Int.eq_ofNat_of_zero_le mb.1
  obtain ⟨z,lz,gz,_,ez⟩:=at_ k (by omega)
  refine vj (xk (dv (.lst (zs.map D.str))) (dv (.int (k:Nat))) (fun ψ hψ=>hψ) (fun ψ hψ=>⟨f9 _ _ (by decide) (by decide),by omega,?_⟩) (yz ez ⟨trivial,h z lz.nm (.inl ⟨k,ek,gz⟩)⟩))
  show ψ (dv (.int ((c.fdiv 3).fmod m)))
  rw [ek]
  exact hψ
 ·dsimp only
  have mb:=yu (c.fdiv 3) 6 (by decide)
  obtain ⟨k,ek⟩:=Int.eq_ofNat_of_zero_le mb.1
  obtain ⟨zm,lm,gm,nm_,em⟩:=at_ m (by omega)
  obtain ⟨z0,l0,g0,n0,e0⟩:=at_ 0 (by omega)
  have sz:∀ n:Nat,n <= 1000->n <= sizeLine:=fun n hn=>by rw [sizeLine_eq]; omega
  have al:=l0.len
  have i0:∀ ψ:EV->Prop,ψ (dv (.str z0))->d2 sIxx (tj 0) (dC (.int 0)) [some (dv (.lst (zs.map D.str))),some (dv (.int m)),some (dv (.int c))] ψ:=fun ψ hψ=>xk (dv (.lst (zs.map D.str))) (dv (.int 0)) (fun ψ hψ=>hψ) (fun ψ hψ=>hψ) (yz e0 hψ)
  have lq:(Str.ofString "q").length=1:=by decide +kernel
  have lb:(Str.ofString " ").length=1:=by decide +kernel
  have sq:∀ c ∈ (Str.ofString "q").cps.toList,c < 16 ^ 8:=by decide +kernel
  have sb:∀ c ∈ (Str.ofString " ").cps.toList,c < 16 ^ 8:=by decide +kernel
  have not:∀ {y:Str},y.length ≠ n->y ∉ zs.take m:=fun {y} ne q=>ne (hz y (List.mem_of_mem_take q)).2
  have all:∀ r ∈ [dv (.str zm),dv (.str (z0 ++ Str.ofString "q")),dv (.str (cutS z0 (some 1) none)),dv (.str (Txt.upper z0)),dv (.str (Str.ofString "")),dv (.str (Str.ofString " " ++ z0))],∃ nm,NmOk nm /\ nm ∉ zs.take m /\ r=dv (.str nm):=fun r hr=>by
   simp only [List.mem_cons,List.not_mem_nil,or_false] at hr
   rcases hr with rfl | rfl | rfl | rfl | rfl | rfl
   ·refine ⟨_,lm.nm,fun q=>?_,rfl⟩
    obtain ⟨j,ej⟩:=List.getElem?_of_mem q
    have hj:=(List.getElem?_eq_some_iff.mp ej).1
    rw [List.length_take] at hj
    rw [List.getElem?_take_of_lt (by omega)] at ej
    have:=(List.getElem?_inj (i:=j) (j:=m) (by omega) nd).mp (ej.trans gm.symm)
    omega
   ·exact ⟨_,Px l0.sg sq (by omega),not (by show (z0.cps ++ (Str.ofString "q").cps).size ≠ n; rw [Array.size_append]; show z0.length + (Str.ofString "q").length ≠ n; omega),rfl⟩
   ·refine ⟨_,Hs l0 _ _,not ?_,rfl⟩
    show ((List.take _ (List.drop _ z0.cps.toList)).toArray).size ≠ n
    have e1:HT.sIx z0.length 0 (some 1)=1:=by
     unfold HT.sIx
     simp
     omega
    have e2:z0.cps.toList.length=z0.length:=Array.length_toList
    rw [List.size_toArray,List.length_take,List.length_drop,e1]
    omega
   ·exact ⟨_,l0.up,fun q=>l0.no (hz _ (List.mem_of_mem_take q)).1 (by rw [(hz _ (List.mem_of_mem_take q)).2]; exact n1) rfl,rfl⟩
   ·exact ⟨_,U3 (by decide +kernel) (by decide +kernel),not (by show 0 ≠ n; omega),rfl⟩
   ·exact ⟨_,Px sb l0.sg (by omega),not (by show ((Str.ofString " ").cps ++ z0.cps).size ≠ n; rw [Array.size_append]; show (Str.ofString " ").length + z0.length ≠ n; omega),rfl⟩
  have hk:k < 6:=by omega
  obtain ⟨r,er⟩:∃ r,([dv (.str zm),dv (.str (z0 ++ Str.ofString "q")),dv (.str (cutS z0 (some 1) none)),dv (.str (Txt.upper z0)),dv (.str (Str.ofString "")),dv (.str (Str.ofString " " ++ z0))]:List EV)[k]?=some r:=⟨_,List.getElem?_eq_getElem (show k < 6 from hk)⟩
  obtain ⟨nm,hn,hno,rfl⟩:=all r (List.mem_of_getElem? er)
  refine vj (qg [dv (.str zm),dv (.str (z0 ++ Str.ofString "q")),dv (.str (cutS z0 (some 1) none)),dv (.str (Txt.upper z0)),dv (.str (Str.ofString "")),dv (.str (Str.ofString " " ++ z0))] k (dv (.str nm)) (fun ψ hψ=>?_) rfl (fun ψ hψ=>⟨f9 _ _ (by decide) (by decide),(show (6:Int) ≠ 0 by decide),?_⟩) er ⟨trivial,h nm hn (.inr hno)⟩)
  ·refine zu _ _ (fun ψ hψ=>xk (dv (.lst (zs.map D.str))) (dv (.int m)) (fun ψ hψ=>hψ) (fun ψ hψ=>hψ) (yz em hψ)) (fun ψ hψ=>?_) hψ
   refine zu _ _ (fun ψ hψ=>xk (dv (.str z0)) (dv (.str (Str.ofString "q"))) i0 (fun ψ hψ=>hψ) ⟨sz _ (by omega),hψ⟩) (fun ψ hψ=>?_) hψ
   refine zu _ _ (fun ψ hψ=>i0 _ ⟨sz _ (by omega),hψ⟩) (fun ψ hψ=>?_) hψ
   refine zu _ _ (fun ψ hψ=>i0 _ ⟨by omega,hψ⟩) (fun ψ hψ=>?_) hψ
   refine zu _ _ (fun ψ hψ=>hψ) (fun ψ hψ=>?_) hψ
   exact zu _ [] (fun ψ hψ=>xk (dv (.str (Str.ofString " "))) (dv (.str z0)) (fun ψ hψ=>hψ) i0 ⟨sz _ (by omega),hψ⟩) (fun ψ hψ=>hψ) hψ
  ·show ψ (dv (.int ((c.fdiv 3).fmod 6)))
   rw [ek]
   exact hψ
noncomputable def prD (p:Str × Str):D:=.tup [.str p.1,.str p.2]
noncomputable def ShOk (s:Str):Prop:=s = "num" \/ s = "list" \/ s = "tree"
structure FnIn (zs:List Str) (ps:List (Str × Str)) (sz:D):Prop where
 l1:1 <= ps.length
 l4:ps.length <= 4
 nm:ps.map Prod.fst=zs.take ps.length
 sh:∀ p ∈ ps,ShOk p.2
 pu:ym sz
noncomputable def L9:FT:=fun ds φ=>∃ (nm:Str) (zs:List Str) (c:Int),ds=[.str nm,.lst (zs.map D.str),.int c] /\ zs.length=5 /\ ∀ ps sz,FnIn zs ps sz->φ (dv (fnD nm ps sz))
theorem Kw:∀ {n:Nat} {d:D},okD n d->okD (n + 1) d:=fun {n}=>by
 induction n with
 | zero=>intro d h; cases d <;> first | exact h.elim | trivial
 | succ n ih =>
  intro d h
  cases d with
  | tup ds=>exact fun x hx=>ih (h x hx)
  | lst ds=>exact fun x hx=>ih (h x hx)
  | _=>exact h
theorem xt {n m:Nat} {d:D} (h:okD n d) (hm:n <= m):okD m d:=by
 induction m with
 | zero=>rw [show n=0 by omega] at h; exact h
 | succ m ih =>
  by_cases z:n=m + 1
  ·rw [<- z]; exact h
  ·exact Kw (ih (by omega))
theorem IsTr.okd {d:D} {n:Nat} (h:IsTr d n):okD (n + 1) d:=by
 induction h with
 | leaf=>trivial
 | @node l r a b m h1 h2 i1 i2 =>
  intro x hx
  simp only [List.mem_cons,List.not_mem_nil,or_false] at hx
  rcases hx with rfl | rfl | rfl
  ·exact xt i1 (by omega)
  ·exact yj ▸ trivial
  ·exact xt i2 (by omega)
theorem gk {l:List D} (h:∀ y ∈ l,okB y=true):okB (.tup l)=true:=by
 unfold okB
 split
 ·rename_i a b c e
  have e:=D.tup.inj e
  subst e
  rw [h a (by simp),h c (by simp),ug (h b (by simp))]
  rfl
 ·rfl
theorem Vc {l:List D} {k:Nat} (h:∀ y ∈ l,szD y <= k):szD (.tup l) <= 1 + 2 * k:=by
 unfold szD
 split
 ·rename_i a b c e
  have e:=D.tup.inj e
  subst e
  have:=h a (by simp)
  have:=h c (by simp)
  omega
 ·omega
structure Vl (s:Str) (v:D):Prop where
 fit:xn s v=true
 okb:okB v=true
 sz:szD v <= 1000
 ln:∀ l,v=.tup l->l.length <= 100 /\ ∀ x ∈ l,okB x=true
 pu:ym v
 ok:okD 38 v
theorem Nl {v:D} (h:∀ l,v=.tup l->l.length <= 1000 /\ ∀ x ∈ l,okB x=true):fc v:=by
 cases v with
 | tup l=>exact ⟨(h l rfl).1,fun x hx=>ug ((h l rfl).2 x hx)⟩
 | _=>trivial
theorem Vl.ask {s:Str} {v:D} (h:Vl s v):Ask v:=⟨h.okb,by have:=h.sz; omega,Nl fun l e=>⟨by have:=(h.ln l e).1; omega,(h.ln l e).2⟩⟩
theorem IsTr.vl {d:D} {n:Nat} (h:IsTr d n) (hn:n <= 36):Vl "tree" d:=⟨by unfold xn; rw [if_neg (by decide),if_neg (by decide)]; exact h.tree,h.ok,by rw [h.sz]; omega,fun l e=>by
 rcases h.inv with ⟨rfl,_⟩ | ⟨x,m,r,a,b,rfl,_,h1,h2⟩
 ·cases e
 ·cases D.tup.inj e
  exact ⟨(show 3 <= 100 by decide),fun y hy=>by
   simp only [List.mem_cons,List.not_mem_nil,or_false] at hy
   rcases hy with rfl | rfl | rfl
   ·exact h1.ok
   ·rfl
   ·exact h2.ok⟩,h.pure,xt h.okd (by omega)⟩
theorem Nq (l:List Int) (hl:l.length <= 100):Vl "list" (.tup (l.map D.int)):=by
 have io:∀ x ∈ l.map D.int,∃ i,x=D.int i:=fun x hx=>by
  obtain ⟨i,_,rfl⟩:=List.mem_map.mp hx
  exact ⟨i,rfl⟩
 refine ⟨?_,gk fun x hx=>?_,Nat.le_trans (Vc (k:=1) fun x hx=>?_) (by decide),fun k e=>?_,zr.mpr fun x hx=>?_,fun x hx=>?_⟩
 ·unfold xn
  rw [if_neg (by decide),if_pos rfl]
  show (l.map D.int).all xr=true
  rw [List.all_map,List.all_eq_true]
  exact fun _ _=>rfl
 ·obtain ⟨i,rfl⟩:=io x hx
  rfl
 ·obtain ⟨i,rfl⟩:=io x hx
  exact Nat.le_refl _
 ·cases D.tup.inj e
  exact ⟨by rw [zLm]; exact hl,fun x hx=>by obtain ⟨i,rfl⟩:=io x hx; rfl⟩
 ·obtain ⟨i,rfl⟩:=io x hx
  trivial
 ·obtain ⟨i,rfl⟩:=io x hx
  exact yj ▸ trivial
theorem Jo (i:Int):Vl "num" (.int i):=⟨rfl,rfl,(show 1 <= 1000 by decide),fun l e=>(nomatch e),trivial,yj ▸ trivial⟩
structure Bd (s:Str) (d:D):Prop where
 fit:xn s d=false
 ask:Ask d
 ok:okD 41 d
structure Bs (s:Str) (d:D):Prop where
 fit:xn s d=false
 okb:okB d=true
 sz:szD d <= 100
 it:fc d
 ok:okD 5 d
theorem Bs.bd {s:Str} {d:D} (h:Bs s d):Bd s d:=⟨h.fit,⟨h.okb,by have:=h.sz; omega,h.it⟩,xt h.ok (by decide)⟩
noncomputable def tStr:FT:=fun ds φ=>∃ (s:Str) (c:Int),ds=[.str s,.int c] /\ ShOk s /\ ∀ r:EV,(match r.k with | .own=>False | _=>True)->xf r->Bs s r.d->φ r
noncomputable def Qy:FT:=fun ds φ=>∃ (s:Str) (c:Int) (l:List Int),ds=[.str s,.int c,.lst (l.map D.int)] /\ ShOk s /\ l.length <= 36 /\ ∀ v,Vl s v->φ (dv v)
theorem qv (T:Tops mg) (F:Fun K "_law_function" "_law_function" (top 30) f fd) (m:mg "_law_function" = some (.ref f)):FD P w K mg base 1 "_law_function" ["_law_name_here", "_law_names_here", "_law_cell"] L9:=by
 have S:zn ["_law_name_here", "_law_names_here", "_law_cell", "_law_params", "_law_size", "_law_k"] ["_law_name_here", "_law_names_here", "_law_cell"] (zb (top 30)):=⟨rfl,rfl,rfl,by decide +kernel,rfl,by decide +kernel,by decide +kernel⟩
 refine su F S (F.binds fun _ _ _ _ _ _ us hl=>(by obtain ⟨_,_,_,rfl⟩:=bj hl; rfl)) m fun qZ A outer s H E ds φ hr hl hT=>?_
 have hu:=hr.units
 refine ⟨_,(ze (zk (zy 2 S.nd (ye (za 2) (sf zc zc))))
   (ze (zk (zy 3 S.nd (yi zd)))
   (ze (zk (zy 4 S.nd (yi (z9 zc zd))))
   (ze (zk (cq (vv T.range (z9 (xl zc (ye (za 2) zc)) zd)) (ya (i:=5) S.nd rfl (by walk_at "o")) (xm 5) (ze (zk (vi 3 (yp (z9 (zh hu (za 1) (za 5)) (z9 (zh hu (yi (z9 zo (z9 zo (z9 zo zd)))) (ye (t9 (za 2) (zh hu (yi (z9 zc (z9 zc (z9 zc (z9 zc zd))))) (za 5))) zc)) zd)))))
    (zl (vi 4 zc)))))
   (ze (zk (xg (dh hu (zh hu (zh hu (za 3) zc) zc) zo) (zl (rm 4 hu zc zc)) y9))
   (zl (y3 (yp (z9 (za 0) (z9 (v6 T.tuple (z9 (za 3) zd)) (z9 (yp (z9 (zh hu (zh hu (za 3) zc) zc) (z9 (v6 T.tuple (z9 (za 4) zd)) zd))) (z9 (yp (z9 zo (z9 (yp (z9 zo (z9 (zh hu (za 1) zc) zd))) zd))) zd)))))))))))),?_⟩
 obtain ⟨nm,zs,c0,rfl,h5,h⟩:=hT
 have f9:∀ (x:Int) (y:Int),y ≠ 0->y.natAbs <= 300->FdOk x y:=fun x y a b=>of_eq_true (Z8 a (by omega))
 refine zg (fun ρ=>∃ c:Int,ρ=[some (dv (.str nm)),some (dv (.lst (zs.map D.str))),some (dv (.int c)),none,none,none]) ?_ ?_
 ·exact ⟨of_eq_true (cp10 (by decide) (by decide)),(show (10 ^ 9:Int) ≠ 0 by decide),trivial,_,rfl⟩
 rintro _ ⟨c,rfl⟩
 refine zg (fun ρ=>ρ=[some (dv (.str nm)),some (dv (.lst (zs.map D.str))),some (dv (.int c)),some (dO (.lst [])),none,none]) ?_ ?_
 ·exact ⟨rfl,rfl,trivial,rfl⟩
 rintro _ rfl
 refine zg (fun ρ=>ρ=[some (dv (.str nm)),some (dv (.lst (zs.map D.str))),some (dv (.int c)),some (dO (.lst [])),some (dO (.lst ([0].map D.int))),none]) ?_ ?_
 ·exact ⟨rfl,rfl,trivial,rfl⟩
 rintro _ rfl
 have m4:=yu c 4 (by decide)
 obtain ⟨n,en⟩:=Int.eq_ofNat_of_zero_le m4.1
 refine zg (fun ρ=>∃ (ps:List (Str × Str)) (sl:List Int) (x5:Option EV),ps.length=1 + n /\ sl.length=2 + n /\ ps.map Prod.fst=zs.take (1 + n) /\ (∀ p ∈ ps,ShOk p.2) /\ ρ=[some (dv (.str nm)),some (dv (.lst (zs.map D.str))),some (dv (.int c)),some (dO (.lst (ps.map prD))),some (dO (.lst (sl.map D.int))),x5]) ?_ ?_
 ·refine rn (rngD 0 (1 + n)) (fun ψ hψ=>Uu (x:=.int ((1 + n:Nat):Int)) (fun ψ hψ=>⟨(show (4:Int) ≠ 0 by decide),?_⟩) ⟨by omega,by omega,hψ⟩) (fun i ρ=>∃ (ps:List (Str × Str)) (sl:List Int) (x5:Option EV),ps.length=i /\ sl.length=i + 1 /\ ps.map Prod.fst=zs.take i /\ (∀ p ∈ ps,ShOk p.2) /\ ρ=[some (dv (.str nm)),some (dv (.lst (zs.map D.str))),some (dv (.int c)),some (dO (.lst (ps.map prD))),some (dO (.lst (sl.map D.int))),x5]) ⟨[],[0],none,rfl,rfl,rfl,fun _ z=>(nomatch z),rfl⟩ ?_ ?_
  ·show ψ (dv (.int (1 + c.fmod 4)))
   rw [en]
   rw [Int.natCast_add] at hψ
   exact hψ
  ·rintro i d _ hd ⟨ps,sl,x5,rfl,q2,q3,q4,rfl⟩
   obtain ⟨hi,rfl⟩:=rq hd
   have k4:ps.length <= 3:=by omega
   refine Uz ?_
   have ez:atI (zs.map D.str) ((ps.length:Nat):Int)=some (.str (zs.getD ps.length "")):=vz (by rw [List.getElem?_map,List.getElem?_eq_getElem (by omega),List.getD_eq_getElem?_getD,List.getElem?_eq_getElem (by omega)]; rfl)
   obtain ⟨q,q0,q300,eq⟩:∃ q:Int,q ≠ 0 /\ q.natAbs <= 300 /\ atI [D.int 4,.int 12,.int 36,.int 108] ((ps.length:Nat):Int)=some (.int q):=by
    have:ps.length=0 \/ ps.length=1 \/ ps.length=2 \/ ps.length=3:=by omega
    rcases this with e | e | e | e <;> rw [e]
    ·exact ⟨4,by decide,by decide,rfl⟩
    ·exact ⟨12,by decide,by decide,rfl⟩
    ·exact ⟨36,by decide,by decide,rfl⟩
    ·exact ⟨108,by decide,by decide,rfl⟩
   have m3:=yu (c.fdiv q) 3 (by decide)
   obtain ⟨sh,hsh,es⟩:∃ sh:Str,ShOk sh /\ atI [D.str "num", .str "list", .str "tree"] ((c.fdiv q).fmod 3)=some (.str sh):=by
    have:(c.fdiv q).fmod 3=0 \/ (c.fdiv q).fmod 3=1 \/ (c.fdiv q).fmod 3=2:=by omega
    rcases this with e | e | e <;> rw [e]
    ·exact ⟨"num", .inl rfl,rfl⟩
    ·exact ⟨"list", .inr (.inl rfl),rfl⟩
    ·exact ⟨"tree", .inr (.inr rfl),rfl⟩
   refine zg (fun ρ=>ρ=[some (dv (.str nm)),some (dv (.lst (zs.map D.str))),some (dv (.int c)),some (dO (.lst ((ps ++ [(zs.getD ps.length "", sh)]).map prD))),some (dO (.lst (sl.map D.int))),some (dv (.int ((0:Int) + (ps.length:Nat))))]) ?_ ?_
   ·refine h9 (ds:=ps.map prD) rfl (Hm (dv (.str (zs.getD ps.length ""))) (dv (.str sh)) (fun ψ hψ=>xk (dv (.lst (zs.map D.str))) (dv (.int ((0:Int) + (ps.length:Nat)))) (fun ψ hψ=>hψ) (fun ψ hψ=>hψ) (yz (by rw [Int.zero_add]; exact ez) hψ)) (fun ψ hψ=>xk (df (.lst [.str "num", .str "list", .str "tree"])) (dv (.int ((c.fdiv q).fmod 3))) (fun ψ hψ=>⟨rfl,rfl,hψ⟩) (fun ψ hψ=>xk (dv (.int (c.fdiv q))) (dv (.int 3)) (fun ψ hψ=>xk (dv (.int c)) (dv (.int q)) (fun ψ hψ=>hψ) (fun ψ hψ=>xk (df (.lst [.int 4,.int 12,.int 36,.int 108])) (dv (.int ((0:Int) + (ps.length:Nat)))) (fun ψ hψ=>⟨rfl,rfl,hψ⟩) (fun ψ hψ=>hψ) (yz (by rw [Int.zero_add]; exact eq) hψ)) ⟨f9 _ _ q0 q300,hψ⟩) (fun ψ hψ=>hψ) ⟨(show (3:Int) ≠ 0 by decide),hψ⟩) (yz es hψ)) ⟨rfl,rfl,trivial,by rw [zLm]; omega,?_⟩)
    rw [zMa]
    rfl
   rintro _ rfl
   refine h9 (ds:=sl.map D.int) rfl ⟨trivial,by rw [zLm]; omega,ps ++ [(zs.getD ps.length "", sh)],sl ++ [0],some (dv (.int ((0:Int) + (ps.length:Nat)))),zLa,by rw [zLa,q2]; rfl,?_,fun p hp=>?_,?_⟩
   ·rw [zMa,q3,List.take_add_one,List.getElem?_eq_getElem (show ps.length < zs.length by omega),List.getD_eq_getElem?_getD,List.getElem?_eq_getElem (show ps.length < zs.length by omega)]
    rfl
   ·rcases List.mem_append.mp hp with z | z
    ·exact q4 p z
    ·rw [List.mem_singleton.mp z]; exact hsh
   ·rw [zMa (f:=D.int)]
    rfl
  ·rintro _ ⟨ps,sl,x5,q1,q2,q3,q4,rfl⟩
   rw [uv] at q1 q2 q3
   exact ⟨ps,sl,x5,q1,by omega,q3,q4,rfl⟩
 rintro _ ⟨ps,sl,x5,q1,q2,q3,q4,rfl⟩
 obtain ⟨p0,pr,ep⟩:∃ p0 pr,ps=p0 :: pr:=by
  cases ps with
  | nil=>exact absurd q1 (by simp; omega)
  | cons p pr=>exact ⟨p,pr,rfl⟩
 have e0:atI (ps.map prD) 0=some (.tup [.str p0.1,.str p0.2]):=vz (i:=0) (by rw [ep]; rfl)
 have i0:∀ (x4:Option EV) (ψ:EV->Prop),ψ (dv (.str p0.2))->d2 sIxx (d2 sIxx (tj 3) (dC (.int 0))) (dC (.int 1)) [some (dv (.str nm)),some (dv (.lst (zs.map D.str))),some (dv (.int c)),some (dO (.lst (ps.map prD))),x4,x5] ψ:=fun x4 ψ hψ=>xk (dv (.tup [.str p0.1,.str p0.2])) (dv (.int 1)) (fun ψ hψ=>xk (dO (.lst (ps.map prD))) (dv (.int 0)) (fun ψ hψ=>hψ) (fun ψ hψ=>hψ) (yz e0 hψ)) (fun ψ hψ=>hψ) hψ
 refine zg (fun ρ=>∃ sl:List Int,ρ=[some (dv (.str nm)),some (dv (.lst (zs.map D.str))),some (dv (.int c)),some (dO (.lst (ps.map prD))),some (dO (.lst (sl.map D.int))),x5]) ?_ ?_
 ·refine xj (!eqD (.str p0.2) (.str "num")) (fun ψ hψ=>i0 _ _ ⟨trivial,trivial,hψ⟩) (fun _=>?_) (fun _=>⟨sl,rfl⟩)
  refine N9 (j:=1) (k:=1) rfl (.int 1) (fun ψ hψ=>hψ) (fun ψ hψ=>hψ) (Ur (k:=1) (by rw [zLm]; omega)) ⟨sl.set 1 1,?_⟩
  rw [List.map_set]
  rfl
 rintro _ ⟨sl,rfl⟩
 have ez:atI (zs.map D.str) 0=some (.str (ps.map Prod.fst).head!):=by
  rw [q3]
  cases zs with
  | nil=>cases h5
  | cons z zs=>rw [show 1 + n=n + 1 by omega]; exact vz (i:=0) rfl
 have pp:y7 (ps.map prD):=zr.mpr fun x hx=>by
  obtain ⟨y,hy,rfl⟩:=List.mem_map.mp hx
  exact ⟨trivial,trivial,trivial⟩
 have ps2:y7 (sl.map D.int):=zr.mpr fun x hx=>by
  obtain ⟨y,hy,rfl⟩:=List.mem_map.mp hx
  trivial
 have R:=h ps (.tup [.str p0.2,.tup (sl.map D.int)]) ⟨by omega,by omega,by rw [q3,q1],q4,trivial,ps2,trivial⟩
 unfold fnD pmD pS at R
 rw [List.map_map] at R
 refine vj ?_
 refine i0 _ _ ?_
 refine ⟨rfl,rfl,?_⟩
 refine xk (dv (.lst (zs.map D.str))) (dv (.int 0)) (fun ψ hψ=>hψ) (fun ψ hψ=>hψ) (yz ez ?_)
 exact ⟨rfl,rfl,rfl,rfl,rfl,rfl,⟨trivial,pp,⟨trivial,ps2,trivial⟩,⟨trivial,⟨trivial,trivial,trivial⟩,trivial⟩,trivial⟩,R⟩
theorem Z9 (T:Tops mg) (Fe:FD P w K mg base 1 "_law_number" ["_law_cell"] Mv) (F:Fun K "_law_value" "_law_value" (top 31) f fd) (m:mg "_law_value" = some (.ref f)):FD P w K mg base 2 "_law_value" ["_law_shape", "_law_cell", "_law_cells"] Qy:=by
 have S:zn ["_law_shape", "_law_cell", "_law_cells", "_law_tree", "_law_part"] ["_law_shape", "_law_cell", "_law_cells"] (zb (top 31)):=⟨rfl,rfl,rfl,by decide +kernel,rfl,by decide +kernel,by decide +kernel⟩
 refine su F S (F.binds fun _ _ _ _ _ _ us hl=>(by obtain ⟨_,_,_,rfl⟩:=bj hl; rfl)) m fun qZ A outer s H E ds φ hr hl hT=>?_
 have hu:=hr.units
 refine ⟨_,(ze (zk (xg (we hu (za 0) zo) (zl (y3 (zx Fe (hr.mono (by decide)) (z9 (za 1) zd)))) y9))
   (ze (zk (xg (we hu (za 0) zo) (zl (y3 (v6 T.tuple (z9 (Xy (T:=["_law_part"]) (F:=["_law_cell"]) (js:=[1]) (ub (za 2)) (show zw (zb (top 31)) _ ["_law_part"] ["_law_cell"] from ⟨rfl,by decide +kernel,by decide +kernel,by decide +kernel,by decide +kernel,by decide +kernel⟩) (.cons rfl .nil) (by decide) (fun cl C fp s H=>(ya (i:=0) (show ((["_law_part"]:List Str) ++ (["_law_cell"]:List Str)).Nodup by decide +kernel) rfl (by walk_at "o"))) (xi (by decide)) (xm 0) (fun cl C fp s H=>wo) (fun cl C fp s H=>(zx Fe (hr.mono (by decide)) (z9 (xl (Te (za 1) zc) (za 0)) zd)))) zd)))) y9))
   (ze (zk (zy 3 S.nd yy))
   (ze (zk (cq (ub (za 2)) (ya (i:=4) S.nd rfl (by walk_at "o")) (xm 4) (zl (zy 3 S.nd (t8 (z9 (yp (z9 (za 3) (z9 (zx Fe (hr.mono (by decide)) (z9 (za 4) zd)) (z9 yy zd)))) (z9 (yp (z9 yy (z9 (zx Fe (hr.mono (by decide)) (z9 (za 1) zd)) (z9 (za 3) zd)))) zd)) (ye (za 4) zc))))))
   (zl (y3 (za 3))))))),?_⟩
 obtain ⟨s,c,l,rfl,hs,hl6,h⟩:=hT
 refine zg (fun ρ=>s ≠ "num" /\ ρ=[some (dv (.str s)),some (dv (.int c)),some (dv (.lst (l.map D.int))),none,none]) ?_ ?_
 ·refine xj (eqD (.str s) (.str "num")) (fun ψ hψ=>⟨trivial,trivial,hψ⟩) (fun z=>?_) (fun z=>⟨?_,rfl⟩)
  ·rw [yr,beq_iff_eq] at z
   subst z
   exact ⟨rfl,c,rfl,fun n=>⟨trivial,h _ (Jo n)⟩⟩
  ·rw [yr,beq_eq_false_iff_ne] at z
   exact z
 rintro _ ⟨s1,rfl⟩
 refine zg (fun ρ=>s = "tree" /\ ρ=[some (dv (.str s)),some (dv (.int c)),some (dv (.lst (l.map D.int))),none,none]) ?_ ?_
 ·refine xj (eqD (.str s) (.str "list")) (fun ψ hψ=>⟨trivial,trivial,hψ⟩) (fun z=>?_) (fun z=>⟨?_,rfl⟩)
  ·rw [yr,beq_iff_eq] at z
   subst z
   refine vj (Xz (Ze (l.map D.int) (fun ψ hψ=>⟨trivial,hψ⟩) (fun i es=>∃ r:List Int,r.length=i /\ es=r.map D.int) (by rw [zLm]; omega) ⟨[],rfl,rfl⟩ ?_ ?_))
   ·rintro i d _ hd _ ⟨r,rfl,rfl⟩
    rw [List.getElem?_map] at hd
    cases e1:l[r.length]? with
    | none=>rw [e1] at hd; cases hd
    | some x =>
     rw [e1] at hd
     cases hd
     refine Uz ⟨fun _=>?_,fun z=>(by cases z)⟩
     refine ⟨IntMulOk.of_right (by decide),rfl,_,rfl,fun n=>⟨trivial,r ++ [n],by rw [zLa]; rfl,by rw [zMa]; rfl⟩⟩
   ·rintro _ ⟨r,er,rfl⟩
    rw [zLm] at er
    have V:=Nq r (by omega)
    exact ⟨V.pu,h _ V⟩
  ·rw [yr,beq_eq_false_iff_ne] at z
   rcases hs with e | e | e
   ·exact absurd e s1
   ·exact absurd e z
   ·exact e
 rintro _ ⟨rfl,rfl⟩
 refine zg (fun ρ=>ρ=[some (dv (.str "tree")),some (dv (.int c)),some (dv (.lst (l.map D.int))),some (dv .non),none]) ?_ ?_
 ·exact ⟨trivial,rfl⟩
 rintro _ rfl
 refine zg (fun ρ=>∃ (t:D) (n:Nat) (x4:Option EV),IsTr t n /\ n <= 36 /\ ρ=[some (dv (.str "tree")),some (dv (.int c)),some (dv (.lst (l.map D.int))),some (dv t),x4]) ?_ ?_
 ·refine rn (l.map D.int) (fun ψ hψ=>⟨trivial,hψ⟩) (fun i ρ=>∃ (t:D) (x4:Option EV),IsTr t i /\ ρ=[some (dv (.str "tree")),some (dv (.int c)),some (dv (.lst (l.map D.int))),some (dv t),x4]) ⟨.non,none,.leaf,rfl⟩ ?_ ?_
  ·rintro i d _ hd ⟨t,x4,ht,rfl⟩
   rw [List.getElem?_map] at hd
   cases e1:l[i]? with
   | none=>rw [e1] at hd; cases hd
   | some x =>
    rw [e1] at hd
    cases hd
    have mb:=yu x 2 (by decide)
    refine Uz (v8 ?_)
    refine ⟨rfl,x,rfl,fun n1=>⟨rfl,rfl,rfl,c,rfl,fun n2=>⟨rfl,rfl,rfl,(show (2:Int) ≠ 0 by decide),?_⟩⟩⟩
    have:x.fmod 2=0 \/ x.fmod 2=1:=by omega
    show match atI [dv (.tup [t,.int n1,.non]),dv (.tup [.non,.int n2,t])] (x.fmod 2) with | some r=>_ | none=>False
    rcases this with e | e <;> rw [e]
    ·exact ⟨trivial,_,_,.node ht .leaf,rfl⟩
    ·refine ⟨trivial,_,_,?_,rfl⟩
     have:=IsTr.node (m:=n2) .leaf ht
     rw [Nat.zero_add] at this
     exact this
  ·rintro _ ⟨t,x4,ht,rfl⟩
   rw [zLm] at ht
   exact ⟨t,_,x4,ht,hl6,rfl⟩
 rintro _ ⟨t,n,x4,ht,hn,rfl⟩
 exact ⟨ht.pure,h _ (ht.vl hn)⟩
theorem Gj {i:Nat} {t:TDs} {tk:TD} {ρ:DE} {Z:DZ} (rs:List EV) (k:Nat) (r:EV) (h1:∀ ψ:List EV->Prop,ψ rs->t ρ ψ) (hs:wr rs=true) (hl:Nat.ble rs.length 1000=true) (e0:slot (setS ρ i (dO (.lst (rs.map EV.d)))) i=some (dO (.lst (rs.map EV.d)))) (h2:∀ ψ:EV->Prop,ψ (dv (.int (k:Nat)))->tk (setS ρ i (dO (.lst (rs.map EV.d)))) ψ) (e:rs[k]?=some r) (h:Z.rt r.ret):sLP i t tk ρ Z:=h1 _ ⟨hs,hl,e0,h2 _ (by
 show match atI rs (k:Int) with | some r=>Z.rt r.ret | none=>False
 rw [kh (x:=r) (by omega) (by rw [show ((k:Nat):Int).toNat=k from rfl]; exact e)]
 exact h)⟩
noncomputable def BsE (s:Str) (r:EV):Prop:=(match r.k with | .own=>False | _=>True) /\ xf r /\ Bs s r.d
theorem Me {s:Str} {d:D} (h1:xn s d=false) (h2:okB d=true) (h3:szD d <= 100) (h4:fc d) (h5:okD 5 d):Bs s d:=⟨h1,h2,h3,h4,h5⟩
noncomputable def bsN:List EV:=[dv (.bl true),dv (.str "7"),⟨.new,.tup []⟩,dv .non,df (.lst [.int 7]),⟨.new,.tup [.int 7]⟩,dv (.bl false)]
noncomputable def bsL:List EV:=[dv (.bl true),dv (.int 7),df (.lst []),dv .non,df (.lst [.int 7]),⟨.new,.tup [.int 7,.str "7"]⟩,⟨.new,.tup [.non,.int 7,.non]⟩,⟨.new,.tup [.int 7,.bl true]⟩,dv (.str "7")]
noncomputable def bsT:List EV:=[dv (.bl true),dv (.int 0),⟨.new,.tup []⟩,df (.lst []),dv (.str "leaf"),⟨.new,.tup [.non,.int 7]⟩,⟨.new,.tup [.non,.str "7", .non]⟩,⟨.new,.tup [.non,.int 7,.int 0]⟩,⟨.new,.tup [.int 7,.int 7,.int 7]⟩,⟨.new,.tup [.bl false,.int 7,.non]⟩]
theorem ok5 {l:List D} (h:∀ x ∈ l,okD 0 x):okD 5 (.tup l) /\ okD 5 (.lst l):=⟨fun x hx=>xt (h x hx) (by decide),fun x hx=>xt (h x hx) (by decide)⟩
theorem Mg:∀ r ∈ bsN,BsE "num" r:=fun r hr=>by
 simp only [bsN,List.mem_cons,List.not_mem_nil,or_false] at hr
 rcases hr with rfl | rfl | rfl | rfl | rfl | rfl | rfl
 all_goals refine ⟨trivial,by first | trivial | exact ⟨trivial,trivial⟩,Me (by decide) (by decide) (by decide) (by first | trivial | exact items_s (by decide) (by intro x hx; simp at hx; try (rcases hx with rfl | rfl | rfl); all_goals trivial)) (by first | trivial | exact (ok5 (by intro x hx; simp at hx; try (rcases hx with rfl | rfl | rfl); all_goals trivial)).1 | exact (ok5 (by intro x hx; simp at hx; try (rcases hx with rfl | rfl | rfl); all_goals trivial)).2)⟩
theorem Mh:∀ r ∈ bsL,BsE "list" r:=fun r hr=>by
 simp only [bsL,List.mem_cons,List.not_mem_nil,or_false] at hr
 rcases hr with rfl | rfl | rfl | rfl | rfl | rfl | rfl | rfl | rfl
 all_goals refine ⟨trivial,by first | trivial | exact ⟨trivial,trivial⟩,Me (by decide) (by decide) (by decide) (by first | trivial | exact items_s (by decide) (by intro x hx; simp at hx; try (rcases hx with rfl | rfl | rfl); all_goals trivial)) (by first | trivial | exact (ok5 (by intro x hx; simp at hx; try (rcases hx with rfl | rfl | rfl); all_goals trivial)).1 | exact (ok5 (by intro x hx; simp at hx; try (rcases hx with rfl | rfl | rfl); all_goals trivial)).2)⟩
theorem Mf:∀ r ∈ bsT,BsE "tree" r:=fun r hr=>by
 simp only [bsT,List.mem_cons,List.not_mem_nil,or_false] at hr
 rcases hr with rfl | rfl | rfl | rfl | rfl | rfl | rfl | rfl | rfl | rfl
 all_goals refine ⟨trivial,by first | trivial | exact ⟨trivial,trivial⟩,Me (by decide) (by decide) (by decide) (by first | trivial | exact items_s (by decide) (by intro x hx; simp at hx; try (rcases hx with rfl | rfl | rfl); all_goals trivial)) (by first | trivial | exact (ok5 (by intro x hx; simp at hx; try (rcases hx with rfl | rfl | rfl); all_goals trivial)).1 | exact (ok5 (by intro x hx; simp at hx; try (rcases hx with rfl | rfl | rfl); all_goals trivial)).2)⟩
theorem j7 (T:Tops mg) (F:Fun K "_law_strange" "_law_strange" (top 32) f fd) (m:mg "_law_strange" = some (.ref f)):FD P w K mg base 1 "_law_strange" ["_law_shape", "_law_cell"] tStr:=by
 have S:zn ["_law_shape", "_law_cell", "_law_some"] ["_law_shape", "_law_cell"] (zb (top 32)):=⟨rfl,rfl,rfl,by decide +kernel,rfl,by decide +kernel,by decide +kernel⟩
 refine su F S (F.binds fun _ _ _ _ _ _ us hl=>(by obtain ⟨_,_,rfl⟩:=gs hl; rfl)) m fun qZ A outer s H E ds φ hr hl hT=>?_
 have hu:=hr.units
 refine ⟨_,(ze (xg (we hu (za 0) zo) (zl (y3 (t8 (z9 xh (z9 zo (z9 (wq zd) (z9 yy (z9 (yi (z9 zc zd)) (z9 (wq (z9 zc zd)) (z9 xh zd))))))) (ye (za 1) zc)))) y9)
   (ze (xg (we hu (za 0) zo) (zl (y3 (t8 (z9 xh (z9 zc (z9 (yi zd) (z9 yy (z9 (yi (z9 zc zd)) (z9 (wq (z9 zc (z9 zo zd))) (z9 (wq (z9 yy (z9 zc (z9 yy zd)))) (z9 (wq (z9 zc (z9 xh zd))) (z9 zo zd))))))))) (ye (za 1) zc)))) y9)
   (Wb 2 S.nd (z9 xh (z9 zc (z9 (wq zd) (z9 (yi zd) (z9 zo (z9 (wq (z9 yy (z9 zc zd))) (z9 (wq (z9 yy (z9 zo (z9 yy zd)))) (z9 (wq (z9 yy (z9 zc (z9 zc zd)))) (z9 (wq (z9 zc (z9 zc (z9 zc zd)))) (z9 (wq (z9 xh (z9 zc (z9 yy zd)))) zd)))))))))) (ye (za 1) zc)))),?_⟩
 obtain ⟨s,c,rfl,hs,h⟩:=hT
 have go:∀ r,BsE s r->xf r.ret /\ φ r.ret:=fun r hr=>by
  obtain ⟨k,d⟩:=r
  cases k with
  | own=>exact hr.1.elim
  | _=>exact ⟨hr.2.1,h _ hr.1 hr.2.1 hr.2.2⟩
 have pk:∀ (m:Int) (rs:List EV),0 < m->(rs.length:Int)=m->∃ (k:Nat) (r:EV),c.fmod m=(k:Int) /\ rs[k]?=some r /\ r ∈ rs:=fun m rs hm hl=>by
  have mb:=yu c m hm
  obtain ⟨k,ek⟩:=Int.eq_ofNat_of_zero_le mb.1
  have lt:k < rs.length:=by omega
  exact ⟨k,rs[k],ek,List.getElem?_eq_getElem lt,List.getElem_mem lt⟩
 refine wj (xj (eqD (.str s) (.str "num")) (fun ψ hψ=>⟨trivial,trivial,hψ⟩) (fun z=>?_) (fun z=>Zv ?_))
 ·rw [yr,beq_iff_eq] at z
  subst z
  obtain ⟨k,r,ek,er,mr⟩:=pk 7 bsN (by decide) rfl
  refine vj (qg bsN k r (fun ψ hψ=>⟨trivial,rfl,rfl,rfl,⟨trivial,trivial⟩,rfl,hψ⟩) rfl (fun ψ hψ=>⟨(show (7:Int) ≠ 0 by decide),?_⟩) er (go r (Mg r mr)))
  show ψ (dv (.int (c.fmod 7)))
  rw [ek]
  exact hψ
 ·rw [yr,beq_eq_false_iff_ne] at z
  dsimp only
  refine wj (xj (eqD (.str s) (.str "list")) (fun ψ hψ=>⟨trivial,trivial,hψ⟩) (fun z2=>?_) (fun z2=>Zv ?_))
  ·rw [yr,beq_iff_eq] at z2
   subst z2
   obtain ⟨k,r,ek,er,mr⟩:=pk 9 bsL (by decide) rfl
   refine vj (qg bsL k r (fun ψ hψ=>⟨rfl,rfl,rfl,rfl,⟨trivial,trivial,trivial⟩,rfl,⟨trivial,trivial,trivial,trivial⟩,rfl,⟨trivial,trivial,trivial⟩,rfl,hψ⟩) rfl (fun ψ hψ=>⟨(show (9:Int) ≠ 0 by decide),?_⟩) er (go r (Mh r mr)))
   show ψ (dv (.int (c.fmod 9)))
   rw [ek]
   exact hψ
  ·rw [yr,beq_eq_false_iff_ne] at z2
   have e:s = "tree":=by
    rcases hs with e | e | e
    ·exact absurd e z
    ·exact absurd e z2
    ·exact e
   subst e
   dsimp only
   obtain ⟨k,r,ek,er,mr⟩:=pk 10 bsT (by decide) rfl
   refine Gj bsT k r (fun ψ hψ=>⟨trivial,rfl,rfl,rfl,⟨trivial,trivial,trivial⟩,rfl,⟨trivial,trivial,trivial,trivial⟩,rfl,⟨trivial,trivial,trivial,trivial⟩,rfl,⟨trivial,trivial,trivial,trivial⟩,rfl,⟨trivial,trivial,trivial,trivial⟩,rfl,hψ⟩) rfl rfl rfl (fun ψ hψ=>⟨(show (10:Int) ≠ 0 by decide),?_⟩) er (go r (Mf r mr))
   show ψ (dv (.int (c.fmod 10)))
   rw [ek]
   exact hψ
structure ur (ps:List (Str × Str)) (as:List D):Prop where
 len:as.length=ps.length
 l1:1 <= ps.length
 l4:ps.length <= 4
 vl:∀ (i:Nat) (p:Str × Str) (a:D),ps[i]?=some p->as[i]?=some a->ShOk p.2 /\ Vl p.2 a
noncomputable def Asks (ss:List D):Prop:=ss.length <= 5 /\ ∀ a ∈ ss,Ask a /\ okD 41 a
noncomputable def Yz (ps:List (Str × Str)) (as:List D) (w:Nat) (ss:List D):Prop:=Asks ss /\ (w=0->ss=as) /\ (w ≠ 0->vt ps ss=false)
noncomputable def tSpo:FT:=fun ds φ=>∃ (as:List D) (ps:List (Str × Str)) (nm:Str) (sz:D) (w:Nat) (c:Int),ds=[.lst as,fnD nm ps sz,.int (w:Nat),.int c] /\ ur ps as /\ w <= 7 /\ ∀ ss,Yz ps as w ss->φ (df (.lst ss))
theorem ur.mem {ps:List (Str × Str)} {as:List D} (h:ur ps as):∀ a ∈ as,Ask a /\ okD 41 a:=fun a ha=>by
 obtain ⟨i,ei⟩:=List.getElem?_of_mem ha
 have hi:=(List.getElem?_eq_some_iff.mp ei).1
 have hp:i < ps.length:=by have:=h.len; omega
 have V:=(h.vl i ps[i] a (List.getElem?_eq_getElem hp) ei).2
 exact ⟨V.ask,xt V.ok (by decide)⟩
theorem ur.asks {ps:List (Str × Str)} {as:List D} (h:ur ps as):Asks as:=⟨by have:=h.len; have:=h.l4; omega,h.mem⟩
theorem ur.good {ps:List (Str × Str)} {as:List D} (h:ur ps as):vt ps as=true:=by
 unfold vt
 rw [decide_eq_true h.len,Bool.true_and,List.all_eq_true]
 intro q hq
 obtain ⟨i,ei⟩:=List.getElem?_of_mem hq
 rw [List.getElem?_zip_eq_some] at ei
 exact (h.vl i q.1 q.2 ei.1 ei.2).2.fit
theorem Yv {ps:List (Str × Str)} {ss:List D} (h:ss.length ≠ ps.length):vt ps ss=false:=by
 unfold vt
 rw [decide_eq_false h,Bool.false_and]
theorem Mi {ps:List (Str × Str)} {as:List D} {i:Nat} {p:Str × Str} {d:D} (hl:as.length=ps.length) (ep:ps[i]?=some p) (b:xn p.2 d=false):vt ps (as.set i d)=false:=by
 unfold vt
 have hi:=(List.getElem?_eq_some_iff.mp ep).1
 rw [Bool.and_eq_false_iff]
 refine .inr ?_
 rw [List.all_eq_false]
 refine ⟨(p,d),List.mem_of_getElem? (i:=i) ?_,by rw [b]; decide⟩
 rw [List.getElem?_zip_eq_some]
 exact ⟨ep,List.getElem?_set_self (by omega)⟩
theorem Sw {ps:List (Str × Str)} {as:List D} (h:ur ps as) {i:Nat} {d:D} (ha:Ask d /\ okD 41 d):Asks (as.set i d):=⟨by rw [List.length_set]; exact h.asks.1,fun a hm=>by
 rcases List.mem_or_eq_of_mem_set hm with z | z
 ·exact h.mem a z
 ·rw [z]; exact ha⟩
theorem W3 {v x:D} {k:Nat} (V:Vl "list" v) (hx:x=.str "7" \/ x=.non \/ x=.bl true \/ x=.tup [.int 7]):∃ l,v=.tup l /\ l.length <= 100 /\ y7 l /\ Bd "list" (.tup (l.take k ++ [x] ++ l.drop k)):=by
 have fl:Ub v=true:=by
  have:=V.fit
  unfold xn at this
  rwa [if_neg (by decide),if_pos rfl] at this
 cases v with
 | tup l =>
  have all:∀ y ∈ l,∃ i,y=D.int i:=fun y hy=>by
   have:=List.all_eq_true.mp (show l.all xr=true from fl) y hy
   cases y <;> first | exact ⟨_,rfl⟩ | cases this
  have xo:okB x=true /\ szD x <= 1 /\ xr x=false /\ okD 1 x:=by
   rcases hx with rfl | rfl | rfl | rfl
   ·exact ⟨rfl,Nat.le_refl _,rfl,trivial⟩
   ·exact ⟨rfl,Nat.le_refl _,rfl,trivial⟩
   ·exact ⟨rfl,Nat.le_refl _,rfl,trivial⟩
   ·exact ⟨rfl,Nat.le_refl _,rfl,fun y hy=>by rw [List.mem_singleton.mp hy]; trivial⟩
  have mem:∀ y ∈ l.take k ++ [x] ++ l.drop k,(∃ i,y=D.int i) \/ y=x:=fun y hy=>by
   rcases List.mem_append.mp hy with hy | hy
   ·rcases List.mem_append.mp hy with hy | hy
    ·exact .inl (all y (List.mem_of_mem_take hy))
    ·exact .inr (List.mem_singleton.mp hy)
   ·exact .inl (all y (List.mem_of_mem_drop hy))
  have okb:∀ y ∈ l.take k ++ [x] ++ l.drop k,okB y=true:=fun y hy=>by
   rcases mem y hy with ⟨i,rfl⟩ | rfl
   ·rfl
   ·exact xo.1
  refine ⟨l,rfl,(V.ln l rfl).1,V.pu,?_,⟨gk okb,Nat.le_trans (Vc (k:=1) fun y hy=>?_) (by decide),Nl fun l' e=>?_⟩,fun y hy=>?_⟩
  ·unfold xn
   rw [if_neg (by decide),if_pos rfl]
   show (l.take k ++ [x] ++ l.drop k).all xr=false
   rw [List.all_append,List.all_append,List.all_cons,xo.2.2.1]
   simp
  ·rcases mem y hy with ⟨i,rfl⟩ | rfl
   ·exact Nat.le_refl _
   ·exact xo.2.1
  ·cases D.tup.inj e
   refine ⟨?_,okb⟩
   have:=(V.ln l rfl).1
   rw [zLa,zLa,List.length_take,List.length_drop]
   show _ + 1 + _ <= _
   omega
  ·rcases mem y hy with ⟨i,rfl⟩ | rfl
   ·exact yj ▸ trivial
   ·exact xt xo.2.2.2 (by decide)
 | _=>cases fl
theorem gp {i m j:Nat} {k:Int} {te:TD} {ρ:DE} {Z:DZ} {ds:List D} (e:slot ρ i=some (dO (.lst ds))) (em:slot ρ m=some (dv (.int k))) (hk:ixN ds.length k=some j) (h:te ρ fun r=>(match r.k with | .own=>False | _=>True) /\ Z.nx (setS ρ i (dO (.lst (ds.set j r.d))))):Zw i (tj m) te ρ Z:=by
 unfold Zw
 rw [e]
 refine (congrArg (te ρ) (funext fun r=>?_)).mpr h
 unfold tj
 rw [em]
 show (_ /\ match ixN ds.length k with | some j=>Z.nx (setS ρ i (dO (.lst (ds.set j r.d)))) | none=>False)=_
 rw [hk]
 try rfl
theorem Uh {tc:TD} {ρ:DE} {φ:EV->Prop} (h:tc ρ fun r=>sLen [r.d] φ):dCB sLen (u0 tc aNil) ρ φ:=h
theorem Tx {ta tb:TD} {ρ:DE} {φ:EV->Prop} {p q:List D} {k1 k2:Kd} (h1:∀ ψ:EV->Prop,ψ ⟨k1,.tup p⟩->ta ρ ψ) (h2:∀ ψ:EV->Prop,ψ ⟨k2,.tup q⟩->tb ρ ψ) (h:xf ⟨k1,.tup p⟩ /\ xf ⟨k2,.tup q⟩ /\ p.length + q.length <= sizeLine /\ φ ⟨.new,.tup (p ++ q)⟩):Mb ta tb ρ φ:=h1 _ (h2 _ h)
theorem P6 {te:TD} {tl th:TDo} {ρ:DE} {φ:EV->Prop} {ds:List D} (l u:Option Int) (h1:∀ ψ:EV->Prop,ψ (dv (.tup ds))->te ρ ψ) (h2:∀ ψ:Option Int->Prop,ψ l->tl ρ ψ) (h3:∀ ψ:Option Int->Prop,ψ u->th ρ ψ) (h:φ (dv (.tup (cutD ds l u)))):dSlT te tl th ρ φ:=h1 _ (h2 _ (h3 _ h))
theorem O1 {te:TD} {ρ:DE} {φ:EV->Prop} (x:EV) (h1:∀ ψ:EV->Prop,ψ x->te ρ ψ) (h:wr [x]=true /\ Nat.ble 1 1000=true /\ φ (dv (.tup [x.d]))):dTup (u0 te aNil) ρ φ:=h1 _ h
theorem jt {ta tb tc:TD} {ρ:DE} {φ:EV->Prop} (x y z:EV) (h1:∀ ψ:EV->Prop,ψ x->ta ρ ψ) (h2:∀ ψ:EV->Prop,ψ y->tb ρ ψ) (h3:∀ ψ:EV->Prop,ψ z->tc ρ ψ) (h:wr [x,y,z]=true /\ Nat.ble 3 1000=true /\ φ (dv (.tup [x.d,y.d,z.d]))):dTup (u0 ta (u0 tb (u0 tc aNil))) ρ φ:=h1 _ (h2 _ (h3 _ h))
theorem mem3 {a b c x:D} (h:x ∈ [a,b,c]):x=a \/ x=b \/ x=c:=by simpa using h
theorem Qt {v x:D} (V:Vl "tree" v) (B:Bs "tree" x):Bd "tree" (.tup [v,.int 7,x]) /\ Bd "tree" (.tup [x,.int 7,v]) /\ Bd "tree" (.tup [.non,.int 7,.tup [v,.str "7", .non]]):=by
 have tb:w5 x=false:=by
  have:=B.fit
  unfold xn at this
  rwa [if_neg (by decide),if_neg (by decide)] at this
 have ft:∀ d,w5 d=false->xn "tree" d=false:=fun d h=>by
  unfold xn
  rw [if_neg (by decide),if_neg (by decide)]
  exact h
 have s1:=V.sz
 have s2:=B.sz
 have mk:∀ a b:D,okB a=true->okB b=true->szD a <= 4000->szD b <= 4000->okD 40 a->okD 40 b->(w5 a=false \/ w5 b=false)->Bd "tree" (.tup [a,.int 7,b]):=fun a b oa ob sa sb ka kb t=>⟨ft _ (by
   show (xr (.int 7) && w5 a && w5 b)=false
   rcases t with t | t <;> rw [t] <;> simp),⟨gk fun y hy=>by
   rcases mem3 hy with rfl | rfl | rfl
   ·exact oa
   ·rfl
   ·exact ob,by show 1 + szD a + szD b <= 10000; omega,Nl fun l e=>by
   cases D.tup.inj e
   exact ⟨(show 3 <= 1000 by decide),fun y hy=>by
    rcases mem3 hy with rfl | rfl | rfl
    ·exact oa
    ·rfl
    ·exact ob⟩⟩,fun y hy=>by
   rcases mem3 hy with rfl | rfl | rfl
   ·exact ka
   ·exact yj ▸ trivial
   ·exact kb⟩
 refine ⟨mk _ _ V.okb B.okb (by omega) (by omega) (xt V.ok (by decide)) (xt B.ok (by decide)) (.inr tb),mk _ _ B.okb V.okb (by omega) (by omega) (xt B.ok (by decide)) (xt V.ok (by decide)) (.inl tb),mk _ _ rfl (gk fun y hy=>?_) (show 1 <= 4000 by decide) (by show 1 + szD v + 1 <= 4000; omega) trivial (fun y hy=>?_) (.inr rfl)⟩
 ·rcases mem3 hy with rfl | rfl | rfl
  ·exact V.okb
  ·rfl
  ·rfl
 ·rcases mem3 hy with rfl | rfl | rfl
  ·exact xt V.ok (by decide)
  ·trivial
  ·trivial
theorem j3 (T:Tops mg) (Fk:FD P w K mg base 1 "_law_strange" ["_law_shape", "_law_cell"] tStr) (F:Fun K "_law_spoiled" "_law_spoiled" (top 37) f fd) (m:mg "_law_spoiled" = some (.ref f)):FV P w K mg base 2 "_law_spoiled" ["_law_args", "_law_one", "_law_way", "_law_cell"] tSpo:=by
 have S:zn ["_law_args", "_law_one", "_law_way", "_law_cell", "_law_spoiled_here", "_law_at", "_law_shape", "_law_place", "_law_inner"] ["_law_args", "_law_one", "_law_way", "_law_cell"] (zb (top 37)):=⟨rfl,rfl,rfl,by decide +kernel,rfl,by decide +kernel,by decide +kernel⟩
 refine Jt F S (F.binds fun _ _ _ _ _ _ us hl=>(by obtain ⟨_,_,_,_,rfl⟩:=J9 hl; rfl)) m fun qZ A outer s H E ds φ hr hl hT=>?_
 have hu:=hr.units
 refine ⟨_,(ze (zk (zy 4 S.nd (rj T.list (z9 (za 0) zd))))
   (ze (zk (xg (we hu (za 2) zc) (zl (vi 4 (zh hu (za 0) zc))) y9))
   (ze (zk (xg (we hu (za 2) zc) (zl (Ob 4)) y9))
   (ze (zk (xg (we hu (za 2) zc) (zl (R8 4)) y9))
   (ze (zk (xg (Qg (za 2) zc) (ze (zk (zy 5 S.nd (ye (za 3) (vh T.len (z9 (za 0) zd)))))
    (ze (zk (zy 6 S.nd (zh hu (zh hu (zh hu (za 1) zc) (za 5)) zc)))
    (ze (zk (rm 4 hu (za 5) (zx Fk (hr.mono (by decide)) (z9 (za 6) (z9 (t9 (za 3) zc) zd)))))
    (ze (zk (xg (EW.et (Zc (Qg (za 2) zc) (qw (we hu (za 6) zo)))) (ze (zk (zy 7 S.nd (ye (t9 (za 3) zc) (xl (vh T.len (z9 (zh hu (za 0) (za 5)) zd)) zc))))
     (zl (rm 4 hu (za 5) (Ti (Ti (Zd (zh hu (za 0) (za 5)) qy (vc (za 7))) (yp (z9 (t8 (z9 zo (z9 yy (z9 xh (z9 (yp (z9 zc zd)) zd)))) (ye (t9 (za 3) zc) zc)) zd))) (Zd (zh hu (za 0) (za 5)) (vc (za 7)) qy))))) y9))
    (zl (xg (EW.et (Zc (Qg (za 2) zc) (qw (we hu (za 6) zo)))) (ze (zk (zy 8 S.nd (zx Fk (hr.mono (by decide)) (z9 (za 6) (z9 (t9 (za 3) zc) zd)))))
     (zl (X6 8 (rm 4 hu (za 5) (t8 (z9 (yp (z9 (zh hu (za 0) (za 5)) (z9 zc (z9 (za 8) zd)))) (z9 (yp (z9 (za 8) (z9 zc (z9 (zh hu (za 0) (za 5)) zd)))) (z9 (yp (z9 yy (z9 zc (z9 (yp (z9 (zh hu (za 0) (za 5)) (z9 zo (z9 yy zd)))) zd)))) zd))) (ye (t9 (za 3) zc) zc)))))) y9)))))) y9))
   (zl (y3 (za 4)))))))),?_⟩
 obtain ⟨as,ps,nm,sz,w,c,rfl,A,hw,h⟩:=hT
 have f9:∀ (x:Int) (y:Int),y ≠ 0->y.natAbs <= 300->FdOk x y:=fun x y a b=>of_eq_true (Z8 a (by omega))
 have al:=A.len
 have al1:=A.l1
 have al4:=A.l4
 obtain ⟨a0,ar,ea⟩:∃ a0 ar,as=a0 :: ar:=by
  cases as with
  | nil=>exact absurd al (by show 0 ≠ ps.length; omega)
  | cons a ar=>exact ⟨a,ar,rfl⟩
 have ei:∀ {k:Int},eqD (.int (w:Nat)) (.int k)=true ↔ (w:Int)=k:=fun {k}=>by rw [qx]; exact beq_iff_eq
 have en:∀ {k:Int},eqD (.int (w:Nat)) (.int k)=false ↔ (w:Int) ≠ k:=fun {k}=>by rw [qx]; exact beq_eq_false_iff_ne
 refine zg (fun ρ=>ρ=[some (dv (.lst as)),some (dv (fnD nm ps sz)),some (dv (.int (w:Nat))),some (dv (.int c)),some (dO (.lst as)),none,none,none,none]) ?_ ?_
 ·exact ⟨trivial,rfl⟩
 rintro _ rfl
 refine zg (fun ρ=>∃ ss,((w=1 /\ Yz ps as w ss) \/ (w ≠ 1 /\ ss=as)) /\ ρ=[some (dv (.lst as)),some (dv (fnD nm ps sz)),some (dv (.int (w:Nat))),some (dv (.int c)),some (dO (.lst ss)),none,none,none,none]) ?_ ?_
 ·refine xj (eqD (.int (w:Nat)) (.int 1)) (fun ψ hψ=>⟨yj ▸ trivial,yj ▸ trivial,hψ⟩) (fun z=>?_) (fun z=>⟨as,.inr ⟨by have:=en.mp z; omega,rfl⟩,rfl⟩)
  have z:=ei.mp z
  refine h9 (ds:=as) rfl (xk (dv (.lst as)) (dv (.int 0)) (fun ψ hψ=>hψ) (fun ψ hψ=>hψ) (yz (d:=a0) (vz (i:=0) (by rw [ea]; rfl)) ⟨trivial,by omega,as ++ [a0],.inl ⟨by omega,⟨⟨by rw [zLa]; show _ + 1 <= 5; omega,fun a ha=>?_⟩,fun z=>absurd z (by omega),fun _=>Yv (by rw [zLa]; show _ + 1 ≠ _; omega)⟩⟩,rfl⟩))
  rcases List.mem_append.mp ha with q | q
  ·exact A.mem a q
  ·rw [List.mem_singleton.mp q]
   exact A.mem a0 (by rw [ea]; exact List.mem_cons_self)
 rintro _ ⟨ss,hss,rfl⟩
 refine zg (fun ρ=>∃ ss,(((w=1 \/ w=2) /\ Yz ps as w ss) \/ (w ≠ 1 /\ w ≠ 2 /\ ss=as)) /\ ρ=[some (dv (.lst as)),some (dv (fnD nm ps sz)),some (dv (.int (w:Nat))),some (dv (.int c)),some (dO (.lst ss)),none,none,none,none]) ?_ ?_
 ·refine xj (eqD (.int (w:Nat)) (.int 2)) (fun ψ hψ=>⟨yj ▸ trivial,yj ▸ trivial,hψ⟩) (fun z=>?_) (fun z=>⟨ss,?_,rfl⟩)
  ·have z:=ei.mp z
   have e:ss=as:=hss.elim (fun q=>absurd q.1 (by omega)) fun q=>q.2
   have ne:as ≠ []:=by rw [ea]; exact fun z=>nomatch z
   show match popD ss with | some (ds',d)=>_ | none=>False
   rw [e,<- List.dropLast_concat_getLast ne,Xf]
   refine ⟨as.dropLast,.inl ⟨.inr (by omega),⟨⟨by rw [List.length_dropLast]; omega,fun a ha=>A.mem a (List.dropLast_subset _ ha)⟩,fun z=>absurd z (by omega),fun _=>Yv (by rw [List.length_dropLast]; omega)⟩⟩,?_⟩
   rw [List.dropLast_concat_getLast ne]
   rfl
  ·have z:=en.mp z
   rcases hss with q | q
   ·exact .inl ⟨.inl q.1,q.2⟩
   ·exact .inr ⟨q.1,by omega,q.2⟩
 rintro _ ⟨ss,hss,rfl⟩
 refine zg (fun ρ=>∃ ss,(((w=1 \/ w=2 \/ w=3) /\ Yz ps as w ss) \/ (w ≠ 1 /\ w ≠ 2 /\ w ≠ 3 /\ ss=as)) /\ ρ=[some (dv (.lst as)),some (dv (fnD nm ps sz)),some (dv (.int (w:Nat))),some (dv (.int c)),some (dO (.lst ss)),none,none,none,none]) ?_ ?_
 ·refine xj (eqD (.int (w:Nat)) (.int 3)) (fun ψ hψ=>⟨yj ▸ trivial,yj ▸ trivial,hψ⟩) (fun z=>?_) (fun z=>⟨ss,?_,rfl⟩)
  ·have z:=ei.mp z
   exact ⟨[],.inl ⟨.inr (.inr (by omega)),⟨⟨Nat.zero_le _,fun _ q=>(nomatch q)⟩,fun z=>absurd z (by omega),fun _=>Yv (by show 0 ≠ _; omega)⟩⟩,rfl⟩
  ·have z:=en.mp z
   rcases hss with q | q
   ·exact .inl ⟨q.1.elim .inl fun q=>.inr (.inl q),q.2⟩
   ·exact .inr ⟨q.1,q.2.1,by omega,q.2.2⟩
 rintro _ ⟨ss,hss,rfl⟩
 refine zg (fun ρ=>∃ (ss:List D) (x5 x6 x7 x8:Option EV),Yz ps as w ss /\ ρ=[some (dv (.lst as)),some (dv (fnD nm ps sz)),some (dv (.int (w:Nat))),some (dv (.int c)),some (dO (.lst ss)),x5,x6,x7,x8]) ?_ ?_
 ·refine xj (decide ((3:Int) < (w:Nat))) (fun ψ hψ=>hψ) (fun z=>?_) (fun z=>⟨ss,none,none,none,none,?_,rfl⟩)
  rotate_left
  ·have z:=of_decide_eq_false z
   rcases hss with q | q
   ·exact q.2
   ·rw [q.2.2.2]
    exact ⟨A.asks,fun _=>rfl,fun z=>absurd z (by omega)⟩
  have z:=of_decide_eq_true z
  have e:ss=as:=hss.elim (fun q=>absurd q.1 (by omega)) fun q=>q.2.2.2
  subst e
  have mb:=yu c ss.length (by omega)
  obtain ⟨i,ek⟩:=Int.eq_ofNat_of_zero_le mb.1
  have hi:i < ss.length:=by omega
  have hip:i < ps.length:=by omega
  obtain ⟨p,ep⟩:∃ p,ps[i]?=some p:=⟨_,List.getElem?_eq_getElem hip⟩
  obtain ⟨v,ev⟩:∃ v,ss[i]?=some v:=⟨_,List.getElem?_eq_getElem hi⟩
  obtain ⟨sh,V⟩:=A.vl i p v ep ev
  have fin:∀ {d:D},Bd p.2 d->Yz ps ss w (ss.set i d):=fun {d} B=>⟨Sw A ⟨B.ask,B.ok⟩,fun z=>absurd z (by omega),fun _=>Mi A.len ep B.fit⟩
  refine zg (fun ρ=>ρ=[some (dv (.lst ss)),some (dv (fnD nm ps sz)),some (dv (.int (w:Nat))),some (dv (.int c)),some (dO (.lst ss)),some (dv (.int (i:Nat))),none,none,none]) ?_ ?_
  ·refine v8 (xk (dv (.int c)) (dv (.int (ss.length:Nat))) (fun ψ hψ=>hψ) (fun ψ hψ=>hψ) ⟨by show ((ss.length:Nat):Int) ≠ 0; omega,trivial,?_⟩)
   show [_,_,_,_,_,some (dv (.int (c.fmod (ss.length:Nat)))),_,_,_]=_
   rw [ek]
  rintro _ rfl
  refine zg (fun ρ=>ρ=[some (dv (.lst ss)),some (dv (fnD nm ps sz)),some (dv (.int (w:Nat))),some (dv (.int c)),some (dO (.lst ss)),some (dv (.int (i:Nat))),some (dv (.str p.2)),none,none]) ?_ ?_
  ·have e1:atI ((pS ps).map fun p:Str × D=>D.tup [.str p.1,p.2]) ((i:Nat):Int)=some (.tup [.str p.1,.str p.2]):=vz (by unfold pS; rw [List.map_map,List.getElem?_map,ep]; rfl)
   exact v8 (xk (dv (.tup [.str p.1,.str p.2])) (dv (.int 1)) (fun ψ hψ=>xk (dv (pmD (pS ps))) (dv (.int (i:Nat))) (fun ψ hψ=>hψ) (fun ψ hψ=>hψ) (h6 e1 hψ)) (fun ψ hψ=>hψ) ⟨trivial,rfl⟩)
  rintro _ rfl
  have ix:∀ d:D,ixN (ss.set i d).length ((i:Nat):Int)=some i:=fun d=>Ur (by rw [List.length_set]; exact hi)
  have iv:∀ (x4 x7 x8:Option EV) (ψ:EV->Prop),ψ (dv v)->d2 sIxx (tj 0) (tj 5) [some (dv (.lst ss)),some (dv (fnD nm ps sz)),some (dv (.int (w:Nat))),some (dv (.int c)),x4,some (dv (.int (i:Nat))),some (dv (.str p.2)),x7,x8] ψ:=fun x4 x7 x8 ψ hψ=>xk (dv (.lst ss)) (dv (.int (i:Nat))) (fun ψ hψ=>hψ) (fun ψ hψ=>hψ) (yz (vz ev) hψ)
  refine zg (fun ρ=>∃ d,Bd p.2 d /\ ρ=[some (dv (.lst ss)),some (dv (fnD nm ps sz)),some (dv (.int (w:Nat))),some (dv (.int c)),some (dO (.lst (ss.set i d))),some (dv (.int (i:Nat))),some (dv (.str p.2)),none,none]) ?_ ?_
  ·refine gp (ds:=ss) (k:=(i:Nat)) rfl rfl (Ur hi) ?_
   exact ⟨f9 _ _ (by decide) (by decide),rfl,p.2,c.fdiv 4,rfl,sh,fun r no pr B=>⟨no,r.d,B.bd,rfl⟩⟩
  rintro _ ⟨d,B,rfl⟩
  refine zg (fun ρ=>∃ d x7,Bd p.2 d /\ ρ=[some (dv (.lst ss)),some (dv (fnD nm ps sz)),some (dv (.int (w:Nat))),some (dv (.int c)),some (dO (.lst (ss.set i d))),some (dv (.int (i:Nat))),some (dv (.str p.2)),x7,none]) ?_ ?_
  ·refine xj (decide ((5:Int) < (w:Nat)) && eqD (.str p.2) (.str "list")) (fun ψ hψ=>?_) (fun q=>?_) (fun _=>⟨d,none,B,rfl⟩)
   ·refine c5 ⟨fun z=>⟨trivial,trivial,?_⟩,fun z=>?_⟩
    ·rw [show decide ((5:Int) < (w:Nat))=true from z,Bool.true_and] at hψ
     exact hψ
    ·rw [show decide ((5:Int) < (w:Nat))=false from z,Bool.false_and] at hψ
     exact hψ
   ·rw [Bool.and_eq_true,yr,beq_iff_eq] at q
    obtain ⟨q1,q2⟩:=q
    have m4:=yu (c.fdiv 7) 4 (by decide)
    obtain ⟨k4,e4⟩:=Int.eq_ofNat_of_zero_le m4.1
    obtain ⟨x,ex,hx⟩:∃ x:D,([dv (.str "7"),dv .non,dv (.bl true),dv (.tup [.int 7])]:List EV)[k4]?=some (dv x) /\ (x=.str "7" \/ x=.non \/ x=.bl true \/ x=.tup [.int 7]):=by
     have:k4=0 \/ k4=1 \/ k4=2 \/ k4=3:=by omega
     rcases this with rfl | rfl | rfl | rfl
     ·exact ⟨_,rfl,.inl rfl⟩
     ·exact ⟨_,rfl,.inr (.inl rfl)⟩
     ·exact ⟨_,rfl,.inr (.inr (.inl rfl))⟩
     ·exact ⟨_,rfl,.inr (.inr (.inr rfl))⟩
    have V1:Vl "list" v:=q2 ▸ V
    obtain ⟨l0,e0,ll0,pl0,_⟩:=W3 (k:=0) V1 hx
    have mp:=yu (c.fdiv 4) ((l0.length:Int) + 1) (by omega)
    obtain ⟨kk,ekk⟩:=Int.eq_ofNat_of_zero_le mp.1
    obtain ⟨l,e1,ll,pl,Bl⟩:=W3 (k:=kk) V1 hx
    have el:l0=l:=D.tup.inj (e0.symm.trans e1)
    subst el
    have Bl:Bd p.2 (.tup (l0.take kk ++ [x] ++ l0.drop kk)):=q2.symm ▸ Bl
    clear e0 hx
    subst e1
    have px:ym x:=by
     have:=Bl.ask
     have:k4=0 \/ k4=1 \/ k4=2 \/ k4=3:=by omega
     rcases this with rfl | rfl | rfl | rfl <;> cases ex
     ·trivial
     ·trivial
     ·trivial
     ·exact ⟨trivial,trivial⟩
    refine zg (fun ρ=>ρ=[some (dv (.lst ss)),some (dv (fnD nm ps sz)),some (dv (.int (w:Nat))),some (dv (.int c)),some (dO (.lst (ss.set i d))),some (dv (.int (i:Nat))),some (dv (.str p.2)),some (dv (.int (kk:Nat))),none]) ?_ ?_
    ·refine v8 (xk (dv (.int (c.fdiv 4))) (dv (.int ((l0.length:Int) + 1))) (fun ψ hψ=>⟨f9 _ _ (by decide) (by decide),hψ⟩) (fun ψ hψ=>xk (dv (.int (l0.length:Nat))) (dv (.int 1)) (fun ψ hψ=>Uh (iv _ _ _ _ hψ)) (fun ψ hψ=>hψ) hψ) ⟨by show (l0.length:Int) + 1 ≠ 0; omega,trivial,?_⟩)
     show [_,_,_,_,_,_,_,some (dv (.int ((c.fdiv 4).fmod ((l0.length:Int) + 1)))),_]=_
     rw [ekk]
    rintro _ rfl
    refine gp (ds:=ss.set i d) (k:=(i:Nat)) rfl rfl (ix d) ?_
    have sub1:y7 (cutD l0 none (some (kk:Int))):=by rw [k9]; exact zr.mpr fun y hy=>zr.mp pl y (List.mem_of_mem_take hy)
    have sub2:y7 (cutD l0 (some (kk:Int)) none):=by rw [uq]; exact zr.mpr fun y hy=>zr.mp pl y (List.mem_of_mem_drop hy)
    have t1:(cutD l0 none (some (kk:Int))).length <= 100:=by rw [k9,List.length_take]; omega
    have t2:(cutD l0 (some (kk:Int)) none).length <= 100:=by rw [uq,List.length_drop]; omega
    refine Tx (k1:=.new) (k2:=.val) (p:=cutD l0 none (some (kk:Int)) ++ [x]) (q:=cutD l0 (some (kk:Int)) none) (fun ψ hψ=>Tx (k1:=.val) (k2:=.val) (p:=cutD l0 none (some (kk:Int))) (q:=[x]) (fun ψ hψ=>P6 none (some (kk:Int)) (iv _ _ _) (fun ψ hψ=>hψ) (fun ψ hψ=>hψ) hψ) (fun ψ hψ=>O1 (dv x) (fun ψ hψ=>?_) ⟨rfl,rfl,hψ⟩) ⟨sub1,⟨px,trivial⟩,by rw [sizeLine_eq]; show _ + 1 <= _; omega,hψ⟩) (fun ψ hψ=>P6 (some (kk:Int)) none (iv _ _ _) (fun ψ hψ=>hψ) (fun ψ hψ=>hψ) hψ) ⟨trivial,sub2,by rw [sizeLine_eq,zLa]; show _ + 1 + _ <= _; omega,trivial,.tup (l0.take kk ++ [x] ++ l0.drop kk),some (dv (.int (kk:Nat))),Bl,?_⟩
    ·refine qg [dv (.str "7"),dv .non,dv (.bl true),dv (.tup [.int 7])] k4 (dv x) (fun ψ hψ=>⟨rfl,rfl,hψ⟩) rfl (fun ψ hψ=>⟨f9 _ _ (by decide) (by decide),(show (4:Int) ≠ 0 by decide),?_⟩) ex hψ
     show ψ (dv (.int ((c.fdiv 7).fmod 4)))
     rw [e4]
     exact hψ
    ·show [_,_,_,_,some (dO (.lst ((ss.set i d).set i (.tup (cutD l0 none (some (kk:Int)) ++ [x] ++ cutD l0 (some (kk:Int)) none))))),_,_,_,_]=_
     rw [k9,uq,List.set_set]
  rintro _ ⟨d,x7,B,rfl⟩
  refine xj (decide ((5:Int) < (w:Nat)) && eqD (.str p.2) (.str "tree")) (fun ψ hψ=>?_) (fun q=>?_) (fun _=>⟨_,_,_,_,_,fin B,rfl⟩)
  ·refine c5 ⟨fun z=>⟨trivial,trivial,?_⟩,fun z=>?_⟩
   ·rw [show decide ((5:Int) < (w:Nat))=true from z,Bool.true_and] at hψ
    exact hψ
   ·rw [show decide ((5:Int) < (w:Nat))=false from z,Bool.false_and] at hψ
    exact hψ
  rw [Bool.and_eq_true,yr,beq_iff_eq] at q
  obtain ⟨q1,q2⟩:=q
  have m3:=yu (c.fdiv 7) 3 (by decide)
  obtain ⟨k3,e3⟩:=Int.eq_ofNat_of_zero_le m3.1
  refine zg (fun ρ=>∃ r:EV,Bs p.2 r.d /\ ρ=[some (dv (.lst ss)),some (dv (fnD nm ps sz)),some (dv (.int (w:Nat))),some (dv (.int c)),some (dO (.lst (ss.set i d))),some (dv (.int (i:Nat))),some (dv (.str p.2)),x7,some r.sto]) ?_ ?_
  ·exact ⟨f9 _ _ (by decide) (by decide),rfl,p.2,c.fdiv 4,rfl,sh,fun r no pr B=>⟨no,r,B,rfl⟩⟩
  rintro _ ⟨r,Br,rfl⟩
  have V1:Vl "tree" v:=q2 ▸ V
  have Br1:Bs "tree" r.d:=q2 ▸ Br
  obtain ⟨b1,b2,b3⟩:=Qt V1 Br1
  rw [<- q2] at b1 b2 b3
  refine Zx (gp (ds:=ss.set i d) (k:=(i:Nat)) rfl rfl (ix d) ?_)
  obtain ⟨y,ey,By⟩:∃ y:D,([dv (.tup [v,.int 7,r.d]),dv (.tup [r.d,.int 7,v]),dv (.tup [.non,.int 7,.tup [v,.str "7", .non]])]:List EV)[k3]?=some (dv y) /\ Bd p.2 y:=by
   have:k3=0 \/ k3=1 \/ k3=2:=by omega
   rcases this with rfl | rfl | rfl
   ·exact ⟨_,rfl,b1⟩
   ·exact ⟨_,rfl,b2⟩
   ·exact ⟨_,rfl,b3⟩
  refine qg [dv (.tup [v,.int 7,r.d]),dv (.tup [r.d,.int 7,v]),dv (.tup [.non,.int 7,.tup [v,.str "7", .non]])] k3 (dv y) (fun ψ hψ=>?_) rfl (fun ψ hψ=>⟨f9 _ _ (by decide) (by decide),(show (3:Int) ≠ 0 by decide),?_⟩) ey ⟨trivial,ss.set i y,some (dv (.int (i:Nat))),some (dv (.str p.2)),x7,some (dv r.d),fin By,?_⟩
  ·refine zu _ _ (fun ψ hψ=>jt (dv v) (dv (.int 7)) (dv r.d) (iv _ _ _) (fun ψ hψ=>hψ) (fun ψ hψ=>hψ) ⟨rfl,rfl,hψ⟩) (fun ψ hψ=>?_) hψ
   refine zu _ _ (fun ψ hψ=>jt (dv r.d) (dv (.int 7)) (dv v) (fun ψ hψ=>hψ) (fun ψ hψ=>hψ) (iv _ _ _) ⟨rfl,rfl,hψ⟩) (fun ψ hψ=>?_) hψ
   exact zu _ [] (fun ψ hψ=>jt (dv .non) (dv (.int 7)) (dv (.tup [v,.str "7", .non])) (fun ψ hψ=>hψ) (fun ψ hψ=>hψ) (fun ψ hψ=>jt (dv v) (dv (.str "7")) (dv .non) (iv _ _ _) (fun ψ hψ=>hψ) (fun ψ hψ=>hψ) ⟨rfl,rfl,hψ⟩) ⟨rfl,rfl,hψ⟩) (fun ψ hψ=>hψ) hψ
  ·show ψ (dv (.int ((c.fdiv 7).fmod 3)))
   rw [e3]
   exact hψ
  ·show [_,_,_,_,some (dO (.lst ((ss.set i d).set i y))),_,_,_,_]=_
   rw [List.set_set]
   rfl
 rintro _ ⟨ss,x5,x6,x7,x8,hs,rfl⟩
 exact h ss hs
inductive Call (fns:List (Str × D)) (nm:Str) (as:List D):Str->Prop
 | fn:rowG fns nm=none->Call fns nm as "function"
 | vl (ps:List (Str × Str)) (sz:D):rowG fns nm=some (fnD nm ps sz)->ps.length <= 4->vt ps as=false->Call fns nm as "value"
 | ok (ps:List (Str × Str)) (sz v:D) (r:List D):rowG fns nm=some (fnD nm ps sz)->ym sz->as=v :: r->y7 as->as.length <= 10->(ps.map Prod.fst).Nodup->vt ps as=true->Call fns nm as "taken"
theorem Jn {te:TD} {ρ:DE} {ψ:Bool->Prop} {n:String} {b:Bool} (x:EV) (h1:∀ ψ:EV->Prop,ψ x->te ρ ψ) (e:isT x.d n=some b) (h:ψ b):tTru (dCB sIsI (u0 te (u0 (dC (.ty n)) aNil))) ρ ψ:=h1 _ (by
 show match isT x.d n with | some b=>(match truD (.bl b) with | some b=>ψ b | none=>False) | none=>False
 rw [e]
 exact h)
theorem V9 {t:TDs} {ρ:DE} {φ:EV->Prop} (rs:List EV) (h:∀ ψ:List EV->Prop,ψ rs->t ρ ψ) (hs:wr rs=true /\ Nat.ble rs.length 1000=true /\ φ (dv (.tup (rs.map EV.d)))):dTup t ρ φ:=h _ hs
theorem N8 {t:TDs} {ρ:DE} {φ:EV->Prop} (rs:List EV) (h:∀ ψ:List EV->Prop,ψ rs->t ρ ψ) (hs:wr rs=true /\ Nat.ble rs.length 1000=true /\ φ (df (.lst (rs.map EV.d)))):dLst t ρ φ:=h _ hs
noncomputable def resD (nm:Str) (as:List D):D:=.tup [.bl true,as.headD .non,.lst [clD nm as true (as.headD .non)],.lst [.tup [.int 0,.str "call"]]]
noncomputable def tTrX (cF cV:Addr):FTX:=fun ds φ χ=>tTr0 ds φ \/ tTr1 cF cV ds φ χ
noncomputable def tCau:FT:=fun ds φ=>∃ fns nm as wd,ds=[.tup (fns.map Prod.snd),.str nm,.lst as] /\ TrIn fns nm as /\ Call fns nm as wd /\ φ (dv (.str wd))
noncomputable def Mz:FT:=fun ds φ=>∃ fns nm as wd,∃ most:Int,ds=[.tup (fns.map Prod.snd),.str nm,.lst as,.int most] /\ 1 <= most /\ TrIn fns nm as /\ Call fns nm as wd /\ φ (dv (.tup [.str (if wd = "taken" then "" else wd),if wd = "taken" then resD nm as else .non]))
noncomputable def tRun:FT:=fun ds φ=>∃ (nm:Str) (as:List D) (s:Str),ds=[resD nm as,.str nm,.lst as] /\ as ≠ [] /\ as.length <= 10 /\ (∀ a ∈ as,okD 38 a) /\ Vl s (as.headD .non) /\ φ (dv (.bl true))
theorem dg (T:Tops mg) {cE cF cV cNoPaper cNoProgram cNoRatio cNoRow cNoSize cNoTable cNoText cTooMany:Addr} (Z:Cls K mg cE cF cV cNoPaper cNoProgram cNoRatio cNoRow cNoSize cNoTable cNoText cTooMany) (XV_trace:FXV P w K mg base 6 "trace" ["program", "name", "args", "most"] 1000 (tTrX cF cV)) (F:Fun K "_law_caught" "_law_caught" (top 33) f fd) (m:mg "_law_caught" = some (.ref f)):FD P w K mg base 8 "_law_caught" ["_law_program", "_law_name_here", "_law_args"] tCau:=by
 have S:zn ["_law_program", "_law_name_here", "_law_args", "_law_marks", "_law_others", "e"] ["_law_program", "_law_name_here", "_law_args"] (zb (top 33)):=⟨rfl,rfl,rfl,by decide +kernel,rfl,by decide +kernel,by decide +kernel⟩
 refine su F S (F.binds fun _ _ _ _ _ _ us hl=>(by obtain ⟨_,_,_,rfl⟩:=bj hl; rfl)) m fun qZ A outer s H E ds φ hr hl hT=>?_
 have hu:=hr.units
 refine ⟨_,(ze (zk (zy 3 S.nd (yi zd)))
   (ze (zk (zy 4 S.nd (yi zd)))
   (ze (zk (Lg (K0:=K) (by rfl) 5 S.nd Z.b_TollError (fun Γ1 pn xe χ hxp=>(zl (Zt (Tg XV_trace (hr.mono (by decide)) hxp (z9 (za 0) (z9 (za 1) (z9 (za 2) zd))))))) (fun a=>by exact (ze (zy 3 S.nd (yi (z9 (Tf (K0:=K) (by rfl) T.isinstance T.ValueError sv (za 5)) (z9 (xq (K0:=K) (by rfl) T.isinstance Z.b_NoFunction (za 5)) (z9 (xq (K0:=K) (by rfl) T.isinstance Z.b_NoValue (za 5)) zd)))))
    (ze (zy 4 S.nd (yi (z9 (xq (K0:=K) (by rfl) T.isinstance Z.b_NoPaper (za 5)) (z9 (xq (K0:=K) (by rfl) T.isinstance Z.b_NoProgram (za 5)) (z9 (xq (K0:=K) (by rfl) T.isinstance Z.b_NoRatio (za 5)) (z9 (xq (K0:=K) (by rfl) T.isinstance Z.b_NoRow (za 5)) zd))))))
    (ze (zy 4 S.nd (xl (za 4) (yi (z9 (xq (K0:=K) (by rfl) T.isinstance Z.b_NoSize (za 5)) (z9 (xq (K0:=K) (by rfl) T.isinstance Z.b_NoTable (za 5)) (z9 (xq (K0:=K) (by rfl) T.isinstance Z.b_NoText (za 5)) zd))))))
    (zl (zy 4 S.nd (xl (za 4) (yi (z9 (xq (K0:=K) (by rfl) T.isinstance Z.b_TooMany (za 5)) zd)))))))))))
   (ze (zk (xg (we hu (za 3) (yi zd)) (zl (y3 zo)) y9))
   (ze (zk (xg (vg (M6 T.any (z9 (za 4) zd))) (zl (y3 zo)) y9))
   (ze (zk (xg (we hu (za 3) (yi (z9 xh (z9 xh (z9 xh zd))))) (zl (y3 zo)) y9))
   (ze (zk (xg (we hu (za 3) (yi (z9 xh (z9 xh (z9 xh zd))))) (zl (y3 zo)) y9))
   (zl (y3 zo))))))))),?_⟩
 obtain ⟨fns,nm,as,wd,rfl,I,hC,h⟩:=hT
 refine zg (fun ρ=>ρ=[some (dv (.tup (fns.map Prod.snd))),some (dv (.str nm)),some (dv (.lst as)),some (dO (.lst [])),none,none]) ?_ ?_
 ·exact ⟨rfl,rfl,trivial,rfl⟩
 rintro _ rfl
 refine zg (fun ρ=>ρ=[some (dv (.tup (fns.map Prod.snd))),some (dv (.str nm)),some (dv (.lst as)),some (dO (.lst [])),some (dO (.lst [])),none]) ?_ ?_
 ·exact ⟨rfl,rfl,trivial,rfl⟩
 rintro _ rfl
 refine zg (fun ρ=>(wd = "taken" /\ ρ=[some (dv (.tup (fns.map Prod.snd))),some (dv (.str nm)),some (dv (.lst as)),some (dv (.lst [])),some (dv (.lst [])),none]) \/ (wd = "function" /\ ρ=[some (dv (.tup (fns.map Prod.snd))),some (dv (.str nm)),some (dv (.lst as)),some (dO (.lst [.bl true,.bl true,.bl false])),some (dO (.lst [.bl false,.bl false,.bl false,.bl false,.bl false,.bl false,.bl false,.bl false])),none]) \/ (wd = "value" /\ ρ=[some (dv (.tup (fns.map Prod.snd))),some (dv (.str nm)),some (dv (.lst as)),some (dO (.lst [.bl true,.bl false,.bl true])),some (dO (.lst [.bl false,.bl false,.bl false,.bl false,.bl false,.bl false,.bl false,.bl false])),none])) ?_ ?_
 ·cases hC with
  | fn e =>
   refine ⟨rfl,.inr ⟨fns,nm,as,1000,rfl,I,.inl ⟨e,Z.m_F,?_⟩⟩⟩
   refine wj ⟨true,Z.k_F,Z.y_F,true,Xq,Z.y_F,false,Z.k_FV,Z.y_F,rfl,rfl,trivial,?_⟩
   dsimp only
   refine wj ⟨false,Z.n_F _ (by simp),Z.y_F,false,Z.n_F _ (by simp),Z.y_F,false,Z.n_F _ (by simp),Z.y_F,false,Z.n_F _ (by simp),Z.y_F,rfl,rfl,trivial,?_⟩
   dsimp only
   refine wj ⟨false,Z.n_F _ (by simp),Z.y_F,false,Z.n_F _ (by simp),Z.y_F,false,Z.n_F _ (by simp),Z.y_F,rfl,rfl,(show 4 + 3 <= sizeLine by rw [sizeLine_eq]; decide),trivial,?_⟩
   dsimp only
   exact ⟨false,Z.n_F _ (by simp),Z.y_F,rfl,rfl,(show 7 + 1 <= sizeLine by rw [sizeLine_eq]; decide),trivial,.inr (.inl ⟨rfl,rfl⟩)⟩
  | vl ps sz e hl gb =>
   refine ⟨rfl,.inr ⟨fns,nm,as,1000,rfl,I,.inr ⟨_,ps,_,_,e,by omega,gb,Z.m_V,?_⟩⟩⟩
   refine wj ⟨true,Z.k_V,Z.y_V,false,Z.k_VF,Z.y_V,true,Xq,Z.y_V,rfl,rfl,trivial,?_⟩
   dsimp only
   refine wj ⟨false,Z.n_V _ (by simp),Z.y_V,false,Z.n_V _ (by simp),Z.y_V,false,Z.n_V _ (by simp),Z.y_V,false,Z.n_V _ (by simp),Z.y_V,rfl,rfl,trivial,?_⟩
   dsimp only
   refine wj ⟨false,Z.n_V _ (by simp),Z.y_V,false,Z.n_V _ (by simp),Z.y_V,false,Z.n_V _ (by simp),Z.y_V,rfl,rfl,(show 4 + 3 <= sizeLine by rw [sizeLine_eq]; decide),trivial,?_⟩
   dsimp only
   exact ⟨false,Z.n_V _ (by simp),Z.y_V,rfl,rfl,(show 7 + 1 <= sizeLine by rw [sizeLine_eq]; decide),trivial,.inr (.inr ⟨rfl,rfl⟩)⟩
  | ok ps sz v r e psz ea pa hl nd gb=>exact ⟨rfl,.inl ⟨fns,nm,as,1000,ps,sz,v,r,rfl,I,by decide,e,psz,ea,pa,hl,nd,gb,.inl ⟨rfl,rfl⟩⟩⟩
 have okb:∀ {l:List D},(∀ x ∈ l,∃ b,x=D.bl b)->okD 40 (.lst l):=fun {l} hl x hx=>by
  obtain ⟨b,rfl⟩:=hl x hx
  exact Xj ▸ trivial
 have ok0:okD 40 (.lst []):=fun x hx=>nomatch hx
 have okF:okD 40 (.lst [.bl true,.bl true,.bl false]):=okb fun x hx=>by rcases mem3 hx with rfl | rfl | rfl <;> exact ⟨_,rfl⟩
 have okV:okD 40 (.lst [.bl true,.bl false,.bl true]):=okb fun x hx=>by rcases mem3 hx with rfl | rfl | rfl <;> exact ⟨_,rfl⟩
 rintro _ (⟨rfl,rfl⟩ | ⟨rfl,rfl⟩ | ⟨rfl,rfl⟩)
 ·refine zg (fun _=>False) ?_ (fun _ z=>z.elim)
  exact xj true (fun ψ hψ=>⟨rfl,rfl,ok0,ok0,hψ⟩) (fun _=>⟨trivial,h⟩) (fun z=>(by cases z))
 ·refine zg (fun ρ=>ρ=[some (dv (.tup (fns.map Prod.snd))),some (dv (.str nm)),some (dv (.lst as)),some (dO (.lst [.bl true,.bl true,.bl false])),some (dO (.lst [.bl false,.bl false,.bl false,.bl false,.bl false,.bl false,.bl false,.bl false])),none]) ?_ ?_
  ·exact xj false (fun ψ hψ=>⟨rfl,rfl,okF,ok0,hψ⟩) (fun z=>(by cases z)) (fun _=>rfl)
  rintro _ rfl
  refine zg (fun ρ=>ρ=[some (dv (.tup (fns.map Prod.snd))),some (dv (.str nm)),some (dv (.lst as)),some (dO (.lst [.bl true,.bl true,.bl false])),some (dO (.lst [.bl false,.bl false,.bl false,.bl false,.bl false,.bl false,.bl false,.bl false])),none]) ?_ ?_
  ·exact xj false (fun ψ hψ=>hψ) (fun z=>(by cases z)) (fun _=>rfl)
  rintro _ rfl
  refine zg (fun _=>False) ?_ (fun _ z=>z.elim)
  exact xj true (fun ψ hψ=>⟨rfl,rfl,okF,okF,hψ⟩) (fun _=>⟨trivial,h⟩) (fun z=>(by cases z))
 ·refine zg (fun ρ=>ρ=[some (dv (.tup (fns.map Prod.snd))),some (dv (.str nm)),some (dv (.lst as)),some (dO (.lst [.bl true,.bl false,.bl true])),some (dO (.lst [.bl false,.bl false,.bl false,.bl false,.bl false,.bl false,.bl false,.bl false])),none]) ?_ ?_
  ·exact xj false (fun ψ hψ=>⟨rfl,rfl,okV,ok0,hψ⟩) (fun z=>(by cases z)) (fun _=>rfl)
  rintro _ rfl
  refine zg (fun ρ=>ρ=[some (dv (.tup (fns.map Prod.snd))),some (dv (.str nm)),some (dv (.lst as)),some (dO (.lst [.bl true,.bl false,.bl true])),some (dO (.lst [.bl false,.bl false,.bl false,.bl false,.bl false,.bl false,.bl false,.bl false])),none]) ?_ ?_
  ·exact xj false (fun ψ hψ=>hψ) (fun z=>(by cases z)) (fun _=>rfl)
  rintro _ rfl
  refine zg (fun ρ=>ρ=[some (dv (.tup (fns.map Prod.snd))),some (dv (.str nm)),some (dv (.lst as)),some (dO (.lst [.bl true,.bl false,.bl true])),some (dO (.lst [.bl false,.bl false,.bl false,.bl false,.bl false,.bl false,.bl false,.bl false])),none]) ?_ ?_
  ·exact xj false (fun ψ hψ=>⟨rfl,rfl,okV,okF,hψ⟩) (fun z=>(by cases z)) (fun _=>rfl)
  rintro _ rfl
  refine zg (fun _=>False) ?_ (fun _ z=>z.elim)
  exact xj true (fun ψ hψ=>⟨rfl,rfl,okV,okV,hψ⟩) (fun _=>⟨trivial,h⟩) (fun z=>(by cases z))
theorem Z5 (T:Tops mg) {cE cF cV cNoPaper cNoProgram cNoRatio cNoRow cNoSize cNoTable cNoText cTooMany:Addr} (Z:Cls K mg cE cF cV cNoPaper cNoProgram cNoRatio cNoRow cNoSize cNoTable cNoText cTooMany) (E5:FX P w K mg base 6 "trace" ["program", "name", "args", "most"] (tTrX cF cV)) (F:Fun K "_law_named" "_law_named" (top 34) f fd) (m:mg "_law_named" = some (.ref f)):FV P w K mg base 8 "_law_named" ["_law_program", "_law_name_here", "_law_args", "_law_most"] Mz:=by
 have S:zn ["_law_program", "_law_name_here", "_law_args", "_law_most", "_law_found", "_law_refused"] ["_law_program", "_law_name_here", "_law_args", "_law_most"] (zb (top 34)):=⟨rfl,rfl,rfl,by decide +kernel,rfl,by decide +kernel,by decide +kernel⟩
 refine Jt F S (F.binds fun _ _ _ _ _ _ us hl=>(by obtain ⟨_,_,_,_,rfl⟩:=J9 hl; rfl)) m fun qZ A outer s H E ds φ hr hl hT=>?_
 have hu:=hr.units
 refine ⟨_,(ze (zk (zy 4 S.nd yy))
   (ze (zk (zy 5 S.nd zo))
   (ze (zk (O9 (K0:=K) (by rfl) Z.b_NoFunction Z.b_NoValue (fun Γ1 pn xe χ hxp=>(zl (zy 4 S.nd (dw E5 (hr.mono (by decide)) hxp (z9 (za 0) (z9 (za 1) (z9 (za 2) (z9 (za 3) zd)))))))) (fun a=>by exact (zl (zy 5 S.nd zo))) (fun a=>by exact (zl (zy 5 S.nd zo)))))
   (zl (y3 (yp (z9 (za 5) (z9 (za 4) zd)))))))),?_⟩
 obtain ⟨fns,nm,as,wd,most,rfl,hm,I,hC,h⟩:=hT
 refine zg (fun ρ=>ρ=[some (dv (.tup (fns.map Prod.snd))),some (dv (.str nm)),some (dv (.lst as)),some (dv (.int most)),some (dv .non),none]) ?_ ?_
 ·exact ⟨trivial,rfl⟩
 rintro _ rfl
 refine zg (fun ρ=>ρ=[some (dv (.tup (fns.map Prod.snd))),some (dv (.str nm)),some (dv (.lst as)),some (dv (.int most)),some (dv .non),some (dv (.str ""))]) ?_ ?_
 ·exact ⟨trivial,rfl⟩
 rintro _ rfl
 refine zg (fun ρ=>ρ=[some (dv (.tup (fns.map Prod.snd))),some (dv (.str nm)),some (dv (.lst as)),some (dv (.int most)),some (dv (if wd = "taken" then resD nm as else .non)),some (dv (.str (if wd = "taken" then "" else wd)))]) ?_ ?_
 ·cases hC with
  | fn e=>exact ⟨rfl,.inr ⟨fns,nm,as,most,rfl,I,.inl ⟨e,.inl ⟨Z.e_FF,trivial,rfl⟩⟩⟩⟩
  | vl ps sz e hl gb=>exact ⟨rfl,.inr ⟨fns,nm,as,most,rfl,I,.inr ⟨_,ps,_,_,e,by omega,gb,.inr ⟨Z.e_VF,Z.e_VV,trivial,rfl⟩⟩⟩⟩
  | ok ps sz v r e psz ea pa hl nd gb =>
   refine ⟨rfl,.inl ⟨fns,nm,as,most,ps,sz,v,r,rfl,I,hm,e,psz,ea,pa,hl,nd,gb,trivial,?_⟩⟩
   subst ea
   rfl
 rintro _ rfl
 exact ⟨rfl,rfl,h⟩
theorem Wv (T:Tops mg) (F:Fun K "_law_run" "_law_run" (top 35) f fd) (m:mg "_law_run" = some (.ref f)):FD P w K mg base 1 "_law_run" ["_law_found", "_law_name_here", "_law_args"] tRun:=by
 have S:zn ["_law_found", "_law_name_here", "_law_args"] ["_law_found", "_law_name_here", "_law_args"] (zb (top 35)):=⟨rfl,rfl,rfl,by decide +kernel,rfl,by decide +kernel,by decide +kernel⟩
 refine su F S (F.binds fun _ _ _ _ _ _ us hl=>(by obtain ⟨_,_,_,rfl⟩:=bj hl; rfl)) m fun qZ A outer s H E ds φ hr hl hT=>?_
 have hu:=hr.units
 refine ⟨_,(ze (zk (xg (EW.et (Yr (jj (vg (v7 T.isinstance (z9 (za 0) (z9 (Wy T.tuple vd) zd))))) (Yr (dh hu (vh T.len (z9 (za 0) zd)) zc) (Yr (T9 (zh hu (za 0) zc) xh) (Xv (vg (v7 T.isinstance (z9 (zh hu (za 0) zc) (z9 (Wy T.bool jn) zd))))))))) (zl (y3 xh)) y9))
   (zl (y3 (Hj hu (za 0) (yp (z9 xh (z9 (zh hu (za 2) zc) (z9 (yi (z9 (yp (z9 (za 1) (z9 (v6 T.tuple (z9 (za 2) zd)) (z9 yy (z9 xh (z9 (zh hu (za 2) zc) zd)))))) zd)) (z9 (yi (z9 (yp (z9 zc (z9 zo zd))) zd)) zd))))))))),?_⟩
 obtain ⟨nm,as,s,rfl,ne,hl6,ok,V,h⟩:=hT
 obtain ⟨v,r,rfl⟩:∃ v r,as=v :: r:=by
  cases as with
  | nil=>exact absurd rfl ne
  | cons a r=>exact ⟨a,r,rfl⟩
 have V:Vl s v:=V
 have hb:isT v "bool" = some false:=by
  have f:=V.fit
  unfold xn at f
  split at f
  ·cases v <;> first | rfl | cases f
  ·split at f
   ·cases v <;> first | rfl | cases f
   ·cases v <;> first | rfl | cases f
 refine zg (fun ρ=>ρ=[some (dv (resD nm (v :: r))),some (dv (.str nm)),some (dv (.lst (v :: r)))]) ?_ ?_
 ·refine xj false (fun ψ hψ=>Zp (fun ψ hψ=>Yw (by exact hψ)) (fun ψ hψ=>Zp (fun ψ hψ=>⟨yj ▸ trivial,yj ▸ trivial,hψ⟩) (fun ψ hψ=>Zp (fun ψ hψ=>hψ) (fun ψ hψ=>?_) hψ) hψ) hψ) (fun z=>(by cases z)) (fun _=>rfl)
  exact Jn (dv v) (fun ψ hψ=>hψ) hb hψ
 rintro _ rfl
 have okR:okD 50 (resD nm (v :: r)):=by
  have kv:okD 38 v:=ok v List.mem_cons_self
  refine fun x hx=>?_
  simp only [List.mem_cons,List.not_mem_nil,or_false] at hx
  rcases hx with rfl | rfl | rfl | rfl
  ·exact Xj ▸ trivial
  ·exact xt kv (by decide)
  ·refine fun y hy=>?_
   rw [List.mem_singleton.mp hy]
   refine fun y hy=>?_
   simp only [List.mem_cons,List.not_mem_nil,or_false] at hy
   rcases hy with rfl | rfl | rfl | rfl | rfl
   ·exact Y1 ▸ trivial
   ·exact fun y hy=>xt (ok y hy) (by decide)
   ·exact U1 ▸ trivial
   ·exact Xj ▸ trivial
   ·exact xt kv (by decide)
  ·refine fun y hy=>?_
   rw [List.mem_singleton.mp hy]
   refine fun y hy=>?_
   simp only [List.mem_cons,List.not_mem_nil,or_false] at hy
   rcases hy with rfl | rfl
   ·exact yj ▸ trivial
   ·exact Y1 ▸ trivial
 have q:xf (dv (.bl (eqD (resD nm (v :: r)) (resD nm (v :: r))))) /\ φ (dv (.bl (eqD (resD nm (v :: r)) (resD nm (v :: r))))):=by rw [dq 50 _ okR]; exact ⟨trivial,h⟩
 refine vj (xk (dv (resD nm (v :: r))) (dv (resD nm (v :: r))) (fun ψ hψ=>hψ) (fun ψ hψ=>?_) ⟨okR,okR,q⟩)
 have i0:∀ ψ:EV->Prop,ψ (dv v)->d2 sIxx (tj 2) (dC (.int 0)) [some (dv (resD nm (v :: r))),some (dv (.str nm)),some (dv (.lst (v :: r)))] ψ:=fun ψ hψ=>xk (dv (.lst (v :: r))) (dv (.int 0)) (fun ψ hψ=>hψ) (fun ψ hψ=>hψ) (yz (vz (i:=0) rfl) hψ)
 refine V9 [dv (.bl true),dv v,df (.lst [clD nm (v :: r) true v]),df (.lst [.tup [.int 0,.str "call"]])] (fun ψ hψ=>zu _ _ (fun ψ hψ=>hψ) (fun ψ hψ=>zu _ _ i0 (fun ψ hψ=>zu _ _ (fun ψ hψ=>N8 [dv (clD nm (v :: r) true v)] (fun ψ hψ=>zu _ [] (fun ψ hψ=>?_) (fun ψ hψ=>hψ) hψ) ⟨rfl,rfl,hψ⟩) (fun ψ hψ=>⟨rfl,rfl,rfl,rfl,hψ⟩) hψ) hψ) hψ) ⟨rfl,rfl,hψ⟩
 exact V9 [dv (.str nm),dv (.tup (v :: r)),dv .non,dv (.bl true),dv v] (fun ψ hψ=>zu _ _ (fun ψ hψ=>hψ) (fun ψ hψ=>zu _ _ (fun ψ hψ=>hψ) (fun ψ hψ=>zu _ _ (fun ψ hψ=>hψ) (fun ψ hψ=>zu _ _ (fun ψ hψ=>hψ) (fun ψ hψ=>zu _ [] i0 (fun ψ hψ=>hψ) hψ) hψ) hψ) hψ) hψ) ⟨rfl,rfl,hψ⟩
structure Prg (zs:List Str) (m:Nat) (fns:List (Str × D)):Prop where
 len:fns.length=m
 at_:∀ (k:Nat) (p:Str × D),fns[k]?=some p->∃ ps sz,zs[k]?=some p.1 /\ p.2=fnD p.1 ps sz /\ FnIn (zs.drop 3) ps sz
theorem Prg.fst {zs:List Str} {m:Nat} {fns:List (Str × D)} (G:Prg zs m fns) (hm:m <= zs.length):fns.map Prod.fst=zs.take m:=by
 refine List.ext_getElem? fun k=>?_
 rw [List.getElem?_map]
 by_cases hk:k < m
 ·obtain ⟨p,ep⟩:∃ p,fns[k]?=some p:=⟨_,List.getElem?_eq_getElem (by rw [G.len]; exact hk)⟩
  obtain ⟨ps,sz,e,_⟩:=G.at_ k p ep
  rw [ep,List.getElem?_take_of_lt hk,e]
  rfl
 ·rw [List.getElem?_eq_none (by rw [G.len]; omega),List.getElem?_eq_none (by rw [List.length_take]; omega)]
  rfl
theorem Qb {nm:Str} {ps:List (Str × Str)} {sz:D} (h:ym sz):ym (fnD nm ps sz):=⟨trivial,zr.mpr fun x hx=>by
 obtain ⟨y,hy,rfl⟩:=List.mem_map.mp hx
 obtain ⟨q,hq,rfl⟩:=List.mem_map.mp hy
 exact ⟨trivial,trivial,trivial⟩,h,⟨trivial,⟨trivial,trivial,trivial⟩,trivial⟩,trivial⟩
theorem Prg.tr {zs:List Str} {m:Nat} {fns:List (Str × D)} (G:Prg zs m fns) (hm:m <= 4) (h8:zs.length=8) (nd:zs.Nodup) {nm:Str} {as:List D} (hn:NmOk nm) (ha:∀ a ∈ as,Ask a):TrIn fns nm as:=by
 refine ⟨by rw [G.len]; omega,by rw [G.fst (by omega)]; exact nd.sublist (List.take_sublist ..),zr.mpr fun x hx=>?_,fun p hp=>?_,hn,ha⟩
 ·obtain ⟨p,hp,rfl⟩:=List.mem_map.mp hx
  obtain ⟨k,ek⟩:=List.getElem?_of_mem hp
  obtain ⟨ps,sz,_,e,F⟩:=G.at_ k p ek
  rw [e]
  exact Qb F.pu
 ·obtain ⟨k,ek⟩:=List.getElem?_of_mem hp
  obtain ⟨ps,sz,_,e,F⟩:=G.at_ k p ek
  exact ⟨_,e⟩
theorem Jp (z:Str) (l:List Str):inD (.str z) (l.map D.str)=decide (z ∈ l):=by
 unfold inD
 rw [List.any_map]
 by_cases h:z ∈ l
 ·rw [decide_eq_true h,List.any_eq_true]
  exact ⟨z,h,by show eqD (.str z) (.str z)=true; rw [yr]; exact beq_self_eq_true _⟩
 ·rw [decide_eq_false h,List.any_eq_false]
  intro y hy
  show ¬ eqD (.str y) (.str z)=true
  rw [yr,beq_iff_eq]
  intro e
  exact h (e ▸ hy)
theorem Vm {fns:List (Str × D)} {nm:Str} (h:nm ∉ fns.map Prod.fst):rowG fns nm=none:=by
 cases e:rowG fns nm with
 | none=>rfl
 | some d =>
  obtain ⟨p,hp,rfl⟩:=X7 e
  exact absurd (List.mem_map.mpr ⟨p,hp,rfl⟩) h
theorem Oe {fns:List (Str × D)} {k:Nat} {p:Str × D} (nd:(fns.map Prod.fst).Nodup) (e:fns[k]?=some p):rowG fns p.1=some p.2:=by
 refine Vn (i:=k) (fun q hq z=>?_) e
 obtain ⟨j,ej⟩:=List.getElem?_of_mem hq
 have hj:=(List.getElem?_eq_some_iff.mp ej).1
 rw [List.length_take] at hj
 have hk:=(List.getElem?_eq_some_iff.mp e).1
 rw [List.getElem?_take_of_lt (by omega)] at ej
 have a1:(fns.map Prod.fst)[j]?=some p.1:=by rw [List.getElem?_map,ej,<- z]; rfl
 have a2:(fns.map Prod.fst)[k]?=some p.1:=by rw [List.getElem?_map,e]; rfl
 have:=(List.getElem?_inj (i:=j) (j:=k) (by rw [zLm]; omega) nd).mp (a1.trans a2.symm)
 omega
theorem Kv (T:Tops mg) (Fd:FD P w K mg base 1 "_law_cell_at" ["_law_script", "_law_k"] Su) (E6:FD P w K mg base 1 "_law_names" ["_law_cell", "_law_many"] Qz) (Fn:FD P w K mg base 1 "_law_function" ["_law_name_here", "_law_names_here", "_law_cell"] L9) (Ee:FD P w K mg base 1 "_law_name" ["_law_names_here", "_law_many", "_law_cell"] Mx) (E7:FD P w K mg base 2 "_law_value" ["_law_shape", "_law_cell", "_law_cells"] Qy) (Fp:FV P w K mg base 2 "_law_spoiled" ["_law_args", "_law_one", "_law_way", "_law_cell"] tSpo) (Fy:FD P w K mg base 8 "_law_caught" ["_law_program", "_law_name_here", "_law_args"] tCau) (E8:FV P w K mg base 8 "_law_named" ["_law_program", "_law_name_here", "_law_args", "_law_most"] Mz) (Fq:FD P w K mg base 1 "_law_run" ["_law_found", "_law_name_here", "_law_args"] tRun) (E9:FDV P w K mg base 6 "trace" ["program", "name", "args", "most"] 1000 tTr0) (F:Fun K "law" "law" (top 38) f fd):FnOk P w K mg base CX0 12 f fd ["_law_script"] (spD K 1 lawT):=by
 have S:zn ["_law_script", "_law_many", "_law_names_here", "_law_program", "_law_name_here", "_law_one", "_law_cells", "_law_args", "_law_k", "_law_way", "_law_spoiled_here", "_law_there", "_law_due", "_law_handed", "_law_refused", "_law_found"] ["_law_script"] (zb (top 38)):=⟨rfl,rfl,rfl,by decide +kernel,rfl,by decide +kernel,by decide +kernel⟩
 refine T7 F S fun qZ A outer s H E ds φ hr hl hT=>?_
 have hu:=hr.units
 refine ⟨_,(ze (zk (zy 1 S.nd (xl zc (ye (zx Fd (hr.mono (by decide)) (z9 (za 0) (z9 zc zd))) zc))))
   (ze (zk (zy 2 S.nd (zx E6 (hr.mono (by decide)) (z9 (zx Fd (hr.mono (by decide)) (z9 (za 0) (z9 zc zd))) (z9 zc zd)))))
   (ze (zk (zy 3 S.nd (v6 T.tuple (z9 (Xy (T:=["_law_k"]) (F:=["_law_names_here", "_law_script"]) (js:=[2,0]) (vv T.range (z9 (za 1) zd)) (show zw (zb (top 38)) _ ["_law_k"] ["_law_names_here", "_law_script"] from ⟨rfl,by decide +kernel,by decide +kernel,by decide +kernel,by decide +kernel,by decide +kernel⟩) (.cons rfl (.cons rfl .nil)) (by decide) (fun cl C fp s H=>(ya (i:=0) (show ((["_law_k"]:List Str) ++ (["_law_names_here", "_law_script"]:List Str)).Nodup by decide +kernel) rfl (by walk_at "o"))) (xi (by decide)) (xm 0) (fun cl C fp s H=>wo) (fun cl C fp s H=>(zx Fn (hr.mono (by decide)) (z9 (zh hu (za 1) (za 0)) (z9 (rh (za 1) (vc zc) qy) (z9 (zx Fd (hr.mono (by decide)) (z9 (za 2) (z9 (xl zc (za 0)) zd))) zd)))))) zd))))
   (ze (zk (zy 4 S.nd (zx Ee (hr.mono (by decide)) (z9 (za 2) (z9 (za 1) (z9 (ye (zx Fd (hr.mono (by decide)) (z9 (za 0) (z9 zc zd))) (sf zc zc)) zd))))))
   (ze (zk (zy 5 S.nd (zh hu (za 3) (ye (t9 (ye (zx Fd (hr.mono (by decide)) (z9 (za 0) (z9 zc zd))) (sf zc zc)) zc) (za 1)))))
   (ze (zk (u3 (T:=["_law_cell"]) (F:=[]) (js:=[]) 6 S.nd (ub (rh (za 0) (vc zc) (vc zc))) (show zw (zb (top 38)) _ ["_law_cell"] [] from ⟨rfl,by decide +kernel,by decide +kernel,by decide +kernel,by decide +kernel,by decide +kernel⟩) .nil (by decide) (fun cl C fp s H=>(ya (i:=0) (show ((["_law_cell"]:List Str) ++ ([]:List Str)).Nodup by decide +kernel) rfl (by walk_at "o"))) (xi (by decide)) (xm 0) (fun cl C fp s H=>wo) (fun cl C fp s H=>(ye (za 0) (sf zc zc)))))
   (ze (zk (zy 7 S.nd (yi zd)))
   (ze (zk (cq (vv T.range (z9 (vh T.len (z9 (zh hu (za 5) zc) zd)) zd)) (ya (i:=8) S.nd rfl (by walk_at "o")) (xm 8) (zl (vi 7 (zx E7 (hr.mono (by decide)) (z9 (zh hu (zh hu (zh hu (za 5) zc) (za 8)) zc) (z9 (zx Fd (hr.mono (by decide)) (z9 (za 0) (z9 (xl zc (za 8)) zd))) (z9 (rh (za 6) (vc (za 8)) (vc (xl (za 8) zc))) zd))))))))
   (ze (zk (zy 9 S.nd (ye (zx Fd (hr.mono (by decide)) (z9 (za 0) (z9 zc zd))) zc)))
   (ze (zk (Oa 10 S.nd Fp (hr.mono (by decide)) (z9 (za 7) (z9 (za 5) (z9 (za 9) (z9 (t9 (ye (zx Fd (hr.mono (by decide)) (z9 (za 0) (z9 zc zd))) (sf zc zc)) zc) zd))))))
   (ze (zk (u3 (T:=["_law_part"]) (F:=[]) (js:=[]) 11 S.nd (ub (za 3)) (show zw (zb (top 38)) _ ["_law_part"] [] from ⟨rfl,by decide +kernel,by decide +kernel,by decide +kernel,by decide +kernel,by decide +kernel⟩) .nil (by decide) (fun cl C fp s H=>(ya (i:=0) (show ((["_law_part"]:List Str) ++ ([]:List Str)).Nodup by decide +kernel) rfl (by walk_at "o"))) (xi (by decide)) (xm 0) (fun cl C fp s H=>wo) (fun cl C fp s H=>(zh hu (za 0) zc))))
   (ze (zk (zy 12 S.nd zo))
   (ze (zk (xg (Qg (za 9) zc) (zl (zy 12 S.nd zo)) y9))
   (ze (zk (xg (Qf hu (za 4) (za 11)) (zl (zy 12 S.nd zo)) y9))
   (ze (zk (zy 13 S.nd (rj T.list (z9 (za 10) zd))))
   (ze (zk (xg (EW.et (Yr (dh hu (zx Fy (hr.mono (by decide)) (z9 (za 3) (z9 (za 4) (z9 (za 13) zd)))) (za 12)) (Xv (Hc hu (za 13) (za 10))))) (zl (y3 xh)) y9))
   (ze (zk (Lf E8 (hr.mono (by decide)) (z9 (za 3) (z9 (za 4) (z9 (za 13) (z9 (xl zc (ye (t9 (zx Fd (hr.mono (by decide)) (z9 (za 0) (z9 zc zd))) zc) zc)) zd)))) (gd (K0:=K) (n:=2) (by rfl) (by rfl) (wv (ya (i:=14) S.nd rfl (by walk_at "o")) (wv (ya (i:=15) S.nd rfl (by walk_at "o")) gc))) (d8 14 15)))
   (ze (zk (xg (EW.et (Zc (dh hu (za 12) zo) (qw (dh hu (za 14) (za 12))))) (zl (y3 xh)) y9))
   (ze (zk (xg (EW.et (Zc (we hu (za 12) zo) (qw (EW.et (Yr (dh hu (za 14) zo) (Xv (jj (vg (zx Fq (hr.mono (by decide)) (z9 (za 15) (z9 (za 4) (z9 (za 7) zd)))))))))))) (zl (y3 xh)) y9))
   (zl (X6 7 (y3 (zx Fq (hr.mono (by decide)) (z9 (Qn E9 (hr.mono (by decide)) (z9 (za 3) (z9 (zh hu (za 5) zc) (z9 (rj T.list (z9 (za 7) zd)) zd)))) (z9 (zh hu (za 5) zc) (z9 (za 7) zd)))))))))))))))))))))))))),?_⟩
 obtain ⟨ns,rfl,hl,h⟩:=hT
 have f9:∀ (x:Int) (y:Int),y ≠ 0->y.natAbs <= 300->FdOk x y:=fun x y a b=>of_eq_true (Z8 a (by omega))
 have p9:CPow 10 9:=of_eq_true (cp10 (by decide) (by decide))
 have ne9:(10 ^ 9:Int) ≠ 0:=by decide
 refine zg (fun ρ=>∃ m:Nat,1 <= m /\ m <= 4 /\ ρ=[some (dv (.scr ns)),some (dv (.int (m:Nat))),none,none,none,none,none,none,none,none,none,none,none,none,none,none]) ?_ ?_
 ·have mb:=yu (ns.getD 0 0) 4 (by decide)
  obtain ⟨k,ek⟩:=Int.eq_ofNat_of_zero_le mb.1
  refine ⟨rfl,by decide,(show (4:Int) ≠ 0 by decide),trivial,1 + k,by omega,by omega,?_⟩
  show setS _ 1 (dv (.int (1 + (ns.getD 0 0).fmod 4)))=_
  rw [ek]
  rfl
 rintro _ ⟨m,m1,m4,rfl⟩
 refine zg (fun ρ=>∃ (zs:List Str) (n:Nat),zs.length=8 /\ zs.Nodup /\ (∀ z ∈ zs,LowS z /\ z.length=n) /\ 1 <= n /\ ρ=[some (dv (.scr ns)),some (dv (.int (m:Nat))),some (dO (.lst (zs.map D.str))),none,none,none,none,none,none,none,none,none,none,none,none,none]) ?_ ?_
 ·exact ⟨rfl,by decide,rfl,_,8,rfl,by decide,fun zs n h8 nd hz n1=>⟨trivial,zs,n,h8,nd,hz,n1,rfl⟩⟩
 rintro _ ⟨zs,n,h8,nd,hz,n1,rfl⟩
 refine zg (fun ρ=>∃ fns:List (Str × D),Prg zs m fns /\ ρ=[some (dv (.scr ns)),some (dv (.int (m:Nat))),some (dO (.lst (zs.map D.str))),some (dv (.tup (fns.map Prod.snd))),none,none,none,none,none,none,none,none,none,none,none,none]) ?_ ?_
 ·refine v8 (Xz (Ze (rngD 0 m) (fun ψ hψ=>Uu (x:=.int (m:Nat)) (fun ψ hψ=>hψ) ⟨by omega,by omega,hψ⟩) (fun i es=>∃ fns:List (Str × D),Prg zs i fns /\ es=fns.map Prod.snd) (by rw [uv]; omega) ⟨[],⟨rfl,fun _ _ z=>(by cases z)⟩,rfl⟩ ?_ ?_))
  ·rintro i d _ hd _ ⟨fns,G,rfl⟩
   obtain ⟨hi,rfl⟩:=rq hd
   obtain ⟨z,ez⟩:∃ z,zs[i]?=some z:=⟨_,List.getElem?_eq_getElem (by omega)⟩
   refine Uz ⟨fun _=>?_,fun z=>(by cases z)⟩
   refine u7 [dv (.str z),df (.lst ((zs.drop 3).map D.str)),dv (.int (ns.getD (4 + i) 0))] (fun ψ hψ=>zu _ _ (fun ψ hψ=>xk (dO (.lst (zs.map D.str))) (dv (.int ((0:Int) + (i:Nat)))) (fun ψ hψ=>hψ) (fun ψ hψ=>hψ) (yz (by rw [Int.zero_add]; exact vz (by rw [List.getElem?_map,ez]; rfl)) hψ)) (fun ψ hψ=>zu _ _ (fun ψ hψ=>?_) (fun ψ hψ=>zu _ [] (fun ψ hψ=>?_) (fun ψ hψ=>hψ) hψ) hψ) hψ) rfl ⟨z,zs.drop 3,_,rfl,by rw [List.length_drop,h8],fun ps sz F=>⟨trivial,fns ++ [(z,fnD z ps sz)],⟨by rw [zLa,G.len]; rfl,fun k p ek=>?_⟩,by rw [zMa]; rfl⟩⟩
   ·show ψ (df (.lst (cutD (zs.map D.str) (some ((3:Nat):Int)) none)))
    rw [uq,<- List.map_drop]
    exact hψ
   ·refine u7 [dv (.scr ns),dv (.int ((4:Int) + ((0:Int) + (i:Nat))))] (fun ψ hψ=>hψ) rfl ⟨by omega,?_⟩
    rw [show ((4:Int) + ((0:Int) + (i:Nat))).toNat=4 + i by omega]
    exact hψ
   ·by_cases q:k < fns.length
    ·rw [List.getElem?_append_left q] at ek
     exact G.at_ k p ek
    ·have hk:=(List.getElem?_eq_some_iff.mp ek).1
     rw [zLa] at hk
     have hk:k < fns.length + 1:=hk
     have e:k=fns.length:=by omega
     subst e
     rw [List.getElem?_append_right (Nat.le_refl _),Nat.sub_self] at ek
     cases ek
     exact ⟨ps,sz,by rw [G.len]; exact ez,rfl,F⟩
  ·rintro _ ⟨fns,G,rfl⟩
   rw [uv] at G
   exact ⟨trivial,fns,G,rfl⟩
 rintro _ ⟨fns,G,rfl⟩
 have fst:=G.fst (by omega)
 have ndf:(fns.map Prod.fst).Nodup:=by rw [fst]; exact nd.sublist (List.take_sublist ..)
 obtain ⟨c2,ec2⟩:∃ c2:Int,(ns.getD 2 0).fmod (10 ^ 9)=c2:=⟨_,rfl⟩
 refine zg (fun ρ=>∃ nm:Str,NmOk nm /\ ((∃ k:Nat,(c2.fdiv 3).fmod m=(k:Int) /\ zs[k]?=some nm) \/ nm ∉ zs.take m) /\ ρ=[some (dv (.scr ns)),some (dv (.int (m:Nat))),some (dO (.lst (zs.map D.str))),some (dv (.tup (fns.map Prod.snd))),some (dv (.str nm)),none,none,none,none,none,none,none,none,none,none,none]) ?_ ?_
 ·refine ⟨rfl,by decide,p9,ne9,rfl,zs,m,n,c2,?_,h8,m1,m4,nd,hz,n1,fun nm hn hd=>⟨trivial,nm,hn,hd,rfl⟩⟩
  show [_,_,D.int ((ns.getD 2 0).fmod (10 ^ 9))]=_
  rw [ec2]
 rintro _ ⟨nm,hn,hd,rfl⟩
 have mk:=yu (c2.fdiv 3) m (by omega)
 obtain ⟨k1,ek1⟩:=Int.eq_ofNat_of_zero_le mk.1
 obtain ⟨p1,ep1⟩:∃ p1,fns[k1]?=some p1:=⟨_,List.getElem?_eq_getElem (by rw [G.len]; omega)⟩
 obtain ⟨ps,sz,ez1,ed1,F1⟩:=G.at_ k1 p1 ep1
 obtain ⟨z1,d1⟩:=p1
 have ed1:d1=fnD z1 ps sz:=ed1
 subst ed1
 have ez1:zs[k1]?=some z1:=ez1
 have row1:rowG fns z1=some (fnD z1 ps sz):=Oe ndf ep1
 refine zg (fun ρ=>ρ=[some (dv (.scr ns)),some (dv (.int (m:Nat))),some (dO (.lst (zs.map D.str))),some (dv (.tup (fns.map Prod.snd))),some (dv (.str nm)),some (dv (fnD z1 ps sz)),none,none,none,none,none,none,none,none,none,none]) ?_ ?_
 ·refine v8 (xk (dv (.tup (fns.map Prod.snd))) (dv (.int (k1:Nat))) (fun ψ hψ=>hψ) (fun ψ hψ=>?_) (h6 (vz (by rw [List.getElem?_map,ep1]; rfl)) ⟨trivial,rfl⟩))
  refine ⟨rfl,by decide,p9,ne9,f9 _ _ (by decide) (by decide),by omega,?_⟩
  show ψ (dv (.int ((((ns.getD 2 0).fmod (10 ^ 9)).fdiv 3).fmod m)))
  rw [ec2,ek1]
  exact hψ
 rintro _ rfl
 refine zg (fun ρ=>∃ cl:List Int,cl.length <= 40 /\ ρ=[some (dv (.scr ns)),some (dv (.int (m:Nat))),some (dO (.lst (zs.map D.str))),some (dv (.tup (fns.map Prod.snd))),some (dv (.str nm)),some (dv (fnD z1 ps sz)),some (dO (.lst (cl.map D.int))),none,none,none,none,none,none,none,none,none]) ?_ ?_
 ·have e8:cutD (ns.map D.int) (some 8) (some 48)=((ns.drop 8).take 40).map D.int:=by
   have:=W0 (ns.map D.int) 8 48
   rw [show (some ((8:Nat):Int))=some 8 from rfl,show (some ((48:Nat):Int))=some 48 from rfl] at this
   rw [this,List.map_take,List.map_drop]
  refine v8 (wf (((ns.drop 8).take 40).map D.int) (fun ψ hψ=>?_) (fun d=>match d with | .int x=>some (.int (x.fmod (10 ^ 30))) | _=>none) (by rw [zLm,List.length_take]; omega) (fun d hd=>?_) ?_)
  ·refine ⟨trivial,?_⟩
   show ψ (cutD (ns.map D.int) (some 8) (some 48))
   rw [e8]
   exact hψ
  ·obtain ⟨x,_,rfl⟩:=List.mem_map.mp hd
   exact ⟨fun _=>⟨of_eq_true (cp10 (by decide) (by decide)),(show (10 ^ 30:Int) ≠ 0 by decide),trivial,rfl⟩,fun z=>(by cases z)⟩
  ·have e3:(((ns.drop 8).take 40).map D.int).filterMap (fun d=>match d with | .int x=>some (D.int (x.fmod (10 ^ 30))) | _=>none)=(((ns.drop 8).take 40).map fun x=>x.fmod (10 ^ 30)).map D.int:=by
    rw [List.filterMap_map,List.map_map,<- List.filterMap_eq_map]
    rfl
   rw [e3]
   exact ⟨trivial,_,by rw [zLm,List.length_take]; omega,rfl⟩
 rintro _ ⟨cl,hcl,rfl⟩
 refine zg (fun ρ=>ρ=[some (dv (.scr ns)),some (dv (.int (m:Nat))),some (dO (.lst (zs.map D.str))),some (dv (.tup (fns.map Prod.snd))),some (dv (.str nm)),some (dv (fnD z1 ps sz)),some (dO (.lst (cl.map D.int))),some (dO (.lst [])),none,none,none,none,none,none,none,none]) ?_ ?_
 ·exact ⟨rfl,rfl,trivial,rfl⟩
 rintro _ rfl
 have pl1:=F1.l1
 have pl4:=F1.l4
 refine zg (fun ρ=>∃ (as:List D) (x8:Option EV),ur ps as /\ ρ=[some (dv (.scr ns)),some (dv (.int (m:Nat))),some (dO (.lst (zs.map D.str))),some (dv (.tup (fns.map Prod.snd))),some (dv (.str nm)),some (dv (fnD z1 ps sz)),some (dO (.lst (cl.map D.int))),some (dO (.lst as)),x8,none,none,none,none,none,none,none]) ?_ ?_
 ·refine rn (rngD 0 ps.length) (fun ψ hψ=>Uu (x:=.int (ps.length:Nat)) (fun ψ hψ=>Uh ?_) ⟨by omega,by omega,hψ⟩) (fun i ρ=>∃ (as:List D) (x8:Option EV),as.length=i /\ (∀ (j:Nat) (p:Str × Str) (a:D),ps[j]?=some p->as[j]?=some a->ShOk p.2 /\ Vl p.2 a) /\ ρ=[some (dv (.scr ns)),some (dv (.int (m:Nat))),some (dO (.lst (zs.map D.str))),some (dv (.tup (fns.map Prod.snd))),some (dv (.str nm)),some (dv (fnD z1 ps sz)),some (dO (.lst (cl.map D.int))),some (dO (.lst as)),x8,none,none,none,none,none,none,none]) ⟨[],none,rfl,fun _ _ _ _ z=>(by cases z),rfl⟩ ?_ ?_
  ·show ψ (dv (.int ((pS ps).map fun p:Str × D=>D.tup [.str p.1,p.2]).length))
   unfold pS
   rw [zLm,zLm]
   exact hψ
  ·rintro i d _ hd ⟨as,x8,rfl,q,rfl⟩
   obtain ⟨hi,rfl⟩:=rq hd
   obtain ⟨p,ep⟩:∃ p,ps[as.length]?=some p:=⟨_,List.getElem?_eq_getElem hi⟩
   have sh:=F1.sh p (List.mem_of_getElem? ep)
   have e1:atI ((pS ps).map fun p:Str × D=>D.tup [.str p.1,p.2]) ((0:Int) + (as.length:Nat))=some (.tup [.str p.1,.str p.2]):=by rw [Int.zero_add]; exact vz (by unfold pS; rw [List.map_map,List.getElem?_map,ep]; rfl)
   have ec:cutD (cl.map D.int) (some ((0:Int) + (as.length:Nat))) (some ((0:Int) + (as.length:Nat) + 36))=((cl.drop as.length).take 36).map D.int:=by
    have e36:(0:Int) + (as.length:Nat) + 36=((as.length + 36:Nat):Int):=by omega
    have e0:(0:Int) + (as.length:Nat)=((as.length:Nat):Int):=by omega
    rw [e36,e0,W0,show as.length + 36 - as.length=36 by omega,List.map_take,List.map_drop]
   refine Uz (h9 (ds:=as) rfl ?_)
   refine u7 [dv (.str p.2),dv (.int (ns.getD (8 + as.length) 0)),df (.lst (((cl.drop as.length).take 36).map D.int))] (fun ψ hψ=>zu _ _ (fun ψ hψ=>xk (dv (.tup [.str p.1,.str p.2])) (dv (.int 1)) (fun ψ hψ=>xk (dv (pmD (pS ps))) (dv (.int ((0:Int) + (as.length:Nat)))) (fun ψ hψ=>hψ) (fun ψ hψ=>hψ) (h6 e1 hψ)) (fun ψ hψ=>hψ) hψ) (fun ψ hψ=>zu _ _ (fun ψ hψ=>?_) (fun ψ hψ=>zu _ [] (fun ψ hψ=>?_) (fun ψ hψ=>hψ) hψ) hψ) hψ) rfl ⟨p.2,_,(cl.drop as.length).take 36,rfl,sh,by rw [List.length_take]; omega,fun v V=>⟨trivial,by omega,as ++ [v],some (dv (.int ((0:Int) + (as.length:Nat)))),zLa,fun j p' a' ej ea=>?_,rfl⟩⟩
   ·refine u7 [dv (.scr ns),dv (.int ((8:Int) + ((0:Int) + (as.length:Nat))))] (fun ψ hψ=>hψ) rfl ⟨by omega,?_⟩
    rw [show ((8:Int) + ((0:Int) + (as.length:Nat))).toNat=8 + as.length by omega]
    exact hψ
   ·show ψ (df (.lst (cutD (cl.map D.int) (some ((0:Int) + (as.length:Nat))) (some ((0:Int) + (as.length:Nat) + 36)))))
    rw [ec]
    exact hψ
   ·by_cases z:j < as.length
    ·rw [List.getElem?_append_left z] at ea
     exact q j p' a' ej ea
    ·have hj:=(List.getElem?_eq_some_iff.mp ea).1
     rw [zLa] at hj
     have hj:j < as.length + 1:=hj
     have e:j=as.length:=by omega
     subst e
     rw [List.getElem?_append_right (Nat.le_refl _),Nat.sub_self] at ea
     cases ea
     rw [ep] at ej
     cases ej
     exact ⟨sh,V⟩
  ·rintro _ ⟨as,x8,el,q,rfl⟩
   rw [uv] at el
   exact ⟨as,x8,⟨el,pl1,pl4,q⟩,rfl⟩
 rintro _ ⟨as,x8,A,rfl⟩
 refine zg (fun ρ=>∃ w:Nat,w <= 7 /\ ρ=[some (dv (.scr ns)),some (dv (.int (m:Nat))),some (dO (.lst (zs.map D.str))),some (dv (.tup (fns.map Prod.snd))),some (dv (.str nm)),some (dv (fnD z1 ps sz)),some (dO (.lst (cl.map D.int))),some (dO (.lst as)),x8,some (dv (.int (w:Nat))),none,none,none,none,none,none]) ?_ ?_
 ·have mb:=yu (ns.getD 3 0) 8 (by decide)
  obtain ⟨w,ew⟩:=Int.eq_ofNat_of_zero_le mb.1
  refine ⟨rfl,by decide,(show (8:Int) ≠ 0 by decide),trivial,w,by omega,?_⟩
  show setS _ 9 (dv (.int ((ns.getD 3 0).fmod 8)))=_
  rw [ew]
  rfl
 rintro _ ⟨w,w7,rfl⟩
 refine zg (fun ρ=>∃ ss:List D,Yz ps as w ss /\ ρ=[some (dv (.scr ns)),some (dv (.int (m:Nat))),some (dv (.lst (zs.map D.str))),some (dv (.tup (fns.map Prod.snd))),some (dv (.str nm)),some (dv (fnD z1 ps sz)),some (dv (.lst (cl.map D.int))),some (dv (.lst as)),x8.map fun r=>dv r.d,some (dv (.int (w:Nat))),some (dO (.lst ss)),none,none,none,none,none]) ?_ ?_
 ·refine ⟨rfl,by decide,p9,ne9,f9 _ _ (by decide) (by decide),rfl,as,ps,z1,sz,w,_,rfl,A,w7,fun ss hs=>⟨trivial,ss,hs,rfl⟩⟩
 rintro _ ⟨ss,hs,rfl⟩
 have pa:y7 as:=zr.mpr fun a ha=>by
  obtain ⟨i,ei⟩:=List.getElem?_of_mem ha
  have hi:=(List.getElem?_eq_some_iff.mp ei).1
  have hp:i < ps.length:=by have:=A.len; omega
  exact (A.vl i ps[i] a (List.getElem?_eq_getElem hp) ei).2.pu
 have ndp:(ps.map Prod.fst).Nodup:=by
  rw [F1.nm]
  exact (nd.sublist (List.drop_sublist ..)).sublist (List.take_sublist ..)
 generalize (x8.map fun r=>dv r.d)=x8
 refine zg (fun ρ=>ρ=[some (dv (.scr ns)),some (dv (.int (m:Nat))),some (dv (.lst (zs.map D.str))),some (dv (.tup (fns.map Prod.snd))),some (dv (.str nm)),some (dv (fnD z1 ps sz)),some (dv (.lst (cl.map D.int))),some (dv (.lst as)),x8,some (dv (.int (w:Nat))),some (dO (.lst ss)),some (dO (.lst ((fns.map Prod.fst).map D.str))),none,none,none,none]) ?_ ?_
 ·refine v8 (wf (fns.map Prod.snd) (fun ψ hψ=>⟨trivial,hψ⟩) (fun d=>match d with | .tup (.str z :: _)=>some (.str z) | _=>none) (by rw [zLm,G.len]; omega) (fun d hd=>?_) ?_)
  ·obtain ⟨p,hp,rfl⟩:=List.mem_map.mp hd
   obtain ⟨k,ek⟩:=List.getElem?_of_mem hp
   obtain ⟨ps',sz',_,e,_⟩:=G.at_ k p ek
   rw [e]
   exact ⟨fun _=>⟨trivial,rfl⟩,fun z=>(by cases z)⟩
  ·have e3:∀ l:List (Str × D),(∀ p ∈ l,∃ r,p.2=.tup (.str p.1 :: r))->(l.map Prod.snd).filterMap (fun d=>match d with | .tup (.str z :: _)=>some (D.str z) | _=>none)=(l.map Prod.fst).map D.str:=fun l=>by
    induction l with
    | nil=>intro _; rfl
    | cons p l ih =>
     intro hl
     obtain ⟨r,er⟩:=hl p List.mem_cons_self
     rw [List.map_cons,List.filterMap_cons,er,ih fun q hq=>hl q (List.mem_cons_of_mem _ hq)]
     rfl
   rw [e3 fns (G.tr m4 h8 nd hn (fun a ha=>(hs.1.2 a ha).1)).fm]
   exact ⟨trivial,rfl⟩
 rintro _ rfl
 refine zg (fun ρ=>ρ=[some (dv (.scr ns)),some (dv (.int (m:Nat))),some (dv (.lst (zs.map D.str))),some (dv (.tup (fns.map Prod.snd))),some (dv (.str nm)),some (dv (fnD z1 ps sz)),some (dv (.lst (cl.map D.int))),some (dv (.lst as)),x8,some (dv (.int (w:Nat))),some (dO (.lst ss)),some (dO (.lst ((fns.map Prod.fst).map D.str))),some (dv (.str "taken")),none,none,none]) ?_ ?_
 ·exact ⟨trivial,rfl⟩
 rintro _ rfl
 refine zg (fun ρ=>ρ=[some (dv (.scr ns)),some (dv (.int (m:Nat))),some (dv (.lst (zs.map D.str))),some (dv (.tup (fns.map Prod.snd))),some (dv (.str nm)),some (dv (fnD z1 ps sz)),some (dv (.lst (cl.map D.int))),some (dv (.lst as)),x8,some (dv (.int (w:Nat))),some (dO (.lst ss)),some (dO (.lst ((fns.map Prod.fst).map D.str))),some (dv (.str (if 0 < w then "value" else "taken"))),none,none,none]) ?_ ?_
 ·refine xj (decide ((0:Int) < (w:Nat))) (fun ψ hψ=>hψ) (fun z=>⟨trivial,?_⟩) (fun z=>?_)
  ·rw [if_pos (by have:=of_decide_eq_true z; omega)]
   rfl
  ·rw [if_neg (by have:=of_decide_eq_false z; omega)]
   rfl
 rintro _ rfl
 refine zg (fun ρ=>∃ du:Str,Call fns nm ss du /\ (du = "taken"->nm=z1 /\ ss=as) /\ ρ=[some (dv (.scr ns)),some (dv (.int (m:Nat))),some (dv (.lst (zs.map D.str))),some (dv (.tup (fns.map Prod.snd))),some (dv (.str nm)),some (dv (fnD z1 ps sz)),some (dv (.lst (cl.map D.int))),some (dv (.lst as)),x8,some (dv (.int (w:Nat))),some (dO (.lst ss)),some (dO (.lst ((fns.map Prod.fst).map D.str))),some (dv (.str du)),none,none,none]) ?_ ?_
 ·have inE:inD (.str nm) ((fns.map Prod.fst).map D.str)=decide (nm ∈ fns.map Prod.fst):=Jp nm _
  have fl:((fns.map Prod.fst).map D.str).all j6=true:=by rw [List.all_map,List.all_eq_true]; exact fun _ _=>rfl
  refine xj (!inD (.str nm) ((fns.map Prod.fst).map D.str)) (fun ψ hψ=>⟨rfl,fl,hψ⟩) (fun z=>?_) (fun z=>?_)
  ·rw [inE,Bool.not_eq_true',decide_eq_false_iff_not] at z
   exact ⟨trivial, "function", .fn (Vm z),fun e=>absurd e (by decide),rfl⟩
  ·rw [inE,Bool.not_eq_false',decide_eq_true_eq] at z
   have e1:nm=z1:=by
    rcases hd with ⟨k,ek,e⟩ | q
    ·rw [ek1] at ek
     have:k=k1:=by omega
     subst this
     rw [ez1] at e
     exact (Option.some.inj e).symm
    ·exact absurd (by rw [fst] at z; exact z) q
   by_cases hw:0 < w
   ·refine ⟨"value", .vl ps sz (by rw [e1]; exact row1) pl4 (hs.2.2 (by omega)),fun e=>absurd e (by decide),?_⟩
    rw [if_pos hw]
   ·have es:ss=as:=hs.2.1 (by omega)
    obtain ⟨v,r,ea⟩:∃ v r,as=v :: r:=by
     have al:=A.len
     cases as with
     | nil=>exact absurd al (by show 0 ≠ ps.length; omega)
     | cons v r=>exact ⟨v,r,rfl⟩
    refine ⟨"taken", .ok ps sz v r (by rw [e1]; exact row1) F1.pu (by rw [es]; exact ea) (by rw [es]; exact pa) (by rw [es,A.len]; omega) ndp (by rw [es]; exact A.good),fun _=>⟨e1,es⟩,?_⟩
    rw [if_neg hw]
 rintro _ ⟨du,hC,hdu,rfl⟩
 have T2:=G.tr m4 h8 nd hn (fun a ha=>(hs.1.2 a ha).1)
 have okS:okD 50 (.lst ss):=fun x hx=>xt (hs.1.2 x hx).2 (by decide)
 refine zg (fun ρ=>ρ=[some (dv (.scr ns)),some (dv (.int (m:Nat))),some (dv (.lst (zs.map D.str))),some (dv (.tup (fns.map Prod.snd))),some (dv (.str nm)),some (dv (fnD z1 ps sz)),some (dv (.lst (cl.map D.int))),some (dv (.lst as)),x8,some (dv (.int (w:Nat))),some (dO (.lst ss)),some (dO (.lst ((fns.map Prod.fst).map D.str))),some (dv (.str du)),some (dO (.lst ss)),none,none]) ?_ ?_
 ·exact ⟨trivial,rfl⟩
 rintro _ rfl
 refine zg (fun ρ=>ρ=[some (dv (.scr ns)),some (dv (.int (m:Nat))),some (dv (.lst (zs.map D.str))),some (dv (.tup (fns.map Prod.snd))),some (dv (.str nm)),some (dv (fnD z1 ps sz)),some (dv (.lst (cl.map D.int))),some (dv (.lst as)),x8,some (dv (.int (w:Nat))),some (dO (.lst ss)),some (dO (.lst ((fns.map Prod.fst).map D.str))),some (dv (.str du)),some (dO (.lst ss)),none,none]) ?_ ?_
 ·refine xj false (fun ψ hψ=>Zp (fun ψ hψ=>P3 (xk (dv (.str du)) (dv (.str du)) (fun ψ hψ=>u7 [dv (.tup (fns.map Prod.snd)),dv (.str nm),dO (.lst ss)] (fun ψ hψ=>hψ) rfl ⟨fns,nm,ss,du,rfl,T2,hC,hψ⟩) (fun ψ hψ=>hψ) ⟨trivial,trivial,?_⟩)) (fun ψ hψ=>?_) hψ) (fun z=>(by cases z)) (fun _=>rfl)
  ·show ψ (!eqD (.str du) (.str du))
   rw [yr,beq_self_eq_true]
   exact hψ
  ·refine P3 (xk (dO (.lst ss)) (dO (.lst ss)) (fun ψ hψ=>hψ) (fun ψ hψ=>hψ) ⟨okS,okS,?_⟩)
   show ψ (!eqD (.lst ss) (.lst ss))
   rw [dq 50 _ okS]
   exact hψ
 rintro _ rfl
 have mb:=yu ((ns.getD 3 0).fdiv 8) 5000 (by decide)
 refine zg (fun ρ=>ρ=[some (dv (.scr ns)),some (dv (.int (m:Nat))),some (dv (.lst (zs.map D.str))),some (dv (.tup (fns.map Prod.snd))),some (dv (.str nm)),some (dv (fnD z1 ps sz)),some (dv (.lst (cl.map D.int))),some (dv (.lst as)),x8.map fun r=>dv r.d,some (dv (.int (w:Nat))),some (dv (.lst ss)),some (dv (.lst ((fns.map Prod.fst).map D.str))),some (dv (.str du)),some (dv (.lst ss)),some (dv (.str (if du = "taken" then "" else du))),some (dv (if du = "taken" then resD nm ss else .non))]) ?_ ?_
 ·exact ⟨rfl,by decide,f9 _ _ (by decide) (by decide),(show (5000:Int) ≠ 0 by decide),rfl,fns,nm,ss,du,1 + ((ns.getD 3 0).fdiv 8).fmod 5000,rfl,by omega,T2,hC,trivial,rfl⟩
 rintro _ rfl
 generalize (x8.map fun r=>dv r.d)=x8
 have okAs:∀ a ∈ as,okD 38 a:=fun a ha=>by
  obtain ⟨i,ei⟩:=List.getElem?_of_mem ha
  have hi:=(List.getElem?_eq_some_iff.mp ei).1
  have hp:i < ps.length:=by have:=A.len; omega
  exact (A.vl i ps[i] a (List.getElem?_eq_getElem hp) ei).2.ok
 obtain ⟨v,r,ea⟩:∃ v r,as=v :: r:=by
  have al:=A.len
  cases as with
  | nil=>exact absurd al (by show 0 ≠ ps.length; omega)
  | cons v r=>exact ⟨v,r,rfl⟩
 obtain ⟨p0,hp0⟩:∃ p0,ps[0]?=some p0:=⟨_,List.getElem?_eq_getElem (by omega)⟩
 have V0:Vl p0.2 (as.headD .non):=(A.vl 0 p0 _ hp0 (by rw [ea]; rfl)).2
 have ne:as ≠ []:=by rw [ea]; exact fun z=>nomatch z
 have al10:as.length <= 10:=by have:=A.len; omega
 have bx:∀ (a b:Bool) (ψ:Bool->Prop),ψ (a && b)->(a=true->ψ b) /\ (a=false->ψ false):=fun a b ψ hψ=>⟨fun z=>by rw [z,Bool.true_and] at hψ; exact hψ,fun z=>by rw [z,Bool.false_and] at hψ; exact hψ⟩
 refine zg (fun ρ=>ρ=[some (dv (.scr ns)),some (dv (.int (m:Nat))),some (dv (.lst (zs.map D.str))),some (dv (.tup (fns.map Prod.snd))),some (dv (.str nm)),some (dv (fnD z1 ps sz)),some (dv (.lst (cl.map D.int))),some (dv (.lst as)),x8,some (dv (.int (w:Nat))),some (dv (.lst ss)),some (dv (.lst ((fns.map Prod.fst).map D.str))),some (dv (.str du)),some (dv (.lst ss)),some (dv (.str (if du = "taken" then "" else du))),some (dv (if du = "taken" then resD nm ss else .non))]) ?_ ?_
 ·refine xj false (fun ψ hψ=>c5 ⟨trivial,trivial,fun z=>⟨trivial,trivial,?_⟩,fun _=>hψ⟩) (fun z=>(by cases z)) (fun _=>rfl)
  have z:(!eqD (.str du) (.str "taken"))=true:=z
  rw [yr,Bool.not_eq_true',beq_eq_false_iff_ne] at z
  show ψ (!eqD (.str (if du = "taken" then "" else du)) (.str du))
  rw [if_neg z,yr,beq_self_eq_true]
  exact hψ
 rintro _ rfl
 refine zg (fun ρ=>ρ=[some (dv (.scr ns)),some (dv (.int (m:Nat))),some (dv (.lst (zs.map D.str))),some (dv (.tup (fns.map Prod.snd))),some (dv (.str nm)),some (dv (fnD z1 ps sz)),some (dv (.lst (cl.map D.int))),some (dv (.lst as)),x8,some (dv (.int (w:Nat))),some (dv (.lst ss)),some (dv (.lst ((fns.map Prod.fst).map D.str))),some (dv (.str du)),some (dv (.lst ss)),some (dv (.str (if du = "taken" then "" else du))),some (dv (if du = "taken" then resD nm ss else .non))]) ?_ ?_
 ·refine xj false (fun ψ hψ=>c5 ⟨trivial,trivial,fun z=>?_,fun _=>hψ⟩) (fun z=>(by cases z)) (fun _=>rfl)
  have z:eqD (.str du) (.str "taken")=true:=z
  rw [yr,beq_iff_eq] at z
  obtain ⟨e1,e2⟩:=hdu z
  subst z
  subst e2
  exact Zp (fun ψ hψ=>⟨trivial,trivial,hψ⟩) (fun ψ hψ=>Yw ⟨rfl,nm,ss,p0.2,rfl,ne,al10,okAs,V0,hψ⟩) hψ
 rintro _ rfl
 refine Zx (vj (u7 [⟨.new,resD z1 as⟩,dv (.str z1),dv (.lst as)] (fun ψ hψ=>zu _ _ (fun ψ hψ=>⟨rfl,fns,z1,as,1000,ps,sz,v,r,rfl,G.tr m4 h8 nd (hz z1 (List.mem_of_getElem? ez1)).1.nm (fun a ha=>(A.mem a ha).1),by decide,row1,F1.pu,ea,pa,al10,ndp,A.good,?_⟩) (fun ψ hψ=>hψ) hψ) rfl ⟨z1,as,p0.2,rfl,ne,al10,okAs,V0,trivial,h⟩))
 subst ea
 exact hψ
end
section
open PySem.W PySem.PyData
theorem hl1:LeftO PySem.Challenge.pw_toll_k17_runs_refused zq ["trace"] zX (Hook.obs (kHook zK zA zAK)) (Hook.val (kHook zK zA zAK)) 7710:=by
 intro w; rw [Fast.te4187177175401517315,Fast.te5923862056798008813,Fast.te14364793385576792824]; exact hl0 w
theorem said:PySem.Challenge.rw_toll_k17_runs_refused.wellSaid=true:=by kernel_rfl
noncomputable def zD:DefRec:=match top 38 with | .FunctionDef n a b _ _ _ c _ _ p=>⟨n,a,b,c,p⟩ | _=>⟨"", ⟨[],[],none,[],[],none,[]⟩,[],⟨.function,[],false,false,[]⟩,⟨0,0,0,0⟩⟩
theorem opened (hc:WalkO zq ["trace"] (XL zq []) (Hook.says (kHook zK zA zAK)) PySem.Challenge.rw_toll_k17_runs_refused.row.toRowW zD [] (fun f vs=>PySem.call f vs)):PySem.Challenge.rw_toll_k17_runs_refused.Holds:=by
 refine holds_law said fun sd=>holds_open (q:=zq) (loose:=["trace"]) (Xt:=zX) (XP:=XL zq []) (d:=zD) (kwd:=[]) (Yf:=Hook.obs (kHook zK zA zAK)) (Ya:=Hook.val (kHook zK zA zAK)) (YP:=Hook.says (kHook zK zA zAK)) (N:=7710) hl1 (Hook.of (kHook zK zA zAK)) (Hook.keeps (kHook zK zA zAK)) (fun s e=>xl_of s (Bool.and_eq_true_iff.mp e).1) XL.keeps (by kernel_rfl) (by kernel_rfl) (by kernel_rfl) (fun s e=>recFacts_of (Bool.and_eq_true_iff.mp e).2) (by kernel_rfl) sd (by kernel_rfl) ⟨rfl,rfl,rfl,rfl,rfl,by decide +kernel⟩ ?hw hc
 case hw=>w_witness2
end
section
variable {P:Program} {w:World} {K:W.Frag} {mg:Str->Option Value} {base:Heap} {f C:Addr} {fd:FuncData}
noncomputable abbrev NsA (K:W.Frag) (x:Str) (f:Addr):Prop:=W.nsIn K mainGlobals x=some (some (.ref f))
noncomputable abbrev NnA (K:W.Frag) (x:Str):Prop:=W.nsIn K mainGlobals x=some none
noncomputable abbrev FdA (K:W.Frag) (C:Addr) (x:Str) (f:Addr):Prop:=W.findIn K (.ref C) x=some (some (.ref f))
noncomputable def FnA (K:W.Frag) (x q:Str) (st:Stmt) (f:Addr):Prop:=(∃ fd,Fun K x q st f fd) /\ W.keepIn K (.ref f)=true
theorem fna_mk {K:W.Frag} {x q:Str} {st:Stmt} {f:Addr} {od an:Option Addr} {sl:Array (Option Value)} {oc kV dc pm cd ct:Value} (l:K.lookup f=some ⟨oc,od,.func (W.fnOf x q (wa st) (y0 st) (zb st) .none kV dc pm an cd ct),sl⟩) (c:W.codeIn K cd q=true) (k:W.keepIn K (.ref f)=true):FnA K x q st f:=⟨⟨_,Pk l c k⟩,k⟩
theorem all_mk {l:W.OpenLaw} {w:World} {K:W.Frag} {h:Heap} {mg:Str->Option Value} {fa:Addr} (X:K.In h) (G:h.Ns mainGlobals mg) (hfa:mg "law" = some (.ref fa)) {f1 f2 f3 f4 f5 f6 f7 f8 f9 f10 f11 f12 f13 f14 f15 f16 f17 g0 g1 g2 g3 g5 g9 g13 g16 g17:Addr} {od17 an17:Option Addr} {sl17:Array (Option Value)} {oc17 kV17 dc17 pm17 cd17 ct17:Value} {ft Tt:Addr} {nT:Nat} {tk:Tok} {odt ant:Option Addr} {slt slT:Array (Option Value)} {oct kVt dct pmt cdt ctt:Value} {C:Addr} {tq:Tok} {cE cF cV cNoPaper cNoProgram cNoRatio cNoRow cNoSize cNoTable cNoText cTooMany:Addr} (a1:NsA K "is_whole" f1) (l1:FnA K "is_whole" "is_whole" (top 13) f1) (a2:NsA K "is_tree" f2) (l2:FnA K "is_tree" "is_tree" (top 17) f2) (a3:NsA K "fits" f3) (l3:FnA K "fits" "fits" (top 16) f3) (a4:NsA K "function_of" f4) (l4:FnA K "function_of" "function_of" (top 14) f4) (a5:NsA K "check_args" f5) (l5:FnA K "check_args" "check_args" (top 24) f5) (a6:NsA K "_law_cell_at" f6) (l6:FnA K "_law_cell_at" "_law_cell_at" (top 27) f6) (a7:NsA K "_law_number" f7) (l7:FnA K "_law_number" "_law_number" (top 28) f7) (a8:NsA K "_law_names" f8) (l8:FnA K "_law_names" "_law_names" (top 29) f8) (a9:NsA K "_law_function" f9) (l9:FnA K "_law_function" "_law_function" (top 30) f9) (a10:NsA K "_law_value" f10) (l10:FnA K "_law_value" "_law_value" (top 31) f10) (a11:NsA K "_law_strange" f11) (l11:FnA K "_law_strange" "_law_strange" (top 32) f11) (a12:NsA K "_law_caught" f12) (l12:FnA K "_law_caught" "_law_caught" (top 33) f12) (a13:NsA K "_law_named" f13) (l13:FnA K "_law_named" "_law_named" (top 34) f13) (a14:NsA K "_law_run" f14) (l14:FnA K "_law_run" "_law_run" (top 35) f14) (a15:NsA K "_law_name" f15) (l15:FnA K "_law_name" "_law_name" (top 36) f15) (a16:NsA K "_law_spoiled" f16) (l16:FnA K "_law_spoiled" "_law_spoiled" (top 37) f16)
  (a17:W.nsIn K mainGlobals "law" = some (some (.ref f17))) (l17:K.lookup f17=some ⟨oc17,od17,.func (W.fnOf "law" "law" (wa (top 38)) (y0 (top 38)) (zb (top 38)) .none kV17 dc17 pm17 an17 cd17 ct17),sl17⟩) (c17:W.codeIn K cd17 "law" = true) (k17:W.keepIn K (.ref f17)=true)
  (at_:W.nsIn K mainGlobals "trace" = some (some (.ref ft))) (lt:K.lookup ft=some ⟨oct,odt,.func (W.fnOf "trace" "trace" (wa (top 23)) (y0 (top 23)) (zb (top 23)) (.ref Tt) kVt dct pmt ant cdt ctt),slt⟩) (ct_:W.codeIn K cdt "trace" = true) (kt:W.keepIn K (.ref ft)=true) (lT:K.lookup Tt=some ⟨.type "tuple", none,.seq #[.int 1000 tk] nT,slT⟩)
  (aC:W.nsIn K mainGlobals "Run" = some (some (.ref C))) (b0:FdA K C "__init__" g0) (i0:W.isFn K (.ref g0)=true) (m0:FnA K "__init__" "Run.__init__" (mth 0) g0) (b1:FdA K C "told" g1) (i1:W.isFn K (.ref g1)=true) (m1:FnA K "told" "Run.told" (mth 1) g1) (b2:FdA K C "go" g2) (i2:W.isFn K (.ref g2)=true) (m2:FnA K "go" "Run.go" (mth 2) g2) (b3:FdA K C "step" g3) (i3:W.isFn K (.ref g3)=true) (m3:FnA K "step" "Run.step" (mth 3) g3) (b5:FdA K C "standing" g5) (i5:W.isFn K (.ref g5)=true) (m5:FnA K "standing" "Run.standing" (mth 5) g5) (b9:FdA K C "begin_body" g9) (i9:W.isFn K (.ref g9)=true) (m9:FnA K "begin_body" "Run.begin_body" (mth 9) g9) (b13:FdA K C "begin_value" g13) (i13:W.isFn K (.ref g13)=true) (m13:FnA K "begin_value" "Run.begin_value" (mth 13) g13) (b16:FdA K C "enter" g16) (i16:W.isFn K (.ref g16)=true) (m16:FnA K "enter" "Run.enter" (mth 16) g16) (b17:FdA K C "leave" g17) (i17:W.isFn K (.ref g17)=true) (m17:FnA K "leave" "Run.leave" (mth 17) g17)
  (pg:W.plainGet K C Str.empty=true) (hd:W.hasDictIn K C=true) (po:W.plainOver K C=true) (sa:W.findIn K (.ref C) "__setattr__" = some (some (.builtin "object.__setattr__"))) (mk:W.makesIn K C=true) (kc:W.keepIn K (.ref C)=true) (nf0:W.findIn K (.ref C) "functions" = some none) (nf1:W.findIn K (.ref C) "most" = some none) (nf2:W.findIn K (.ref C) "calls" = some none) (nf3:W.findIn K (.ref C) "steps" = some none) (nf4:W.findIn K (.ref C) "frames" = some none) (nf5:W.findIn K (.ref C) "tasks" = some none) (nf6:W.findIn K (.ref C) "ready" = some none) (nf7:W.findIn K (.ref C) "is_cut" = some none) (bQ:W.nsIn K mainGlobals "MOST_CALLS" = some (some (.int 20 tq))) (b_TollError:NsA K "TollError" cE) (b_NoFunction:NsA K "NoFunction" cF) (b_NoValue:NsA K "NoValue" cV) (b_NoPaper:NsA K "NoPaper" cNoPaper) (b_NoProgram:NsA K "NoProgram" cNoProgram) (b_NoRatio:NsA K "NoRatio" cNoRatio) (b_NoRow:NsA K "NoRow" cNoRow) (b_NoSize:NsA K "NoSize" cNoSize) (b_NoTable:NsA K "NoTable" cNoTable) (b_NoText:NsA K "NoText" cNoText) (b_TooMany:NsA K "TooMany" cTooMany) (sE:W.subIn K (.ref cE) (.type "BaseException")=some true) (tE:W.typeIn K (.ref cE)=some (.type "type")) (dE:W.hasDictIn K cE=true) (y4:W.specialIn K (.builtin "object.__class__") "__get__" = some (some (.builtin "getset_descriptor.__get__"))) (y5:W.takesIn K (.builtin "object.__class__")=some true) (xF:excV K cF) (uEF:W.subIn K (.ref cF) (.ref cE)=some true) (uWF:W.subIn K (.ref cF) (.type "ValueError")=some true) (y1F:W.findIn K (.ref cF) "__getattribute__" = some (some (.builtin "BaseException.__getattribute__"))) (y2F:W.findIn K (.ref cF) "__getattr__" = some none) (y3F:W.findIn K (.ref cF) "__class__" = some (some (.builtin "object.__class__"))) (y6F:W.mroIn K cF (.type "object")=some true) (y7F:W.subIn K (.ref cF) (.type "BaseException")=some true) (y8F:W.hasDictIn K cF=true) (tF_:W.typeIn K (.ref cF)=some (.type "type")) (uSF:W.subIn K (.ref cF) (.ref cF)=some true) (xV:excV K cV) (uEV:W.subIn K (.ref cV) (.ref cE)=some true) (uWV:W.subIn K (.ref cV) (.type "ValueError")=some true) (y1V:W.findIn K (.ref cV) "__getattribute__" = some (some (.builtin "BaseException.__getattribute__"))) (y2V:W.findIn K (.ref cV) "__getattr__" = some none) (y3V:W.findIn K (.ref cV) "__class__" = some (some (.builtin "object.__class__"))) (y6V:W.mroIn K cV (.type "object")=some true) (y7V:W.subIn K (.ref cV) (.type "BaseException")=some true) (y8V:W.hasDictIn K cV=true) (tV_:W.typeIn K (.ref cV)=some (.type "type")) (uSV:W.subIn K (.ref cV) (.ref cV)=some true) (nFV:cF ≠ cV) (uFV:W.subIn K (.ref cF) (.ref cV)=some false) (uVF:W.subIn K (.ref cV) (.ref cF)=some false) (t_NoPaper:W.typeIn K (.ref cNoPaper)=some (.type "type")) (d_NoPaper:W.hasDictIn K cNoPaper=true) (nF_NoPaper:cF ≠ cNoPaper) (uF_NoPaper:W.subIn K (.ref cF) (.ref cNoPaper)=some false) (nV_NoPaper:cV ≠ cNoPaper) (uV_NoPaper:W.subIn K (.ref cV) (.ref cNoPaper)=some false) (t_NoProgram:W.typeIn K (.ref cNoProgram)=some (.type "type")) (d_NoProgram:W.hasDictIn K cNoProgram=true) (nF_NoProgram:cF ≠ cNoProgram) (uF_NoProgram:W.subIn K (.ref cF) (.ref cNoProgram)=some false) (nV_NoProgram:cV ≠ cNoProgram) (uV_NoProgram:W.subIn K (.ref cV) (.ref cNoProgram)=some false) (t_NoRatio:W.typeIn K (.ref cNoRatio)=some (.type "type")) (d_NoRatio:W.hasDictIn K cNoRatio=true) (nF_NoRatio:cF ≠ cNoRatio) (uF_NoRatio:W.subIn K (.ref cF) (.ref cNoRatio)=some false) (nV_NoRatio:cV ≠ cNoRatio) (uV_NoRatio:W.subIn K (.ref cV) (.ref cNoRatio)=some false) (t_NoRow:W.typeIn K (.ref cNoRow)=some (.type "type")) (d_NoRow:W.hasDictIn K cNoRow=true) (nF_NoRow:cF ≠ cNoRow) (uF_NoRow:W.subIn K (.ref cF) (.ref cNoRow)=some false) (nV_NoRow:cV ≠ cNoRow) (uV_NoRow:W.subIn K (.ref cV) (.ref cNoRow)=some false) (t_NoSize:W.typeIn K (.ref cNoSize)=some (.type "type")) (d_NoSize:W.hasDictIn K cNoSize=true) (nF_NoSize:cF ≠ cNoSize) (uF_NoSize:W.subIn K (.ref cF) (.ref cNoSize)=some false) (nV_NoSize:cV ≠ cNoSize) (uV_NoSize:W.subIn K (.ref cV) (.ref cNoSize)=some false) (t_NoTable:W.typeIn K (.ref cNoTable)=some (.type "type")) (d_NoTable:W.hasDictIn K cNoTable=true) (nF_NoTable:cF ≠ cNoTable) (uF_NoTable:W.subIn K (.ref cF) (.ref cNoTable)=some false) (nV_NoTable:cV ≠ cNoTable) (uV_NoTable:W.subIn K (.ref cV) (.ref cNoTable)=some false) (t_NoText:W.typeIn K (.ref cNoText)=some (.type "type")) (d_NoText:W.hasDictIn K cNoText=true) (nF_NoText:cF ≠ cNoText) (uF_NoText:W.subIn K (.ref cF) (.ref cNoText)=some false) (nV_NoText:cV ≠ cNoText) (uV_NoText:W.subIn K (.ref cV) (.ref cNoText)=some false) (t_TooMany:W.typeIn K (.ref cTooMany)=some (.type "type")) (d_TooMany:W.hasDictIn K cTooMany=true) (nF_TooMany:cF ≠ cTooMany) (uF_TooMany:W.subIn K (.ref cF) (.ref cTooMany)=some false) (nV_TooMany:cV ≠ cTooMany) (uV_TooMany:W.subIn K (.ref cV) (.ref cTooMany)=some false) (z_ValueError:NnA K "ValueError") (z_all:NnA K "all") (z_any:NnA K "any") (z_bool:NnA K "bool") (z_dict:NnA K "dict") (z_int:NnA K "int") (z_isinstance:NnA K "isinstance") (z_len:NnA K "len") (z_list:NnA K "list") (z_range:NnA K "range") (z_reversed:NnA K "reversed") (z_tuple:NnA K "tuple") (z_zip:NnA K "zip") :
  ∃ fd:FuncData,(∀ (s:Shared) (v:Value),BindsTo s fd ⟨[v],[]⟩ [("_law_script", v)]) /\ ∀ base:Heap,K.In base->base.Ns mainGlobals mg->FnOk l.prog w K mg base CX0 12 fa fd ["_law_script"] (spD K 1 lawT):=by
 have e:=hfa.symm.trans (W.mg_of X G a17)
 cases e
 have T:Tops mg:=⟨W.mg_none_of X G z_ValueError,W.mg_none_of X G z_all,W.mg_none_of X G z_any,W.mg_none_of X G z_bool,W.mg_none_of X G z_dict,W.mg_none_of X G z_int,W.mg_none_of X G z_isinstance,W.mg_none_of X G z_len,W.mg_none_of X G z_list,W.mg_none_of X G z_range,W.mg_none_of X G z_reversed,W.mg_none_of X G z_tuple,W.mg_none_of X G z_zip⟩
 obtain ⟨⟨_,F1⟩,_⟩:=l1
 obtain ⟨⟨_,F2⟩,_⟩:=l2
 obtain ⟨⟨_,F3⟩,_⟩:=l3
 obtain ⟨⟨_,F4⟩,_⟩:=l4
 obtain ⟨⟨_,F5⟩,_⟩:=l5
 obtain ⟨⟨_,F6⟩,_⟩:=l6
 obtain ⟨⟨_,F7⟩,_⟩:=l7
 obtain ⟨⟨_,F8⟩,_⟩:=l8
 obtain ⟨⟨_,F9⟩,_⟩:=l9
 obtain ⟨⟨_,F10⟩,_⟩:=l10
 obtain ⟨⟨_,F11⟩,_⟩:=l11
 obtain ⟨⟨_,F12⟩,_⟩:=l12
 obtain ⟨⟨_,F13⟩,_⟩:=l13
 obtain ⟨⟨_,F14⟩,_⟩:=l14
 obtain ⟨⟨_,F15⟩,_⟩:=l15
 obtain ⟨⟨_,F16⟩,_⟩:=l16
 have F17:=Pk (st:=top 38) l17 c17 k17
 refine ⟨W.fnOf "law" "law" (wa (top 38)) (y0 (top 38)) (zb (top 38)) .none kV17 dc17 pm17 an17 cd17 ct17,fun s v=>.of_eq rfl,fun base _ _=>?_⟩
 have cU:GC K mg "MOST_CALLS" (.int 20):=⟨_,.int 20,W.mg_of X G bQ,⟨_,rfl⟩,fun _ _=>rfl⟩
 have nF:∀ c ∈ [cNoPaper,cNoProgram,cNoRatio,cNoRow,cNoSize,cNoTable,cNoText,cTooMany],W.kitOne K (.ref cF) (.ref c)=some false:=fun c hc=>by
  simp only [List.mem_cons,List.not_mem_nil,or_false] at hc
  rcases hc with rfl | rfl | rfl | rfl | rfl | rfl | rfl | rfl
  ·exact yo nF_NoPaper t_NoPaper d_NoPaper uF_NoPaper
  ·exact yo nF_NoProgram t_NoProgram d_NoProgram uF_NoProgram
  ·exact yo nF_NoRatio t_NoRatio d_NoRatio uF_NoRatio
  ·exact yo nF_NoRow t_NoRow d_NoRow uF_NoRow
  ·exact yo nF_NoSize t_NoSize d_NoSize uF_NoSize
  ·exact yo nF_NoTable t_NoTable d_NoTable uF_NoTable
  ·exact yo nF_NoText t_NoText d_NoText uF_NoText
  ·exact yo nF_TooMany t_TooMany d_TooMany uF_TooMany
 have nV:∀ c ∈ [cNoPaper,cNoProgram,cNoRatio,cNoRow,cNoSize,cNoTable,cNoText,cTooMany],W.kitOne K (.ref cV) (.ref c)=some false:=fun c hc=>by
  simp only [List.mem_cons,List.not_mem_nil,or_false] at hc
  rcases hc with rfl | rfl | rfl | rfl | rfl | rfl | rfl | rfl
  ·exact yo nV_NoPaper t_NoPaper d_NoPaper uV_NoPaper
  ·exact yo nV_NoProgram t_NoProgram d_NoProgram uV_NoProgram
  ·exact yo nV_NoRatio t_NoRatio d_NoRatio uV_NoRatio
  ·exact yo nV_NoRow t_NoRow d_NoRow uV_NoRow
  ·exact yo nV_NoSize t_NoSize d_NoSize uV_NoSize
  ·exact yo nV_NoTable t_NoTable d_NoTable uV_NoTable
  ·exact yo nV_NoText t_NoText d_NoText uV_NoText
  ·exact yo nV_TooMany t_TooMany d_TooMany uV_TooMany
 have Z:Cls K mg cE cF cV cNoPaper cNoProgram cNoRatio cNoRow cNoSize cNoTable cNoText cTooMany:=⟨W.mg_of X G b_TollError,W.mg_of X G b_NoFunction,W.mg_of X G b_NoValue,W.mg_of X G b_NoPaper,W.mg_of X G b_NoProgram,W.mg_of X G b_NoRatio,W.mg_of X G b_NoRow,W.mg_of X G b_NoSize,W.mg_of X G b_NoTable,W.mg_of X G b_NoText,W.mg_of X G b_TooMany,xF,xV,Zb sE tE dE uEF,Zb sE tE dE uEV,Ui vm uWF,Ui vm uWV,nF,nV,yo nFV tV_ y8V uFV,yo nFV.symm tF_ y8F uVF,Zb y7F tF_ y8F uSF,Zb y7F tF_ y8F uVF,Zb y7V tV_ y8V uSV,⟨y1F,y2F,y3F,y4,y5,y6F,y7F,y8F⟩,⟨y1V,y2V,y3V,y4,y5,y6V,y7V,y8V⟩⟩
 have O:CO K C zv:=⟨⟨pg,hd,po,sa⟩,fun f hf=>by
  simp only [zv,List.mem_cons,List.not_mem_nil,or_false] at hf
  rcases hf with rfl | rfl | rfl | rfl | rfl | rfl | rfl | rfl
  ·exact nf0
  ·exact nf1
  ·exact nf2
  ·exact nf3
  ·exact nf4
  ·exact nf5
  ·exact nf6
  ·exact nf7⟩
 obtain ⟨⟨_,G0⟩,n0⟩:=m0
 have H0:Meth K C "__init__" g0:=⟨b0,i0,n0⟩
 obtain ⟨⟨_,G1⟩,n1⟩:=m1
 have H1:Meth K C "told" g1:=⟨b1,i1,n1⟩
 obtain ⟨⟨_,G2⟩,n2⟩:=m2
 have H2:Meth K C "go" g2:=⟨b2,i2,n2⟩
 obtain ⟨⟨_,G3⟩,n3⟩:=m3
 have H3:Meth K C "step" g3:=⟨b3,i3,n3⟩
 obtain ⟨⟨_,G5⟩,n5⟩:=m5
 have H5:Meth K C "standing" g5:=⟨b5,i5,n5⟩
 obtain ⟨⟨_,G9⟩,n9⟩:=m9
 have H9:Meth K C "begin_body" g9:=⟨b9,i9,n9⟩
 obtain ⟨⟨_,G13⟩,n13⟩:=m13
 have H13:Meth K C "begin_value" g13:=⟨b13,i13,n13⟩
 obtain ⟨⟨_,G16⟩,n16⟩:=m16
 have H16:Meth K C "enter" g16:=⟨b16,i16,n16⟩
 obtain ⟨⟨_,G17⟩,n17⟩:=m17
 have H17:Meth K C "leave" g17:=⟨b17,i17,n17⟩
 have Fs:=Yq (P:=l.prog) (w:=w) (base:=base) T  F1 (W.mg_of X G a1)
 have Em:=Ww (P:=l.prog) (w:=w) (base:=base) T Fs F2 (W.mg_of X G a2)
 have Ep:=Ny (P:=l.prog) (w:=w) (base:=base) T Fs Em F3 (W.mg_of X G a3)
 have Fl:=j0 (P:=l.prog) (w:=w) (base:=base) T Z F4 (W.mg_of X G a4)
 have Fm:=d9 (P:=l.prog) (w:=w) (base:=base) T Z Ep F5 (W.mg_of X G a5)
 have Eg:=Nw (P:=l.prog) (w:=w) (base:=base) T O G3 H3
 have Ej:=Z7 (P:=l.prog) (w:=w) (base:=base) T O G5 H5
 have E2:=Qd (P:=l.prog) (w:=w) (base:=base) T O G17 H17
 have Ff:=j4 (P:=l.prog) (w:=w) (base:=base) T O Ej G13 H13
 have Fh:=da (P:=l.prog) (w:=w) (base:=base) T O G9 H9
 have E3:=Qe (P:=l.prog) (w:=w) (base:=base) T cU O Eg G16 H16
 have Eo:=Gv (P:=l.prog) (w:=w) (base:=base) T O Fh Ff E2 G2 H2
 have Eh:=Nx (P:=l.prog) (w:=w) (base:=base) T O G0 H0
 have Ei:=Qc (P:=l.prog) (w:=w) (base:=base) T O G1 H1
 have Ft:FunV K "trace" "trace" (top 23) ft (.int 1000 tk) _:=⟨⟨Tt,_,nT,oct,odt,kVt,dct,pmt,ant,cdt,ctt,slt,rfl,lt,ct_,lT,rfl⟩,kt⟩
 have N0:=Q9 (P:=l.prog) (w:=w) (base:=base) T O Fm Fl Eh E3 Eo Ei mk kc (W.mg_of X G aC) Ft
 have N1:=Gs N0 (T3 (P:=l.prog) (w:=w) (base:=base) T Fm Fl Ft)
 have E5:FX l.prog w K mg base 6 "trace" ["program", "name", "args", "most"] (tTrX cF cV):=⟨ft,_,N1,Ft.binds (ds:=[]) (fun T' kV doc pm an qZ ct us hl=>match us,hl with | [_,_,_,_],_=>⟨_,rfl,rfl⟩),kt,W.mg_of X G at_⟩
 have B3:=Ft.binds (ps:=["program", "name", "args", "most"]) (ds:=[.int 1000 tk]) (fun T' kV doc pm an qZ ct us hl=>match us,(show us.length=3 from by rw [zLa] at hl; exact Nat.succ.inj hl) with | [_,_,_],_=>⟨_,rfl,rfl⟩)
 have XV_trace:FXV l.prog w K mg base 6 "trace" ["program", "name", "args", "most"] 1000 (tTrX cF cV):=⟨ft,_,tk,N1,B3,kt,W.mg_of X G at_⟩
 have E9:FDV l.prog w K mg base 6 "trace" ["program", "name", "args", "most"] 1000 tTr0:=⟨ft,_,tk,N0,B3,kt,W.mg_of X G at_⟩
 have Fu:=j8 (P:=l.prog) (w:=w) (base:=base) T  F6 (W.mg_of X G a6)
 have Fz:=db (P:=l.prog) (w:=w) (base:=base) T  F7 (W.mg_of X G a7)
 have Ea:=Za (P:=l.prog) (w:=w) (base:=base) T  F8 (W.mg_of X G a8)
 have Fo:=qv (P:=l.prog) (w:=w) (base:=base) T  F9 (W.mg_of X G a9)
 have Eb:=Z9 (P:=l.prog) (w:=w) (base:=base) T Fz F10 (W.mg_of X G a10)
 have Fv:=j7 (P:=l.prog) (w:=w) (base:=base) T  F11 (W.mg_of X G a11)
 have Ef:=Yp (P:=l.prog) (w:=w) (base:=base) T  F15 (W.mg_of X G a15)
 have Fw:=j3 (P:=l.prog) (w:=w) (base:=base) T Fv F16 (W.mg_of X G a16)
 have E1:=dg (P:=l.prog) (w:=w) (base:=base) T Z XV_trace F12 (W.mg_of X G a12)
 have Ec:=Z5 (P:=l.prog) (w:=w) (base:=base) T Z E5 F13 (W.mg_of X G a13)
 have Ek:=Wv (P:=l.prog) (w:=w) (base:=base) T  F14 (W.mg_of X G a14)
 exact Kv T Fu Ea Fo Ef Eb Fw E1 Ec Ek E9 F17
end
end K17
open PySem PySem.W PyProof.Rows
set_option maxRecDepth 100000 in
set_option maxHeartbeats 0 in
theorem PySem.Challenge.cw_toll_k17_runs_refused_holds : PySem.Challenge.rw_toll_k17_runs_refused.Holds := by
 refine K17.opened ?_
 k_fill
 refine DL.walkD (l:=PySem.Challenge.rw_toll_k17_runs_refused) (k:=12) (x:="_law_script") rfl rfl ⟨rfl,by decide,by decide⟩ (fun w h Y=>PySem.W.kIn_of Y) ?F
 case F =>
  intro w mg fa h KX G hmg
  refine' K17.all_mk KX G hmg ?a1 ?l1 ?a2 ?l2 ?a3 ?l3 ?a4 ?l4 ?a5 ?l5 ?a6 ?l6 ?a7 ?l7 ?a8 ?l8 ?a9 ?l9 ?a10 ?l10 ?a11 ?l11 ?a12 ?l12 ?a13 ?l13 ?a14 ?l14 ?a15 ?l15 ?a16 ?l16 ?a17 ?l17 ?c17 ?k17 ?at_ ?lt ?ct_ ?kt ?lT ?aC ?b0 ?i0 ?m0 ?b1 ?i1 ?m1 ?b2 ?i2 ?m2 ?b3 ?i3 ?m3 ?b5 ?i5 ?m5 ?b9 ?i9 ?m9 ?b13 ?i13 ?m13 ?b16 ?i16 ?m16 ?b17 ?i17 ?m17 ?pg ?hd ?po ?sa ?mk ?kc ?nf0 ?nf1 ?nf2 ?nf3 ?nf4 ?nf5 ?nf6 ?nf7 ?bQ ?b_TollError ?b_NoFunction ?b_NoValue ?b_NoPaper ?b_NoProgram ?b_NoRatio ?b_NoRow ?b_NoSize ?b_NoTable ?b_NoText ?b_TooMany ?sE ?tE ?dE ?y4 ?y5 ?xF ?uEF ?uWF ?y1F ?y2F ?y3F ?y6F ?y7F ?y8F ?tF_ ?uSF ?xV ?uEV ?uWV ?y1V ?y2V ?y3V ?y6V ?y7V ?y8V ?tV_ ?uSV ?nFV ?uFV ?uVF ?t_NoPaper ?d_NoPaper ?nF_NoPaper ?uF_NoPaper ?nV_NoPaper ?uV_NoPaper ?t_NoProgram ?d_NoProgram ?nF_NoProgram ?uF_NoProgram ?nV_NoProgram ?uV_NoProgram ?t_NoRatio ?d_NoRatio ?nF_NoRatio ?uF_NoRatio ?nV_NoRatio ?uV_NoRatio ?t_NoRow ?d_NoRow ?nF_NoRow ?uF_NoRow ?nV_NoRow ?uV_NoRow ?t_NoSize ?d_NoSize ?nF_NoSize ?uF_NoSize ?nV_NoSize ?uV_NoSize ?t_NoTable ?d_NoTable ?nF_NoTable ?uF_NoTable ?nV_NoTable ?uV_NoTable ?t_NoText ?d_NoText ?nF_NoText ?uF_NoText ?nV_NoText ?uV_NoText ?t_TooMany ?d_TooMany ?nF_TooMany ?uF_TooMany ?nV_TooMany ?uV_TooMany ?z_ValueError ?z_all ?z_any ?z_bool ?z_dict ?z_int ?z_isinstance ?z_len ?z_list ?z_range ?z_reversed ?z_tuple ?z_zip
  case a1 | a2 | a3 | a4 | a5 | a6 | a7 | a8 | a9 | a10 | a11 | a12 | a13 | a14 | a15 | a16 | a17 | at_ | aC | b0 | i0 | b1 | i1 | b2 | i2 | b3 | i3 | b5 | i5 | b9 | i9 | b13 | i13 | b16 | i16 | b17 | i17 | b_TollError | b_NoFunction | b_NoValue | b_NoPaper | b_NoProgram | b_NoRatio | b_NoRow | b_NoSize | b_NoTable | b_NoText | b_TooMany | z_ValueError | z_all | z_any | z_bool | z_dict | z_int | z_isinstance | z_len | z_list | z_range | z_reversed | z_tuple | z_zip=>show _=_; k_is
  case l1 | l2 | l3 | l4 | l5 | l6 | l7 | l8 | l9 | l10 | l11 | l12 | l13 | l14 | l15 | l16 | m0 | m1 | m2 | m3 | m5 | m9 | m13 | m16 | m17 =>
   refine' K17.fna_mk ?lA ?cA ?kA
   case lA=>k_is
   case cA=>k_is
   case kA=>k_is
  case l17 | c17 | k17 | lt | ct_ | kt | lT | pg | hd | po | sa | mk | kc | nf0 | nf1 | nf2 | nf3 | nf4 | nf5 | nf6 | nf7 | bQ | sE | tE | dE | y4 | y5 | uEF | uWF | y1F | y2F | y3F | y6F | y7F | y8F | tF_ | uSF | uEV | uWV | y1V | y2V | y3V | y6V | y7V | y8V | tV_ | uSV | uFV | uVF | t_NoPaper | d_NoPaper | uF_NoPaper | uV_NoPaper | t_NoProgram | d_NoProgram | uF_NoProgram | uV_NoProgram | t_NoRatio | d_NoRatio | uF_NoRatio | uV_NoRatio | t_NoRow | d_NoRow | uF_NoRow | uV_NoRow | t_NoSize | d_NoSize | uF_NoSize | uV_NoSize | t_NoTable | d_NoTable | uF_NoTable | uV_NoTable | t_NoText | d_NoText | uF_NoText | uV_NoText | t_TooMany | d_TooMany | uF_TooMany | uV_TooMany=>k_is
  case xF=>(show PySem.W.excIn _ _ _ _=true; k_exc)
  case xV=>(show PySem.W.excIn _ _ _ _=true; k_exc)
  case nFV=>decide
  case nF_NoPaper=>decide
  case nV_NoPaper=>decide
  case nF_NoProgram=>decide
  case nV_NoProgram=>decide
  case nF_NoRatio=>decide
  case nV_NoRatio=>decide
  case nF_NoRow=>decide
  case nV_NoRow=>decide
  case nF_NoSize=>decide
  case nV_NoSize=>decide
  case nF_NoTable=>decide
  case nV_NoTable=>decide
  case nF_NoText=>decide
  case nV_NoText=>decide
  case nF_TooMany=>decide
  case nV_TooMany=>decide
