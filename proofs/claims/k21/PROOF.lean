import PyProof.Rows.All
import Wide.All
import OpenK.KSplit
import OpenK.KApp
import KE.RegKMod
import KE.KJoinElse
import KE.KTops
import KE.RegKSuper
import KE.RegLcAnyAll
import KE.KCells
import KE.KPassesOwn
import KE.KNestStore
import KE.KStopIter
import KE.RegKBase
import KE.KDictOne
import KE.KxDecode
import KE.RegKMathGB
import KE.KNestM
import KE.KDflt
import KE.KOwnIterCall
import KE.KSortedM
import KE.KxLen
import KE.RegKMathGC
import KE.KIsClose
import KE.KDisp
import KE.KSetIn
import KE.KRevSl
import KE.KEqDeep
import KE.KAnyBase
import KE.KWhile
import KE.KRevIter
import KE.KTreeR
import KE.KxStill
import KE.KFinally
import KE.KTopLam
import KE.KWithOwn
import KE.KOpsOwn
import KE.KDictNew
import KE.KWhileD
import KE.KSumEnd
import KE.KPopAny
import KE.KGrown
import KE.KItemAt
import KE.KTextLit
import KE.KTupDict
import KE.KFmtOwn
import KE.KMinKey
import KE.KExtendNil
import KE.KMethU
import KE.KDictAnyTail
import KE.RegKStar
import KE.RegKTupTruth
import KE.RegKTupSum
import KE.KMethJoin
import KE.KPathRangeEnd
import KE.RegKParC
import KE.KxAffix
import KE.KxField
import KE.RegKMatchCls
import KE.KLcPair
import KE.KJoinL
import KE.RegKNeg
import KE.KxPercentT
import KE.KBytesCut
import KE.KCompIf
import KE.KxFormat
import KE.KTypeName
import KE.KCompText
import KE.BytesMulAny
import KE.KSortTup
import KE.KPairAssign
import KE.KTypeOf
import KE.KMulAny
import KE.KBytesMenu
import KE.KTextDict
import KE.KPathShort
import KE.KSplitRange
import KE.KKinds
import KE.KxPart
import KE.KRangeItem
import KE.KRangeNest
import KE.KSetAt
import KE.KxTruthy
import KE.KPairRows
import KE.KBytesMore
import KE.KRangePlain
import KE.KBitsMul
import KE.KTextTable
import KE.KForList
import KE.KIdxIf
import KE.KAssignIn
import KE.KFirstTurn
import KE.KOwnRange
import KE.KLooksOwn
import KE.KDictWord
import KE.KTurnsGround
import KE.KFinFacts
import KE.RegKTryOn
import KE.KCenter
import KE.KStrWords
import KE.KStateTextK
import KE.KStateWGiven
import KE.KCallTup
import KE.KTreeF
import KE.KEndWord
import KE.KStateBytes
import KE.KRangeEnd
import KE.KOf
import KE.KRepItem
import KE.KListLetter
import KE.KSliceSign
import KE.KToBytes
import KE.KPathText
import KE.KMinBuiltin
import KE.KFromBytes
import KE.KEqDat
import KE.KBytesUnr
import KE.KIsBytes
import KE.KCallRec
import KE.KEndW
import KE.RegLGeC
import Wide.FinOn
import PySem.Challenge.RW_toll_k21_no_table
noncomputable section
set_option Elab.async false
set_option linter.all false
set_option maxRecDepth 100000
set_option maxHeartbeats 8000000
set_option exponentiation.threshold 5000
set_option compiler.extract_closed false
set_option bootstrap.genMatcherCode false
def zLa.{u} {α:Type u} {a b:List α}:(a++b).length=a.length+b.length:=List.length_append
def zLc.{u} {α:Type u} {x:α} {a:List α}:(x::a).length=a.length+1:=rfl
def zLn.{u} {α:Type u}:([]:List α).length=0:=rfl
def zLm.{u,v} {α:Type u} {β:Type v} {a:List α} (f:α->β):(a.map f).length=a.length:=List.length_map f
def zMa.{u,v} {α:Type u} {β:Type v} {f:α->β} {a b:List α}:(a++b).map f=a.map f++b.map f:=List.map_append
namespace L2
open PySem PySem.Spec PyProof.Rows
def zp (s:Stmt):Arguments:=match s with
 | .FunctionDef _ a _ _ _ _ _ _ _ _=>a
 | _=>{ posonlyargs:=[],args:=[],vararg:=none,kwonlyargs:=[],kw_defaults:=[],kwarg:=none,defaults:=[] }
def zm (s:Stmt):List Stmt:=match s with
 | .FunctionDef _ _ b _ _ _ _ _ _ _=>b
 | _=>[]
def zb (s:Stmt):Scope:=match s with
 | .FunctionDef _ _ _ _ _ _ sc _ _ _=>sc
 | _=>{ kind:=.function,names:=[],isGenerator:=false,isCoroutine:=false }
def Mc (s:Stmt) (j:Nat):Stmt:=match s with
 | .ClassDef _ _ _ body _ _ _ _ _ _ _=>body.getD j (.Pass ⟨0,0,0,0⟩)
 | _=>.Pass ⟨0,0,0,0⟩
end L2
namespace K21
open PySem PySem.Spec L2
open PyProof.Rows hiding St
def top (i:Nat):Stmt:=PySem.Challenge.pw_toll_k21_no_table.main.body.getD i (.Pass ⟨0,0,0,0⟩)
section
open PySem.W PySem.PyData
def zE (P:Params) (s:Str) (t:Nat) (v:Value):DictEntry:=⟨keyHash P s,.str s t,v⟩
def zG (n q:Str) (s:Stmt) (d c m:Value) (k:Nat):Obj:=⟨.type "function", none,.func (fnOf n q (zp s) (zm s) (zb s) d .none c m none (.ref k) .none),#[]⟩
def zF (n:Str) (s:Stmt) (m:Str) (i k:Nat):Obj:=⟨.type "function", none,.func (fnOf n n (zp s) (zm s) (zb s) .none .none .none (.str m i) none (.ref k) .none),#[]⟩
def zC (n:Str) (a:Nat) (q:Str) (b c:Nat) (d e f:Int) (g:Nat) (h:Int) (i j k l:Nat) (m o:Int) (p:Nat):Obj:=⟨.type "code", none,.fields #[.str n a,.str q b,.str "/claim/cut.py" c,.int d 0,.int e 0,.int 0 0,.int 0 0,.int f 0,.ref g,.bool true,.int h 0,.ref i,.none,.ref j,.ref k,.ref l,.int m 0,.int o 0,.str "/claim/cut.py" p],#[]⟩
def zK (P:Params):Frag:=(nat_lit 2,⟨.none,none,(.dict #[] 0),#[]⟩)::
(nat_lit 3,⟨(.type "dict"),none,(.dict #[zE P "__name__" 165 (.str "law_toll_k21_no_table" 495),zE P "__doc__" 166 .none,zE P "__package__" 167 .none,zE P "__loader__" 168 (.builtin "__main__.__loader__#opaque"),zE P "__spec__" 169 .none,zE P "__annotations__" 170 (.ref 6),zE P "__builtins__" 171 (.ref 4),zE P "__file__" 173 (.str "/claim/cut.py" 172),zE P "__cached__" 174 .none,zE P "TollError" 206 (.ref 24),zE P "NoText" 222 (.ref 37),zE P "NoProgram" 238 (.ref 49),zE P "NoFunction" 254 (.ref 61),zE P "NoValue" 270 (.ref 73),zE P "NoTable" 286 (.ref 85),zE P "NoRatio" 302 (.ref 97),zE P "NoPaper" 318 (.ref 109),zE P "NoSize" 343 (.ref 128),zE P "NoRow" 359 (.ref 140),zE P "TooMany" 375 (.ref 152),zE P "is_whole" 384 (.ref 161),zE P "KINDS" 393 (.ref 162),zE P "WORDS" 401 (.ref 163),zE P "is_price" 408 (.ref 170),zE P "check_table" 414 (.ref 175),zE P "price_of" 420 (.ref 180),zE P "own_prices" 428 (.ref 185),zE P "whole_prices" 439 (.ref 192),zE P "by_way" 451 (.ref 199),zE P "ways_of" 461 (.ref 206),zE P "way_on" 469 (.ref 213),zE P "by_kind" 475 (.ref 218),zE P "held_by" 483 (.ref 225),zE P "room_of" 494 (.ref 232),zE P "_law_cell_at" 504 (.ref 239),zE P "_law_name" 517 (.ref 246),zE P "_law_kinds" 523 (.ref 253),zE P "_law_table" 535 (.ref 260),zE P "_law_thing" 543 (.ref 267),zE P "_law_call" 549 (.ref 272),zE P "_law_run" 561 (.ref 279),zE P "_law_asked" 571 (.ref 286),zE P "_law_refused" 583 (.ref 293),zE P "_law_spoiled" 593 (.ref 300),zE P "law" 599 (.ref 305)] 45),#[]⟩)::
(nat_lit 15,⟨(.type "tuple"),none,(.seq #[(.type "ValueError")] 0),#[]⟩)::
(nat_lit 22,⟨(.type "tuple"),none,(.seq #[] 0),#[]⟩)::
(nat_lit 23,⟨(.type "dict"),none,(.dict #[zE P "__module__" 196 (.str "toll.errors" 187),zE P "__firstlineno__" 200 (.int 2 199),zE P "__static_attributes__" 201 (.ref 22),zE P "__weakref__" 203 (.ref 25),zE P "__doc__" 204 .none] 3),#[]⟩)::
(nat_lit 24,⟨(.type "type"),none,(.cls ⟨"TollError",[(.type "ValueError")],[(.ref 24),(.type "ValueError"),(.type "Exception"),(.type "BaseException"),(.type "object")],23,"TollError",true,[],[(.ref 37),(.ref 49),(.ref 61),(.ref 73),(.ref 85),(.ref 97),(.ref 109),(.ref 128),(.ref 140),(.ref 152)],false,none,false⟩),#[(some (.ref 15)),none,(some (.str "TollError" 189)),(some (.str "TollError" 197)),(some (.builtin "ValueError.__new__")),(some (.bool true))]⟩)::
(nat_lit 25,⟨(.type "getset_descriptor"),none,(.fields #[(.str "__weakref__" 202),(.ref 24),(.builtin "ExceptionGroup.__weakref__"),.none]),#[]⟩)::
(nat_lit 28,⟨(.type "tuple"),none,(.seq #[(.ref 24)] 0),#[]⟩)::
(nat_lit 35,⟨(.type "tuple"),none,(.seq #[] 0),#[]⟩)::
(nat_lit 36,⟨(.type "dict"),none,(.dict #[zE P "__module__" 214 (.str "toll.errors" 187),zE P "__firstlineno__" 218 (.int 4 217),zE P "__static_attributes__" 219 (.ref 35),zE P "__doc__" 220 .none] 2),#[]⟩)::
(nat_lit 37,⟨(.type "type"),none,(.cls ⟨"NoText",[(.ref 24)],[(.ref 37),(.ref 24),(.type "ValueError"),(.type "Exception"),(.type "BaseException"),(.type "object")],36,"NoText",true,[],[],false,none,false⟩),#[(some (.ref 28)),none,(some (.str "NoText" 207)),(some (.str "NoText" 215)),(some (.builtin "ValueError.__new__")),(some (.bool true))]⟩)::
(nat_lit 40,⟨(.type "tuple"),none,(.seq #[(.ref 24)] 0),#[]⟩)::
(nat_lit 47,⟨(.type "tuple"),none,(.seq #[] 0),#[]⟩)::
(nat_lit 48,⟨(.type "dict"),none,(.dict #[zE P "__module__" 230 (.str "toll.errors" 187),zE P "__firstlineno__" 234 (.int 6 233),zE P "__static_attributes__" 235 (.ref 47),zE P "__doc__" 236 .none] 2),#[]⟩)::
(nat_lit 49,⟨(.type "type"),none,(.cls ⟨"NoProgram",[(.ref 24)],[(.ref 49),(.ref 24),(.type "ValueError"),(.type "Exception"),(.type "BaseException"),(.type "object")],48,"NoProgram",true,[],[],false,none,false⟩),#[(some (.ref 40)),none,(some (.str "NoProgram" 223)),(some (.str "NoProgram" 231)),(some (.builtin "ValueError.__new__")),(some (.bool true))]⟩)::
(nat_lit 52,⟨(.type "tuple"),none,(.seq #[(.ref 24)] 0),#[]⟩)::
(nat_lit 59,⟨(.type "tuple"),none,(.seq #[] 0),#[]⟩)::
(nat_lit 60,⟨(.type "dict"),none,(.dict #[zE P "__module__" 246 (.str "toll.errors" 187),zE P "__firstlineno__" 250 (.int 8 249),zE P "__static_attributes__" 251 (.ref 59),zE P "__doc__" 252 .none] 2),#[]⟩)::
(nat_lit 61,⟨(.type "type"),none,(.cls ⟨"NoFunction",[(.ref 24)],[(.ref 61),(.ref 24),(.type "ValueError"),(.type "Exception"),(.type "BaseException"),(.type "object")],60,"NoFunction",true,[],[],false,none,false⟩),#[(some (.ref 52)),none,(some (.str "NoFunction" 239)),(some (.str "NoFunction" 247)),(some (.builtin "ValueError.__new__")),(some (.bool true))]⟩)::
(nat_lit 64,⟨(.type "tuple"),none,(.seq #[(.ref 24)] 0),#[]⟩)::
(nat_lit 71,⟨(.type "tuple"),none,(.seq #[] 0),#[]⟩)::
(nat_lit 72,⟨(.type "dict"),none,(.dict #[zE P "__module__" 262 (.str "toll.errors" 187),zE P "__firstlineno__" 266 (.int 10 265),zE P "__static_attributes__" 267 (.ref 71),zE P "__doc__" 268 .none] 2),#[]⟩)::
(nat_lit 73,⟨(.type "type"),none,(.cls ⟨"NoValue",[(.ref 24)],[(.ref 73),(.ref 24),(.type "ValueError"),(.type "Exception"),(.type "BaseException"),(.type "object")],72,"NoValue",true,[],[],false,none,false⟩),#[(some (.ref 64)),none,(some (.str "NoValue" 255)),(some (.str "NoValue" 263)),(some (.builtin "ValueError.__new__")),(some (.bool true))]⟩)::
(nat_lit 76,⟨(.type "tuple"),none,(.seq #[(.ref 24)] 0),#[]⟩)::
(nat_lit 83,⟨(.type "tuple"),none,(.seq #[] 0),#[]⟩)::
(nat_lit 84,⟨(.type "dict"),none,(.dict #[zE P "__module__" 278 (.str "toll.errors" 187),zE P "__firstlineno__" 282 (.int 12 281),zE P "__static_attributes__" 283 (.ref 83),zE P "__doc__" 284 .none] 2),#[]⟩)::
(nat_lit 85,⟨(.type "type"),none,(.cls ⟨"NoTable",[(.ref 24)],[(.ref 85),(.ref 24),(.type "ValueError"),(.type "Exception"),(.type "BaseException"),(.type "object")],84,"NoTable",true,[],[],false,none,false⟩),#[(some (.ref 76)),none,(some (.str "NoTable" 271)),(some (.str "NoTable" 279)),(some (.builtin "ValueError.__new__")),(some (.bool true))]⟩)::
(nat_lit 88,⟨(.type "tuple"),none,(.seq #[(.ref 24)] 0),#[]⟩)::
(nat_lit 95,⟨(.type "tuple"),none,(.seq #[] 0),#[]⟩)::
(nat_lit 96,⟨(.type "dict"),none,(.dict #[zE P "__module__" 294 (.str "toll.errors" 187),zE P "__firstlineno__" 298 (.int 14 297),zE P "__static_attributes__" 299 (.ref 95),zE P "__doc__" 300 .none] 2),#[]⟩)::
(nat_lit 97,⟨(.type "type"),none,(.cls ⟨"NoRatio",[(.ref 24)],[(.ref 97),(.ref 24),(.type "ValueError"),(.type "Exception"),(.type "BaseException"),(.type "object")],96,"NoRatio",true,[],[],false,none,false⟩),#[(some (.ref 88)),none,(some (.str "NoRatio" 287)),(some (.str "NoRatio" 295)),(some (.builtin "ValueError.__new__")),(some (.bool true))]⟩)::
(nat_lit 100,⟨(.type "tuple"),none,(.seq #[(.ref 24)] 0),#[]⟩)::
(nat_lit 107,⟨(.type "tuple"),none,(.seq #[] 0),#[]⟩)::
(nat_lit 108,⟨(.type "dict"),none,(.dict #[zE P "__module__" 310 (.str "toll.errors" 187),zE P "__firstlineno__" 314 (.int 16 313),zE P "__static_attributes__" 315 (.ref 107),zE P "__doc__" 316 .none] 2),#[]⟩)::
(nat_lit 109,⟨(.type "type"),none,(.cls ⟨"NoPaper",[(.ref 24)],[(.ref 109),(.ref 24),(.type "ValueError"),(.type "Exception"),(.type "BaseException"),(.type "object")],108,"NoPaper",true,[],[],false,none,false⟩),#[(some (.ref 100)),none,(some (.str "NoPaper" 303)),(some (.str "NoPaper" 311)),(some (.builtin "ValueError.__new__")),(some (.bool true))]⟩)::
(nat_lit 112,⟨(.type "tuple"),none,(.seq #[(.ref 24)] 0),#[]⟩)::
(nat_lit 124,zC "__init__" 331 "NoSize.__init__" 332 333 20 2 3 119 181 120 121 122 123 336 20 337)::
(nat_lit 125,zG "__init__" "NoSize.__init__" (Mc (top 9) 0) .none .none (.str "toll.errors" 187) 124)::
(nat_lit 126,⟨(.type "tuple"),none,(.seq #[(.str "at" 339)] 0),#[]⟩)::
(nat_lit 127,⟨(.type "dict"),none,(.dict #[zE P "__module__" 326 (.str "toll.errors" 187),zE P "__firstlineno__" 330 (.int 18 329),zE P "__init__" 338 (.ref 125),zE P "__static_attributes__" 340 (.ref 126),zE P "__doc__" 341 .none] 2),#[]⟩)::
(nat_lit 128,⟨(.type "type"),none,(.cls ⟨"NoSize",[(.ref 24)],[(.ref 128),(.ref 24),(.type "ValueError"),(.type "Exception"),(.type "BaseException"),(.type "object")],127,"NoSize",true,[],[],false,none,false⟩),#[(some (.ref 112)),none,(some (.str "NoSize" 319)),(some (.str "NoSize" 327)),(some (.builtin "ValueError.__new__")),(some (.bool true))]⟩)::
(nat_lit 131,⟨(.type "tuple"),none,(.seq #[(.ref 24)] 0),#[]⟩)::
(nat_lit 138,⟨(.type "tuple"),none,(.seq #[] 0),#[]⟩)::
(nat_lit 139,⟨(.type "dict"),none,(.dict #[zE P "__module__" 351 (.str "toll.errors" 187),zE P "__firstlineno__" 355 (.int 23 354),zE P "__static_attributes__" 356 (.ref 138),zE P "__doc__" 357 .none] 2),#[]⟩)::
(nat_lit 140,⟨(.type "type"),none,(.cls ⟨"NoRow",[(.ref 24)],[(.ref 140),(.ref 24),(.type "ValueError"),(.type "Exception"),(.type "BaseException"),(.type "object")],139,"NoRow",true,[],[],false,none,false⟩),#[(some (.ref 131)),none,(some (.str "NoRow" 344)),(some (.str "NoRow" 352)),(some (.builtin "ValueError.__new__")),(some (.bool true))]⟩)::
(nat_lit 143,⟨(.type "tuple"),none,(.seq #[(.ref 24)] 0),#[]⟩)::
(nat_lit 150,⟨(.type "tuple"),none,(.seq #[] 0),#[]⟩)::
(nat_lit 151,⟨(.type "dict"),none,(.dict #[zE P "__module__" 367 (.str "toll.errors" 187),zE P "__firstlineno__" 371 (.int 25 370),zE P "__static_attributes__" 372 (.ref 150),zE P "__doc__" 373 .none] 2),#[]⟩)::
(nat_lit 152,⟨(.type "type"),none,(.cls ⟨"TooMany",[(.ref 24)],[(.ref 152),(.ref 24),(.type "ValueError"),(.type "Exception"),(.type "BaseException"),(.type "object")],151,"TooMany",true,[],[],false,none,false⟩),#[(some (.ref 143)),none,(some (.str "TooMany" 360)),(some (.str "TooMany" 368)),(some (.builtin "ValueError.__new__")),(some (.bool true))]⟩)::
(nat_lit 160,zC "is_whole" 378 "is_whole" 379 380 28 1 3 155 181 156 157 158 159 382 28 383)::
(nat_lit 161,zF "is_whole" (top 13) "toll.programs" 376 160)::
(nat_lit 162,⟨(.type "tuple"),none,(.seq #[(.str "call" 387),(.str "make" 388),(.str "sum" 389),(.str "let" 390),(.str "less" 391),(.str "open" 392)] 0),#[]⟩)::
(nat_lit 163,⟨(.type "tuple"),none,(.seq #[(.str "call" 394),(.str "make" 395),(.str "sum" 396),(.str "let" 397),(.str "less" 398),(.str "open" 399),(.str "hold" 400)] 0),#[]⟩)::
(nat_lit 169,zC "is_price" 402 "is_price" 403 404 33 1 3 164 181 165 166 167 168 406 33 407)::
(nat_lit 170,zF "is_price" (top 17) "toll.tables" 385 169)::
(nat_lit 174,⟨(.type "code"),none,(.fields #[(.str "check_table" 409),(.str "check_table" 410),(.str "/claim/cut.py" 411),(.int 35 0),(.int 1 0),(.int 0 0),(.int 0 0),(.int 3 0),(.ref 171),(.bool true),(.int 181 0),(.ref 172),.none,.none,.none,(.ref 173),(.int 412 0),(.int 35 0),(.str "/claim/cut.py" 413)]),#[]⟩)::
(nat_lit 175,zF "check_table" (top 18) "toll.tables" 385 174)::
(nat_lit 179,⟨(.type "code"),none,(.fields #[(.str "price_of" 415),(.str "price_of" 416),(.str "/claim/cut.py" 417),(.int 40 0),(.int 2 0),(.int 0 0),(.int 0 0),(.int 3 0),(.ref 176),(.bool true),(.int 181 0),(.ref 177),.none,.none,.none,(.ref 178),(.int 418 0),(.int 40 0),(.str "/claim/cut.py" 419)]),#[]⟩)::
(nat_lit 180,zF "price_of" (top 19) "toll.tables" 385 179)::
(nat_lit 184,⟨(.type "code"),none,(.fields #[(.str "own_prices" 423),(.str "own_prices" 424),(.str "/claim/cut.py" 425),(.int 44 0),(.int 3 0),(.int 0 0),(.int 0 0),(.int 3 0),(.ref 181),(.bool true),(.int 181 0),(.ref 182),.none,.none,.none,(.ref 183),(.int 426 0),(.int 44 0),(.str "/claim/cut.py" 427)]),#[]⟩)::
(nat_lit 185,zF "own_prices" (top 21) "toll.ways" 421 184)::
(nat_lit 191,zC "whole_prices" 429 "whole_prices" 430 431 50 3 3 186 181 187 188 189 190 437 50 438)::
(nat_lit 192,zF "whole_prices" (top 22) "toll.ways" 421 191)::
(nat_lit 198,zC "by_way" 440 "by_way" 441 442 55 3 3 193 181 194 195 196 197 449 55 450)::
(nat_lit 199,zF "by_way" (top 23) "toll.ways" 421 198)::
(nat_lit 205,zC "ways_of" 452 "ways_of" 453 454 60 1 3 200 181 201 202 203 204 459 60 460)::
(nat_lit 206,zF "ways_of" (top 24) "toll.ways" 421 205)::
(nat_lit 212,zC "way_on" 462 "way_on" 463 464 66 2 3 207 181 208 209 210 211 467 66 468)::
(nat_lit 213,zF "way_on" (top 25) "toll.ways" 421 212)::
(nat_lit 217,⟨(.type "code"),none,(.fields #[(.str "by_kind" 470),(.str "by_kind" 471),(.str "/claim/cut.py" 472),(.int 70 0),(.int 2 0),(.int 0 0),(.int 0 0),(.int 3 0),(.ref 214),(.bool true),(.int 181 0),(.ref 215),.none,.none,.none,(.ref 216),(.int 473 0),(.int 70 0),(.str "/claim/cut.py" 474)]),#[]⟩)::
(nat_lit 218,zF "by_kind" (top 26) "toll.ways" 421 217)::
(nat_lit 224,zC "held_by" 476 "held_by" 477 478 76 2 3 219 181 220 221 222 223 481 76 482)::
(nat_lit 225,zF "held_by" (top 27) "toll.ways" 421 224)::
(nat_lit 231,zC "room_of" 484 "room_of" 485 486 78 2 3 226 181 227 228 229 230 492 78 493)::
(nat_lit 232,zF "room_of" (top 28) "toll.ways" 421 231)::
(nat_lit 238,zC "_law_cell_at" 497 "_law_cell_at" 498 499 86 2 3 233 181 234 235 236 237 502 86 503)::
(nat_lit 239,zF "_law_cell_at" (top 30) "law_toll_k21_no_table" 495 238)::
(nat_lit 245,zC "_law_name" 505 "_law_name" 506 507 90 2 3 240 181 241 242 243 244 515 90 516)::
(nat_lit 246,zF "_law_name" (top 31) "law_toll_k21_no_table" 495 245)::
(nat_lit 252,zC "_law_kinds" 518 "_law_kinds" 519 520 104 0 3 247 181 248 249 250 251 521 104 522)::
(nat_lit 253,zF "_law_kinds" (top 32) "law_toll_k21_no_table" 495 252)::
(nat_lit 259,zC "_law_table" 524 "_law_table" 525 526 106 1 3 254 181 255 256 257 258 533 106 534)::
(nat_lit 260,zF "_law_table" (top 33) "law_toll_k21_no_table" 495 259)::
(nat_lit 266,zC "_law_thing" 536 "_law_thing" 537 538 114 1 3 261 181 262 263 264 265 541 114 542)::
(nat_lit 267,zF "_law_thing" (top 34) "law_toll_k21_no_table" 495 266)::
(nat_lit 271,⟨(.type "code"),none,(.fields #[(.str "_law_call" 544),(.str "_law_call" 545),(.str "/claim/cut.py" 546),(.int 117 0),(.int 3 0),(.int 0 0),(.int 0 0),(.int 3 0),(.ref 268),(.bool true),(.int 181 0),(.ref 269),.none,.none,.none,(.ref 270),(.int 547 0),(.int 117 0),(.str "/claim/cut.py" 548)]),#[]⟩)::
(nat_lit 272,zF "_law_call" (top 35) "law_toll_k21_no_table" 495 271)::
(nat_lit 278,zC "_law_run" 550 "_law_run" 551 552 129 1 3 273 181 274 275 276 277 559 129 560)::
(nat_lit 279,zF "_law_run" (top 36) "law_toll_k21_no_table" 495 278)::
(nat_lit 285,zC "_law_asked" 562 "_law_asked" 563 564 141 4 3 280 181 281 282 283 284 569 141 570)::
(nat_lit 286,zF "_law_asked" (top 37) "law_toll_k21_no_table" 495 285)::
(nat_lit 292,zC "_law_refused" 572 "_law_refused" 573 574 153 4 3 287 181 288 289 290 291 581 153 582)::
(nat_lit 293,zF "_law_refused" (top 38) "law_toll_k21_no_table" 495 292)::
(nat_lit 299,zC "_law_spoiled" 584 "_law_spoiled" 585 586 163 2 3 294 181 295 296 297 298 591 163 592)::
(nat_lit 300,zF "_law_spoiled" (top 39) "law_toll_k21_no_table" 495 299)::
(nat_lit 304,⟨(.type "code"),none,(.fields #[(.str "law" 594),(.str "law" 595),(.str "/claim/cut.py" 596),(.int 172 0),(.int 1 0),(.int 0 0),(.int 0 0),(.int 3 0),(.ref 301),(.bool true),(.int 181 0),(.ref 302),.none,.none,.none,(.ref 303),(.int 597 0),(.int 172 0),(.str "/claim/cut.py" 598)]),#[]⟩)::
(nat_lit 305,zF "law" (top 40) "law_toll_k21_no_table" 495 304)::[]
def zA:List Addr:=2::3::15::22::23::24::25::28::35::36::37::40::47::48::49::52::59::60::61::64::71::72::73::76::83::84::85::88::95::96::97::100::107::108::109::112::124::125::126::127::128::131::138::139::140::143::150::151::152::160::161::162::163::169::170::174::175::179::180::184::185::191::192::198::199::205::206::212::213::217::218::224::225::231::232::238::239::245::246::252::253::259::260::266::267::271::272::278::279::285::286::292::293::299::300::304::305::[]
def zAK (P:Params):zA=(zK P).map (·.1):=by kernel_rfl
def zq:Program:={ PySem.Challenge.pw_toll_k21_no_table with main:={ PySem.Challenge.pw_toll_k21_no_table.main with body:=[1,2,3,4,5,6,7,8,9,10,11,13,15,16,17,18,19,21,22,23,24,25,26,27,28,30,31,32,33,34,35,36,37,38,39,40].filterMap λi=>PySem.Challenge.pw_toll_k21_no_table.main.body[i]? } }
abbrev zX (s:Shared):Bool:=xlAt zq [] s && recOk (RowW.records PySem.Challenge.rw_toll_k21_no_table.row.toRowW) s
abbrev zP (w:World):Prop:=Option.map (λs=>(Fast.tw4187177175401517315 zq [] (Fast.tw5923862056798008813 PySem.Challenge.pw_toll_k21_no_table.main.body) zX true s,zA.map s.heap.get?)) (openEnds Fast.tw14364793385576792824 PySem.Challenge.pw_toll_k21_no_table w 6368)=some (openGood zq [],(zK w.params).map λp=>some p.2)
def hl0 (w:World):zP w:=by delta zP openEnds topFrom; rw [Fast.te14082659384304107361]; kernel_rfl
end
end K21
namespace L2
open PySem PySem.Spec PyProof.Rows
abbrev Key:=Sum Int Str
def d4:Key->Value->Bool
 | .inl k,v=>Value.isInt k v
 | .inr x,v=>Value.isStrOf x v
def keyH (w:World):Key->Int
 | .inl k=>hashInt k
 | .inr x=>hashStr w x
def y9:∀ {k:Key} {v:Value},d4 k v=true->(∃ i t,k=Sum.inl i /\ v=Value.int i t) \/ (∃ x t,k=Sum.inr x /\ v=Value.str x t)
 | .inl i,v,h=>by
  obtain ⟨t,e⟩:=Value.isInt_shape (k:=i) (v:=v) h
  exact .inl ⟨i,t,rfl,e⟩
 | .inr x,v,h=>by
  obtain ⟨t,e⟩:=Value.isStrOf_shape (x:=x) (v:=v) h
  exact .inr ⟨x,t,rfl,e⟩
def Uv (i:Int) (t:Tok):d4 (.inl i) (.int i t)=true:=by simp [d4,Value.isInt]
def Uu (x:Str) (t:Tok):d4 (.inr x) (.str x t)=true:=by simp [d4,Value.isStrOf]
def Jc (a b:Int):decide ((Sum.inl a:Key)=Sum.inl b)=(a == b):=by
 by_cases e:a=b
 ·subst e; simp
 ·have h:¬ (Sum.inl a:Key)=Sum.inl b:=λq=>e (Sum.inl.inj q)
  rw [decide_eq_false h]
  exact (beq_eq_false_iff_ne.mpr e).symm
def J9 (a b:Str):decide ((Sum.inr a:Key)=Sum.inr b)=decide (a=b):=by
 by_cases e:a=b
 ·subst e; simp
 ·have h:¬ (Sum.inr a:Key)=Sum.inr b:=λq=>e (Sum.inr.inj q)
  rw [decide_eq_false h,decide_eq_false e]
def Jb (a:Int) (b:Str):decide ((Sum.inl a:Key)=Sum.inr b)=false:=decide_eq_false (λq=>nomatch q)
def Ja (a:Str) (b:Int):decide ((Sum.inr a:Key)=Sum.inl b)=false:=decide_eq_false (λq=>nomatch q)
def zv (prog:Program) (w:World):PySem.KeyKind prog w Key where
 is:=d4
 hash:=keyH w
 inj:=λv a b ha hb=>by
  rcases y9 ha with ⟨i,t,rfl,rfl⟩ | ⟨x,t,rfl,rfl⟩
  ·rcases y9 hb with ⟨j,u,rfl,e⟩ | ⟨y,u,rfl,e⟩
   ·injection e with e1 _; rw [e1]
   ·exact nomatch e
  ·rcases y9 hb with ⟨j,u,rfl,e⟩ | ⟨y,u,rfl,e⟩
   ·exact nomatch e
   ·injection e with e1 _; rw [e1]
 byValue:=λk v h=>by
  rcases y9 h with ⟨i,t,rfl,rfl⟩ | ⟨x,t,rfl,rfl⟩ <;> rfl
 pyHash:=λhv h=>by
  rcases y9 hv with ⟨i,t,rfl,rfl⟩ | ⟨x,t,rfl,rfl⟩
  ·exact wpAny_pyHash_int h
  ·exact wpAny_pyHash_str h
 eqBool:=λhu hv h=>by
  rcases y9 hu with ⟨i,t,rfl,rfl⟩ | ⟨x,t,rfl,rfl⟩
  ·rcases y9 hv with ⟨j,u,rfl,rfl⟩ | ⟨y,u,rfl,rfl⟩
   ·rw [Jc] at h; exact wpAny_eqBool_int h
   ·rw [Jb] at h; exact SeqAt.EqAt.int_str i t y u _ _ _ _ h
  ·rcases y9 hv with ⟨j,u,rfl,rfl⟩ | ⟨y,u,rfl,rfl⟩
   ·rw [Ja] at h; exact SeqAt.EqAt.str_int x t j u _ _ _ _ h
   ·rw [J9] at h; exact wpAny_eqBool_str h
 «strs»:=λk x t v h=>by
  rcases y9 h with ⟨i,u,rfl,e⟩ | ⟨y,u,rfl,e⟩
  ·exact nomatch e
  ·injection e with e1 _
   subst e1
   cases v <;> rfl
def Xy (prog:Program) (w:World) (k:Key) (v:Value):(zv prog w).is k v=d4 k v:=rfl
def Z4 (prog:Program) (w:World) (i:Int) (t:Tok):(zv prog w).is (.inl i) (.int i t)=true:=Uv i t
def Z3 (prog:Program) (w:World) (x:Str) (t:Tok):(zv prog w).is (.inr x) (.str x t)=true:=Uu x t
inductive V where
 | non | bl (b:Bool) | int (i:Int) | str (x:Str) | byt (b:Array UInt8) | flt (b:UInt64) | ref (a:Addr) | ty (n:String)
 deriving DecidableEq
def RelV:V->Value->Prop
 | .non,u=>u=Value.none
 | .bl b,u=>u=Value.bool b
 | .int i,u=>∃ t,u=Value.int i t
 | .str x,u=>∃ t,u=Value.str x t
 | .byt b,u=>∃ t,u=Value.bytes b t
 | .flt b,u=>∃ t,u=Value.float b t
 | .ref a,u=>u=Value.ref a
 | .ty n,u=>u=Value.type n
abbrev Vals:List V->List Value->Prop:=Paired RelV
def Vals.length {xs:List V} {us:List Value} (r:Vals xs us):xs.length=us.length:=Paired.length r
def Vals.get:∀ {xs:List V} {us:List Value} {i:Nat} {x:V},Vals xs us->xs[i]?=some x->∃ u,us[i]?=some u /\ RelV x u
 | _,_,_,_,.nil,e=>by simp at e
 | _,_,0,_,.cons r _,e=>by simp at e; subst e; exact ⟨_,rfl,r⟩
 | _,_,i + 1,x,.cons _ t,e=>by
  obtain ⟨u,h1,h2⟩:=Vals.get (i:=i) (x:=x) t (by simpa using e)
  exact ⟨u,by simpa using h1,h2⟩
def Vals.set {x:V} {u:Value} (r:RelV x u):∀ {xs:List V} {us:List Value} (i:Nat),Vals xs us->Vals (xs.set i x) (us.set i u)
 | _,_,_,.nil=>.nil
 | _,_,0,.cons _ t=>.cons r t
 | _,_,i + 1,.cons q t=>.cons q (Vals.set r i t)
def Vals.append:∀ {xs ys:List V} {us ws:List Value},Vals xs us->Vals ys ws->Vals (xs ++ ys) (us ++ ws)
 | _,_,_,_,.nil,s=>s
 | _,_,_,_,.cons r t,s=>.cons r (Vals.append t s)
def Vals.take:∀ {xs:List V} {us:List Value} (n:Nat),Vals xs us->Vals (xs.take n) (us.take n)
 | _,_,0,_=>.nil
 | _,_,_ + 1,.nil=>.nil
 | _,_,n + 1,.cons r t=>.cons r (Vals.take n t)
def Vals.drop:∀ {xs:List V} {us:List Value} (n:Nat),Vals xs us->Vals (xs.drop n) (us.drop n)
 | _,_,0,r=>r
 | _,_,_ + 1,.nil=>.nil
 | _,_,n + 1,.cons _ t=>Vals.drop n t
def RelO:Option V->Option Value->Prop
 | some v,some u=>RelV v u
 | none,none=>True
 | _,_=>False
def KV {κ:Type}:List (κ × V)->List (κ × Value)->Prop:=Paired λ(p:κ × V) (q:κ × Value)=>p.1=q.1 /\ RelV p.2 q.2
def kV:Key->V
 | .inl i=>.int i
 | .inr x=>.str x
inductive HO where
  | lst (xs:List V)
  | tup (xs:List V)
  | dK (kvs:List (Key × V)) | dT (kvs:List (List Key × V))
  | set (S:Int->Bool) (n:Nat)
  | ins (C dx:Addr) (fs:List (Str × V))
  | own (x:Addr)
  | xd (fs:List (Str × V))
  | met (f x:Addr)
  | rng (lo hi:Int)
  | frz (o:Obj) (u:HO)
  | tbl (ps:Array Value)
  | ext (φ:Heap->Prop)
abbrev Hp:=Addr->Option HO
def upd (H:Hp) (a:Addr) (o:HO):Hp:=λb=>if b=a then some o else H b
def zg {H:Hp} {a:Addr} {o:HO}:upd H a o a=some o:=by unfold upd; rw [if_pos rfl]
def zi {H:Hp} {a b:Addr} {o:HO} (h:b ≠ a):upd H a o b=H b:=by unfold upd; rw [if_neg h]
def Gc {H:Hp} {a b:Addr} {o u:HO} (h:H a=some o) (h':H b=some u) (d:o ≠ u):a ≠ b:=by
 intro e; subst e; rw [h] at h'; exact d (Option.some.inj h')
def zf {H:Hp} {a b:Addr} {o:HO} (h:H a=some o) (h':H b=none):a ≠ b:=by
 intro e; subst e; rw [h] at h'; cases h'
section
variable (P:Program) (w:World)
def ye (H:Hp) (h:Heap) (a:Addr):HO->Prop
 | .lst xs=>xs.length <= sizeLine /\ ∃ (its:List Value) (n:Nat),Vals xs its /\ h.get? a=some { cls:=.type "list", data:=.seq its.toArray n }
 | .tup xs=>xs.length <= sizeLine /\ ∃ its:List Value,Vals xs its /\ IsTup h a its.toArray /\ ∃ o,h.get? a=some o /\ o.dict=none
 | .dK kvs=>kvs.length <= sizeLine /\ (a == sysModules)=false /\ ∃ vs,KV kvs vs /\ h.DictOf (zv P w) a vs
 | .dT kvs=>kvs.length <= sizeLine /\ (a == sysModules)=false /\ ∃ xs:List (List Key × Addr × Value),
   Paired (λ(p:List Key × V) (q:List Key × Addr × Value)=>p.1=q.1 /\ H q.2.1=some (.tup (p.1.map kV)) /\ RelV p.2 q.2.2) kvs xs /\
   ∃ o es ep,h.get? a=some o /\ o.ExactDict /\ o.data=.dict es ep /\ es.toList=xs.map (entryOfKey (tupleKind (zv P w))) /\ (xs.map (·.1)).Nodup
 | .set S n=>h.SetOf (intKind P w) a S n
 | .ins C dx fs=>H dx=some (.own a) /\ fs.length <= 1000 /\ dx ≠ a /\ h.get? a=some (W.instObj C dx) /\
   ∃ mA,h.Ns1 dx mA /\ (∀ f,RelO (fs.lookup f) (mA f)) /\ PySem.Within mA (fs.map (·.1))
 | .own _=>∃ o,h.get? a=some o
 | .xd fs=>∃ mA,h.Ns1 a mA /\ ∀ f,RelO (fs.lookup f) (mA f)
 | .rng lo hi=>∃ t u v,h.get? a=some { cls:=.type "range", data:=.fields #[.int lo t,.int hi u,.int 1 v] }
 | .frz o u=>h.get? a=some o /\ ye H h a u
 | .tbl ps=>h.get? a=some { cls:=.none,data:=.fields ps }
 | .met f x=>h.get? a=some (W.methodObj (.ref f) (.ref x))
 | .ext φ=>φ h /\ (∃ o,h.get? a=some o) /\ ∀ h1 h2:Heap,φ h1->(∀ o,h1.get? a=some o->h2.get? a=some o)->φ h2
def HOk (H:Hp) (h:Heap):Prop:=∀ a o,H a=some o->ye P w H h a o
end
section
variable {P:Program} {w:World} {H H':Hp} {h h':Heap} {a:Addr} {o:HO}
def ye.lt (x:ye P w H h a o):a < h.objs.size:=by
 cases o with
 | lst xs=>obtain ⟨_,_,_,_,e⟩:=x; exact Heap.lt_size e
 | tup xs=>obtain ⟨_,_,_,p⟩:=x; exact p.1.lt
 | dK kvs=>obtain ⟨_,_,_,_,o,_,_,e,_⟩:=x; exact Heap.lt_size e
 | dT kvs=>obtain ⟨_,_,_,_,o,_,_,e,_⟩:=x; exact Heap.lt_size e
 | set S n=>obtain ⟨o,_,_,_,e,_⟩:=x; exact Heap.lt_size e
 | ins C dx fs=>obtain ⟨_,_,_,e,_⟩:=x; exact Heap.lt_size e
 | own y=>obtain ⟨_,e⟩:=x; exact Heap.lt_size e
 | xd fs=>obtain ⟨_,⟨_,_,_,e,_⟩,_⟩:=x; exact Heap.lt_size e
 | rng lo hi=>obtain ⟨_,_,_,e⟩:=x; exact Heap.lt_size e
 | frz ob u=>obtain ⟨e,_⟩:=x; exact Heap.lt_size e
 | tbl ps=>exact Heap.lt_size (show h.get? a=some _ from x)
 | met f y=>exact Heap.lt_size (show h.get? a=some _ from x)
 | ext φ=>obtain ⟨_,⟨_,e⟩,_⟩:=x; exact Heap.lt_size e
def Paired.mapP {α β:Type} {F G:α->β->Prop}:∀ {l₁:List α} {l₂:List β},Paired F l₁ l₂->(∀ a b,F a b->G a b)->Paired G l₁ l₂
 | _,_,.nil,_=>.nil
 | _,_,.cons r t,f=>.cons (f _ _ r) (Paired.mapP t f)
def ye.stay (x:ye P w H h a o) (k:∀ b u,(b=a \/ H b=some (.own a))->h.get? b=some u->h'.get? b=some u)
  (ho:∀ b,H b=some (.own a)->H' b=some (.own a)) (ht:∀ b xs,H b=some (.tup xs)->H' b=some (.tup xs)):ye P w H' h' a o:=by
 induction o with
 | lst xs=>obtain ⟨z,its,n,r,e⟩:=x; exact ⟨z,its,n,r,k _ _ (.inl rfl) e⟩
 | tup xs=>obtain ⟨z,its,r,⟨ob,e,c⟩,od,ed,cd⟩:=x; exact ⟨z,its,r,⟨ob,k _ _ (.inl rfl) e,c⟩,od,k _ _ (.inl rfl) ed,cd⟩
 | dK kvs=>obtain ⟨z,y,vs,r,ob,es,ep,e,c⟩:=x; exact ⟨z,y,vs,r,ob,es,ep,k _ _ (.inl rfl) e,c⟩
 | dT kvs =>
  obtain ⟨z,y,xs,r,ob,es,ep,e,c⟩:=x
  exact ⟨z,y,xs,Paired.mapP r λp q z=>⟨z.1,ht _ _ z.2.1,z.2.2⟩,ob,es,ep,k _ _ (.inl rfl) e,c⟩
 | set S n=>obtain ⟨ob,es,ep,t,e,c⟩:=x; exact ⟨ob,es,ep,t,k _ _ (.inl rfl) e,c⟩
 | ins C dx fs =>
  obtain ⟨d,z,ne,e,mA,⟨od,es,ep,e2,c⟩,r⟩:=x
  exact ⟨ho _ d,z,ne,k _ _ (.inl rfl) e,mA,⟨od,es,ep,k _ _ (.inr d) e2,c⟩,r⟩
 | own y=>obtain ⟨ob,e⟩:=x; exact ⟨ob,k _ _ (.inl rfl) e⟩
 | xd fs=>obtain ⟨mA,⟨od,es,ep,e,c⟩,r⟩:=x; exact ⟨mA,⟨od,es,ep,k _ _ (.inl rfl) e,c⟩,r⟩
 | rng lo hi=>obtain ⟨t,u,v,e⟩:=x; exact ⟨t,u,v,k _ _ (.inl rfl) e⟩
 | frz ob u ih=>obtain ⟨e,q⟩:=x; exact ⟨k _ _ (.inl rfl) e,ih q⟩
 | tbl ps =>
  have e:h.get? a=some { cls:=.none,data:=.fields ps }:=x
  show h'.get? a=some { cls:=.none,data:=.fields ps }
  exact k a _ (.inl rfl) e
 | met f y =>
  have e:h.get? a=some (W.methodObj (.ref f) (.ref y)):=x
  show h'.get? a=some (W.methodObj (.ref f) (.ref y))
  exact k a _ (.inl rfl) e
 | ext φ=>obtain ⟨p,⟨o,e⟩,st⟩:=x; exact ⟨st _ _ p λo q=>k _ _ (.inl rfl) q,⟨o,k _ _ (.inl rfl) e⟩,st⟩
def HOk.lt (x:HOk P w H h) (e:H a=some o):a < h.objs.size:=(x a o e).lt
def HOk.fresh (x:HOk P w H h) (e:h.objs.size <= a):H a=none:=by
 cases q:H a with
 | none=>rfl
 | some u=>exact absurd (Nat.lt_of_lt_of_le (x.lt q) e) (Nat.lt_irrefl _)
def HOk.kept (x:HOk P w H h) (k:∀ b u,h.get? b=some u->h'.get? b=some u):HOk P w H h':=λa o e =>
 (x a o e).stay (λb u _ q=>k b u q) (λ_ q=>q) λ_ _ q=>q
def HOk.laid (x:HOk P w H h) (k:∀ b u,h.get? b=some u->h'.get? b=some u) (hp:h.objs.size <= a) (new:ye P w (upd H a o) h' a o):HOk P w (upd H a o) h':=λb u e=>by
 have hn:=x.fresh hp
 by_cases hb:b=a
 ·subst hb; rw [zg] at e; cases e; exact new
 ·rw [zi hb] at e
  exact (x b u e).stay (λc v _ q=>k c v q) (λc q=>by rw [zi (zf q hn)]; exact q) λc xs q=>by rw [zi (zf q hn)]; exact q
end
def Rd (H:Hp) (a:Addr) (u:HO):Prop:=H a=some u \/ ∃ o,H a=some (.frz o u)
def Rd.ok {P:Program} {w:World} {H:Hp} {h:Heap} {a:Addr} {u:HO} (r:Rd H a u) (x:HOk P w H h):ye P w H h a u:=by
 rcases r with r | ⟨o,r⟩
 ·exact x a u r
 ·obtain ⟨_,q⟩:=x a _ r
  exact q
def Mut:Option HO->Prop
 | some (.lst _)=>True
 | some (.dK _)=>True
 | some (.dT _)=>True
 | some (.set _ _)=>True
 | some (.ins _ _ _)=>True
 | some (.ext _)=>True
 | _=>False
section
variable {P:Program} {w:World} {H:Hp} {h h':Heap} {x e:Addr} {o':HO}
def HOk.write (ok:HOk P w H h) (mu:Mut (H x)) (he:e=x \/ H e=some (.own x)) (k:∀ b u,b ≠ e->h.get? b=some u->h'.get? b=some u) (heo:∃ u,h'.get? e=some u)
  (new:ye P w (upd H x o') h' x o'):HOk P w (upd H x o') h':=λb u q=>by
 have nown:∀ c y,H c=some (.own y)->c ≠ x:=λc y r z=>by subst z; rw [r] at mu; exact mu
 have ntup:∀ c xs,H c=some (.tup xs)->c ≠ x:=λc xs r z=>by subst z; rw [r] at mu; exact mu
 by_cases hb:b=x
 ·subst hb; rw [zg] at q; cases q; exact new
 ·rw [zi hb] at q
  by_cases hbe:b=e
  ·have q':H b=some (.own x):=by
    rcases he with z | z
    ·exact absurd (hbe.trans z) hb
    ·rw [hbe]; exact z
   rw [q] at q'; cases q'
   obtain ⟨v,hv⟩:=heo
   exact ⟨v,by rw [hbe]; exact hv⟩
  ·refine (ok b u q).stay (λc v hc r=>k c v ?_ r) (λc r=>by rw [zi (nown c b r)]; exact r) λc xs r=>by rw [zi (ntup c xs r)]; exact r
   rcases hc with rfl | hc
   ·exact hbe
   ·rintro rfl
    rcases he with z | z
    ·exact nown c b hc z
    ·rw [hc] at z; cases z; exact hb rfl
end
structure Un (fs ex:List Addr) (H H':Hp) (h h':Heap):Prop where
 keep:∀ b o,h.get? b=some o->H b=none->b ∉ fs->b ∉ ex->h'.get? b=some o
 slot:∀ b o,h.get? b=some o->H b=none->b ∈ fs->b ∉ ex->∃ sl,h'.get? b=some { o with slots:=sl }
 free:∀ b o,h.get? b=some o->H b=none->b ∉ ex->H' b=none
 there:∀ b o,h.get? b=some o->b ∉ ex->∃ o',h'.get? b=some o'
 tups:∀ b xs,H b=some (.tup xs)->H' b=some (.tup xs)
 frzs:∀ b o u,H b=some (.frz o u)->H' b=some (.frz o u)
 tbls:∀ b ps,H b=some (.tbl ps)->∃ more,H' b=some (.tbl (ps ++ more))
section
variable {fs fs' ex ex':List Addr} {H H1 H2:Hp} {h h1 h2 h':Heap} {a x e:Addr} {o:HO}
def Un.any (u:Un fs ex H H1 h h1) {b:Addr} {ob:Obj} (q:h.get? b=some ob) (n:H b=none) (hx:b ∉ ex):∃ sl,h1.get? b=some { ob with slots:=sl }:=by
 by_cases hb:b ∈ fs
 ·exact u.slot b ob q n hb hx
 ·exact ⟨ob.slots,u.keep b ob q n hb hx⟩
def Un.trans (a:Un fs ex H H1 h h1) (b:Un fs ex H1 H2 h1 h2):Un fs ex H H2 h h2 where
 keep:=λc ob q n hc hx=>b.keep c ob (a.keep c ob q n hc hx) (a.free c ob q n hx) hc hx
 slot:=λc ob q n hc hx=>by
  obtain ⟨sl,e1⟩:=a.slot c ob q n hc hx
  obtain ⟨sl',e2⟩:=b.slot c _ e1 (a.free c ob q n hx) hc hx
  exact ⟨sl',e2⟩
 free:=λc ob q n hx=>by
  obtain ⟨o',e1⟩:=a.there c ob q hx
  exact b.free c o' e1 (a.free c ob q n hx) hx
 there:=λc ob q hx=>by
  obtain ⟨o',e1⟩:=a.there c ob q hx
  exact b.there c o' e1 hx
 tups:=λc xs q=>b.tups c xs (a.tups c xs q)
 frzs:=λc ob xs q=>b.frzs c ob xs (a.frzs c ob xs q)
 tbls:=λc ps q=>by
  obtain ⟨m1,e1⟩:=a.tbls c ps q
  obtain ⟨m2,e2⟩:=b.tbls c _ e1
  exact ⟨m1 ++ m2,by rw [e2,Array.append_assoc]⟩
def Un.kept (k:∀ b u,h.get? b=some u->h'.get? b=some u):Un fs ex H H h h' :=
 ⟨λb ob q _ _ _=>k b ob q,λb ob q _ _ _=>⟨ob.slots,k b ob q⟩,λ_ _ _ n _=>n,λb ob q _=>⟨ob,k b ob q⟩,λ_ _ q=>q,λ_ _ _ q=>q,λ_ ps q=>⟨#[],by rw [q]; simp⟩⟩
def Un.refl:Un fs ex H H h h:=Un.kept λ_ _ q=>q
def Un.laid (k:∀ b u,h.get? b=some u->h'.get? b=some u) (hp:h.objs.size <= a) (hn:H a=none):Un fs ex H (upd H a o) h h' where
 keep:=λb u q _ _ _=>k b u q
 slot:=λb u q _ _ _=>⟨u.slots,k b u q⟩
 free:=λb u q n _=>by rw [zi (Nat.ne_of_lt (Nat.lt_of_lt_of_le (Heap.lt_size q) hp))]; exact n
 there:=λb u q _=>⟨u,k b u q⟩
 tups:=λb xs q=>by rw [zi (zf q hn)]; exact q
 frzs:=λb u xs q=>by rw [zi (zf q hn)]; exact q
 tbls:=λb ps q=>⟨#[],by rw [zi (zf q hn),q]; simp⟩
def Un.write (mu:Mut (H x)) (he:e=x \/ H e=some (.own x)) (k:∀ b u,b ≠ e->h.get? b=some u->h'.get? b=some u) (heo:∃ u,h'.get? e=some u):Un fs ex H (upd H x o) h h':=by
 have hx:∀ b,H b=none->b ≠ x:=λb n z=>by subst z; rw [n] at mu; exact mu
 have hb:∀ b,H b=none->b ≠ e:=λb n z=>by
  subst z
  rcases he with r | r
  ·exact hx b n r
  ·rw [n] at r; cases r
 have hm:∀ b u,H b=some u->¬ Mut (some u)->b ≠ x:=λb u q nm z=>by subst z; rw [q] at mu; exact nm mu
 refine ⟨λb u q n _ _=>k b u (hb b n) q,λb u q n _ _=>⟨u.slots,k b u (hb b n) q⟩,λb u q n _=>by rw [zi (hx b n)]; exact n,λb u q _=>?_,
  λb xs q=>by rw [zi (hm b _ q λz=>z)]; exact q,λb u xs q=>by rw [zi (hm b _ q λz=>z)]; exact q,λb ps q=>⟨#[],by rw [zi (hm b _ q λz=>z),q]; simp⟩⟩
 by_cases hbe:b=e
 ·subst hbe; exact heo
 ·exact ⟨u,k b u hbe q⟩
end
def trk (h:Heap) (H:Hp):List Addr:=(List.range h.objs.size).filter λa=>(H a).isSome
def hidT (h:Heap) (H:Hp):Heap:=W.hideAll h (trk h H)
def T1 (h:Heap) (H:Hp):(hidT h H).objs.size=h.objs.size:=W.hideAll_size _ _
def Qi {h:Heap} {H:Hp} {b:Addr} {o:Obj} (e:h.get? b=some o) (n:H b=none):(hidT h H).get? b=some o :=
 W.hideAll_get _ e λhm=>by
  have q:(H b).isSome=true:=(List.mem_filter.mp hm).2
  rw [n] at q; simp at q
def Nl {h:Heap} {H:Hp} {b:Addr} {o:Obj} (e:(hidT h H).get? b=some o):h.get? b=some o /\ H b=none:=by
 have e':h.get? b=some o:=W.of_hideAll (trk h H) e
 refine ⟨e',?_⟩
 cases q:H b with
 | none=>rfl
 | some x =>
  have hm:b ∈ trk h H:=List.mem_filter.mpr ⟨List.mem_range.mpr (Heap.lt_size e'),by simp [q]⟩
  have z:(hidT h H).get? b=none:=W.hideAll_none (trk h H) hm
  rw [z] at e; cases e
structure Mod (K:W.Frag) (mg:Str->Option Value) (base:Heap):Prop where
 kin:K.In base
 glob:base.Ns mainGlobals mg
 blt:∃ mb,base.Ns builtinsNs mb /\ ∀ x:Str,x ≠ "__name__"->mb x=bootBuiltins x
 nolimit:base.NoLimit
structure Cx where
 prog:Program
 w:World
 K:W.Frag
 mg:Str->Option Value
 base:Heap
 A:Around
 N:List Str
 s₀:Shared
 H₀:Hp
 env:Env
 outer:List Env
 stack:List Env
 ex:List Addr
 fn:Str->Bool
 calm:Bool
 pn:List (Addr × Obj)
 xe:Value->Shared->Prop
def frs (l:List Env):List Addr:=l.filterMap (·.frame)
abbrev Cx.fs (X:Cx):List Addr:=frs X.outer
def Vis (sc:Scope) (x:Str):Prop:=sc.names.lookup x=some .local \/ sc.names.lookup x=some .cell \/ sc.names.lookup x=some .free
def Loc (sc:Scope) (x:Str):Prop:=sc.names.lookup x=some .local \/ sc.names.lookup x=some .cell
def Look (env:Env) (h:Heap) (m:Str->Option Value) (x:Str) (u:Value):Prop :=
 (env.kindOf x=some .local /\ m x=some u) \/ ((env.kindOf x=some .cell \/ env.kindOf x=some .free) /\ ∃ c,env.cells.lookup x=some c /\ h.IsCell c (some u))
structure Cx.Ok (X:Cx):Prop where
 mod:Mod X.K X.mg X.base
 kind:X.env.scope.kind=.function
 glob:X.env.globals=mainGlobals
 blt:X.env.builtins=builtinsNs
 above:X.s₀.heap.objs.size <= X.env.locals
 inj:∀ x y c,X.env.cells.lookup x=some c->X.env.cells.lookup y=some c->x=y
 has:∀ x,(X.env.kindOf x=some .cell \/ X.env.kindOf x=some .free)->∃ c,X.env.cells.lookup x=some c
 cab:∀ x c,X.fn x=true->X.env.cells.lookup x=some c->X.s₀.heap.objs.size <= c
 hd:X.calm=true->X.A.handled=none
 frames:X.A.frames=some X.stack
 stk:X.stack=X.outer \/ (X.stack=X.env :: X.outer /\ X.env.frame=some X.env.locals)
 exf:∀ b ∈ X.ex,b ≠ X.env.locals /\ ∀ x c,X.env.cells.lookup x=some c->c ≠ b
 bs:∀ b o,X.base.get? b=some o->X.s₀.heap.get? b=some o /\ X.H₀ b=none
 bsz:X.base.objs.size <= X.s₀.heap.objs.size
 noex:∀ b o,X.base.get? b=some o->b ∉ X.ex
 exfs:∀ b ∈ X.ex,b ∉ X.fs
 funs:X.s₀.heap.FunFrames X.base X.outer
 frf:∀ b ∈ X.fs,X.H₀ b=none
structure Inv (X:Cx) (pn:List (Addr × Obj)) (σ:List (Option V)) (H:Hp) (s:Shared):Prop where
 ok:X.Ok
 os:s.os=X.s₀.os
 bare:AllBare s.gens
 base:Un X.fs X.ex X.H₀ H X.s₀.heap s.heap
 loc:∃ m,s.heap.Ns X.env.locals m /\ ∀ (i:Nat) (x:Str) (v:V),X.N[i]?=some x->σ[i]?=some (some v)->Vis X.env.scope x->∃ u,RelV v u /\ Look X.env s.heap m x u
 cell:∀ x c,X.env.cells.lookup x=some c->∃ v,s.heap.IsCell c v
 free:H X.env.locals=none
 freeC:∀ x c,X.env.cells.lookup x=some c->H c=none
 pin:∀ p ∈ X.pn ++ pn,s.heap.get? p.1=some p.2 /\ H p.1=none /\ p.1 ≠ X.env.locals /\ p.1 ∉ X.fs /\ ∀ v,p.2.data ≠ .cell v
 hok:HOk X.prog X.w H s.heap
 len:σ.length=X.N.length
section
variable {X:Cx} {pn:List (Addr × Obj)} {σ:List (Option V)} {H H':Hp} {s:Shared} {h':Heap}
def Cx.Ok.nofr (ok:X.Ok) {b:Addr} {o:Obj} (e:X.base.get? b=some o):b ∉ X.fs:=λhb=>by
 have:=(ok.funs.mem hb).1
 rw [e] at this; cases this
def Inv.bs (I:Inv X pn σ H s):∀ b o,X.base.get? b=some o->s.heap.get? b=some o /\ H b=none:=λb o e =>
 ⟨I.base.keep b o (I.ok.bs b o e).1 (I.ok.bs b o e).2 (I.ok.nofr e) (I.ok.noex b o e),I.base.free b o (I.ok.bs b o e).1 (I.ok.bs b o e).2 (I.ok.noex b o e)⟩
def Inv.bk (I:Inv X pn σ H s):∀ b o,X.base.get? b=some o->s.heap.get? b=some o:=λb o e=>(I.bs b o e).1
def Inv.mod (I:Inv X pn σ H s):Mod X.K X.mg X.base:=I.ok.mod
def Inv.kIn (I:Inv X pn σ H s):X.K.In s.heap:=I.ok.mod.kin.keeps I.bk
def Inv.lt (I:Inv X pn σ H s):X.env.locals < s.heap.objs.size:=let ⟨_,hn,_⟩:=I.loc; hn.lt
def Inv.sz (I:Inv X pn σ H s):X.s₀.heap.objs.size <= s.heap.objs.size:=Nat.le_trans I.ok.above (Nat.le_of_lt I.lt)
def Inv.nofs (I:Inv X pn σ H s) {a:Addr} (h:s.heap.objs.size <= a):a ∉ X.fs:=λhb=>by
 obtain ⟨_,o,ho,_⟩:=I.ok.funs.mem hb
 exact absurd (Nat.lt_of_lt_of_le (Heap.lt_size ho) (Nat.le_trans I.sz h)) (Nat.lt_irrefl _)
def Inv.cne (I:Inv X pn σ H s):∀ x c,X.env.cells.lookup x=some c->c ≠ X.env.locals:=λx c e z=>by
 obtain ⟨v,o,ho,hd⟩:=I.cell x c e
 obtain ⟨m,⟨o',es,ep,ho',hd',_⟩,_⟩:=I.loc
 rw [z,ho'] at ho; cases ho; rw [hd'] at hd; cases hd
def Inv.funs (I:Inv X pn σ H s):s.heap.FunFrames X.base X.outer:=by
 have all:∀ (l:List Env),(∀ b ∈ frs l,b ∈ X.fs)->X.s₀.heap.FunFrames X.base l->s.heap.FunFrames X.base l:=by
  intro l
  induction l with
  | nil=>intro _ _; trivial
  | cons env r ih =>
   intro hs hl
   obtain ⟨hk,⟨L,o,hf,hn,ho,hd⟩,hr⟩:=hl
   have hL:L ∈ X.fs:=hs L (by unfold frs; rw [List.filterMap_cons,hf]; exact List.mem_cons_self)
   obtain ⟨sl,e⟩:=I.base.slot L o ho (I.ok.frf L hL) hL λz=>I.ok.exfs L z hL
   exact ⟨hk,⟨L,_,hf,hn,e,hd⟩,ih (λb hb=>hs b (by unfold frs; rw [List.filterMap_cons,hf]; exact List.mem_cons_of_mem _ hb)) hr⟩
 exact all X.outer (λ_ hb=>hb) I.ok.funs
def Inv.stack (I:Inv X pn σ H s):s.heap.FunFrames X.base X.stack:=by
 rcases I.ok.stk with e | ⟨e,hf⟩
 ·rw [e]; exact I.funs
 ·rw [e]
  obtain ⟨m,hn,_⟩:=I.loc
  refine .cons (by rw [I.ok.kind]; decide) hf hn ?_ I.funs
  exact Heap.get?_none_of_le (Nat.le_trans I.ok.bsz I.ok.above)
def Inv.stkSub (I:Inv X pn σ H s):∀ b ∈ frs X.stack,b ∈ X.env.locals :: X.fs:=λb hb=>by
 rcases I.ok.stk with e | ⟨e,hf⟩
 ·rw [e] at hb; exact List.mem_cons_of_mem _ hb
 ·rw [e] at hb
  unfold frs at hb
  rw [List.filterMap_cons,hf] at hb
  exact hb
def Inv.stkFree (I:Inv X pn σ H s):∀ b ∈ frs X.stack,H b=none:=λb hb=>by
 rcases List.mem_cons.mp (I.stkSub b hb) with e | hb
 ·rw [e]; exact I.free
 ·obtain ⟨_,o,ho,_⟩:=I.ok.funs.mem hb
  exact I.base.free b o ho (I.ok.frf b hb) λz=>I.ok.exfs b z hb
def Inv.step {g':Array GenState} {t':Nat} {d':Drawn} {ch:List Addr} (I:Inv X pn σ H s)
  (hch:∀ b ∈ ch,(b ∈ X.ex \/ X.s₀.heap.objs.size <= b) /\ b ≠ X.env.locals /\ (∀ x c,X.env.cells.lookup x=some c->c ≠ b) /\ ∀ p ∈ X.pn ++ pn,p.1 ≠ b)
  (keep:∀ b o,b ≠ X.env.locals->b ∉ X.fs->b ∉ ch->s.heap.get? b=some o->H b=none->h'.get? b=some o)
  (slot:∀ b o,b ≠ X.env.locals->b ∈ X.fs->b ∉ ch->s.heap.get? b=some o->H b=none->∃ sl,h'.get? b=some { o with slots:=sl }) (free:∀ b o,b ∉ ch->s.heap.get? b=some o->H b=none->H' b=none)
  (there:∀ b o,b ∉ ch->s.heap.get? b=some o->∃ o',h'.get? b=some o')
  (tups:∀ b xs,H b=some (.tup xs)->H' b=some (.tup xs)) (frzs:∀ b o u,H b=some (.frz o u)->H' b=some (.frz o u)) (tbls:∀ b ps,H b=some (.tbl ps)->∃ more,H' b=some (.tbl (ps ++ more)))
  (ns:∀ m,s.heap.Ns X.env.locals m->h'.Ns X.env.locals m) (hok:HOk X.prog X.w H' h') (hg:AllBare g') :
  Inv X pn σ H' { s with heap:=h',gens:=g',drawn:=d',toks:=t' }:=by
 have neL:∀ b o,X.s₀.heap.get? b=some o->b ≠ X.env.locals:=λb o e=>Nat.ne_of_lt (Nat.lt_of_lt_of_le (Heap.lt_size e) I.ok.above)
 have neC:∀ b o,X.s₀.heap.get? b=some o->b ∉ X.ex->b ∉ ch:=λb o e hx hb=>by
  rcases (hch b hb).1 with z | z
  ·exact hx z
  ·exact absurd (Nat.lt_of_lt_of_le (Heap.lt_size e) z) (Nat.lt_irrefl _)
 have cellK:∀ x c,X.env.cells.lookup x=some c->∀ v,s.heap.IsCell c v->h'.IsCell c v:=λx c e v ⟨o,ho,hd⟩=>by
  have nch:c ∉ ch:=λz=>(hch c z).2.2.1 x c e rfl
  by_cases hc:c ∈ X.fs
  ·obtain ⟨sl,q⟩:=slot c o (I.cne x c e) hc nch ho (I.freeC x c e)
   exact ⟨_,q,hd⟩
  ·exact ⟨o,keep c o (I.cne x c e) hc nch ho (I.freeC x c e),hd⟩
 refine ⟨I.ok,I.os,hg,⟨λb o e n hb hx=>?_,λb o e n hb hx=>?_,λb o e n hx=>?_,λb o e hx=>?_,λb xs e=>tups b xs (I.base.tups b xs e),λb o xs e=>frzs b o xs (I.base.frzs b o xs e),λb ps e=>?_⟩,?_,λx c e=>?_,?_,λx c e=>?_,λp hp=>?_,hok,I.len⟩
 ·exact keep b o (neL b o e) hb (neC b o e hx) (I.base.keep b o e n hb hx) (I.base.free b o e n hx)
 ·obtain ⟨sl,e1⟩:=I.base.slot b o e n hb hx
  obtain ⟨sl',e2⟩:=slot b _ (neL b o e) hb (neC b o e hx) e1 (I.base.free b o e n hx)
  exact ⟨sl',e2⟩
 ·obtain ⟨o',e1⟩:=I.base.there b o e hx
  exact free b o' (neC b o e hx) e1 (I.base.free b o e n hx)
 ·obtain ⟨o',e1⟩:=I.base.there b o e hx
  exact there b o' (neC b o e hx) e1
 ·obtain ⟨m1,e1⟩:=I.base.tbls b ps e
  obtain ⟨m2,e2⟩:=tbls b _ e1
  exact ⟨m1 ++ m2,by rw [e2,Array.append_assoc]⟩
 ·obtain ⟨m,hn,hl⟩:=I.loc
  refine ⟨m,ns m hn,λi x v e1 e2 e3=>?_⟩
  obtain ⟨u,r,l⟩:=hl i x v e1 e2 e3
  refine ⟨u,r,?_⟩
  rcases l with l | ⟨k,c,e,z⟩
  ·exact .inl l
  ·exact .inr ⟨k,c,e,cellK x c e _ z⟩
 ·obtain ⟨v,z⟩:=I.cell x c e
  exact ⟨v,cellK x c e v z⟩
 ·obtain ⟨m,⟨o,_,_,ho,_⟩,_⟩:=I.loc
  exact free _ o (λz=>(hch _ z).2.1 rfl) ho I.free
 ·obtain ⟨v,o,ho,hd⟩:=I.cell x c e
  exact free c o (λz=>(hch c z).2.2.1 x c e rfl) ho (I.freeC x c e)
 ·obtain ⟨e,n,ne,nf,d⟩:=I.pin p hp
  have nch:p.1 ∉ ch:=λz=>(hch p.1 z).2.2.2 p hp rfl
  exact ⟨keep p.1 p.2 ne nf nch e n,free p.1 p.2 nch e n,ne,nf,d⟩
def Inv.un {t':Nat} (I:Inv X pn σ H s) (u:Un X.fs [] H H' s.heap h') (hok:HOk X.prog X.w H' h'):Inv X pn σ H' { s with heap:=h',toks:=t' }:=by
 obtain ⟨m,⟨o,es,ep,ho,r⟩,_⟩:=id I.loc
 obtain ⟨sl,hL⟩:=u.any ho I.free (by simp)
 exact I.step (g':=s.gens) (d':=s.drawn) (ch:=[]) (λ_ z=>nomatch z) (λb o _ hb _ e n=>u.keep b o e n hb (by simp)) (λb o _ hb _ e n=>u.slot b o e n hb (by simp)) (λb o _ e n=>u.free b o e n (by simp)) (λb o _ e=>u.there b o e (by simp)) u.tups u.frzs u.tbls (λm' hm=>by
  obtain ⟨o',es',ep',ho',r'⟩:=hm
  rw [ho] at ho'; cases ho'
  exact ⟨_,es',ep',hL,r'⟩) hok I.bare
def Inv.call {g':Array GenState} {t':Nat} {d':Drawn} {ch:List Addr} (I:Inv X pn σ H s) (u:Un (frs X.stack) ch H H' s.heap h') (hok:HOk X.prog X.w H' h') (hg:AllBare g')
  (hch:∀ b ∈ ch,(b ∈ X.ex \/ X.s₀.heap.objs.size <= b) /\ b ≠ X.env.locals /\ (∀ x c,X.env.cells.lookup x=some c->c ≠ b) /\ ∀ p ∈ X.pn ++ pn,p.1 ≠ b) :
  Inv X pn σ H' { s with heap:=h',gens:=g',drawn:=d',toks:=t' }:=by
 obtain ⟨m,⟨o,es,ep,ho,r⟩,_⟩:=id I.loc
 obtain ⟨sl,hL⟩:=u.any ho I.free λz=>(hch _ z).2.1 rfl
 exact I.step (ch:=ch) hch (λb o hL hb hc e n=>u.keep b o e n (λz=>(List.mem_cons.mp (I.stkSub b z)).elim hL hb) hc) (λb o _ _ hc e n=>u.any e n hc) (λb o hc e n=>u.free b o e n hc) (λb o hc e=>u.there b o e hc) u.tups u.frzs u.tbls (λm' hm=>by
  obtain ⟨o',es',ep',ho',r'⟩:=hm
  rw [ho] at ho'; cases ho'
  exact ⟨_,es',ep',hL,r'⟩) hok hg
def Inv.turned {t':Nat} {it:Addr} (I:Inv X pn σ H s) (k:∀ b o,b ≠ it->s.heap.get? b=some o->h'.get? b=some o) (hn:H it=none) (hL:it ≠ X.env.locals)
  (h1:it ∈ X.ex \/ X.s₀.heap.objs.size <= it) (h2:∀ x c,X.env.cells.lookup x=some c->c ≠ it) (h3:∀ p ∈ X.pn ++ pn,p.1 ≠ it):Inv X pn σ H { s with heap:=h',toks:=t' }:=by
 have nit:∀ b u,H b=some u->b ≠ it:=λb u e z=>by rw [z,hn] at e; cases e
 refine I.step (g':=s.gens) (d':=s.drawn) (ch:=[it]) (λb hb=>?_) (λb o _ _ hc e _=>k b o (λz=>hc (by simp [z])) e) (λb o _ _ hc e _=>⟨o.slots,k b o (λz=>hc (by simp [z])) e⟩) (λ_ _ _ _ n=>n)
  (λb o hc e=>⟨o,k b o (λz=>hc (by simp [z])) e⟩) (λ_ _ e=>e) (λ_ _ _ e=>e) (λb ps e=>⟨#[],by rw [e]; simp⟩) (λm hm=>?_) (λb u e=>?_) I.bare
 ·have e:b=it:=by simpa using hb
  subst e
  exact ⟨h1,hL,h2,h3⟩
 ·obtain ⟨o,es,ep,ho,r⟩:=hm
  exact ⟨o,es,ep,k _ o (Ne.symm hL) ho,r⟩
 ·refine (I.hok b u e).stay (λc v hc q=>k c v ?_ q) (λ_ q=>q) λ_ _ q=>q
  rcases hc with z | z
  ·rw [z]; exact nit b u e
  ·exact nit c _ z
def Inv.tok (I:Inv X pn σ H s) (t:Nat):Inv X pn σ H { s with toks:=t }:=I.un (h':=s.heap) (t':=t) Un.refl I.hok
def Inv.kept {t':Nat} (I:Inv X pn σ H s) (k:∀ b u,s.heap.get? b=some u->h'.get? b=some u):Inv X pn σ H { s with heap:=h',toks:=t' }:=I.un (Un.kept k) (I.hok.kept k)
def Inv.laid {a:Addr} {o:HO} {t':Nat} (I:Inv X pn σ H s) (k:∀ b u,s.heap.get? b=some u->h'.get? b=some u) (hp:s.heap.objs.size <= a) (new:ye X.prog X.w (upd H a o) h' a o) :
  Inv X pn σ (upd H a o) { s with heap:=h',toks:=t' }:=I.un (Un.laid k hp (I.hok.fresh hp)) (I.hok.laid k hp new)
def Inv.write {x e:Addr} {o:HO} {t':Nat} (I:Inv X pn σ H s) (mu:Mut (H x)) (he:e=x \/ H e=some (.own x)) (k:∀ b u,b ≠ e->s.heap.get? b=some u->h'.get? b=some u) (heo:∃ u,h'.get? e=some u)
  (new:ye X.prog X.w (upd H x o) h' x o):Inv X pn σ (upd H x o) { s with heap:=h',toks:=t' }:=I.un (Un.write mu he k heo) (I.hok.write mu he k heo new)
def Inv.weak {σ':List (Option V)} (I:Inv X pn σ H s) (hl:σ'.length=σ.length) (w:∀ (i:Nat) v,σ'[i]?=some (some v)->σ[i]?=some (some v)):Inv X pn σ' H s :=
 ⟨I.ok,I.os,I.bare,I.base,let ⟨m,hn,hl'⟩:=I.loc; ⟨m,hn,λi x v e1 e2 e3=>hl' i x v e1 (w i v e2) e3⟩,I.cell,I.free,I.freeC,I.pin,I.hok,hl.trans I.len⟩
def Inv.pins_of {pins':List (Addr × Obj)} (I:Inv X pn σ H s) (h:∀ p ∈ pins',s.heap.get? p.1=some p.2 /\ H p.1=none /\ p.1 ≠ X.env.locals /\ p.1 ∉ X.fs /\ ∀ v,p.2.data ≠ .cell v):Inv X pins' σ H s :=
 ⟨I.ok,I.os,I.bare,I.base,I.loc,I.cell,I.free,I.freeC,λp hp=>(List.mem_append.mp hp).elim (λz=>I.pin p (List.mem_append_left _ z)) (h p),I.hok,I.len⟩
def jk {N:List Str} (hN:N.Nodup) {i j:Nat} {x:Str} (a:N[i]?=some x) (b:N[j]?=some x):i=j:=by
 obtain ⟨h1,e1⟩:=List.getElem?_eq_some_iff.mp a
 obtain ⟨h2,e2⟩:=List.getElem?_eq_some_iff.mp b
 exact (List.getElem_inj hN).mp (e1.trans e2.symm)
def gx {M:Model} {A:Around} {E:Value->Shared->Prop} {i:Nat} {x:Str} {v:V} {u:Value} {Q:Unit->Shared->Prop} (I:Inv X pn σ H s) (hN:X.N.Nodup) (hi:X.N[i]?=some x) (hx:Loc X.env.scope x) (r:RelV v u)
  (h:∀ s',Inv X pn (σ.set i (some v)) H s'->(∃ a,Heap.SameBut a s.heap s'.heap /\ (a=X.env.locals \/ X.env.cells.lookup x=some a))->Q () s') (hf:X.fn x=true \/ X.env.scope.names.lookup x=some .local:=by first | exact .inl rfl | exact .inr rfl | assumption):wpAny M A (storeName X.env x u) Q E s:=by
 obtain ⟨m,hn,hl⟩:=id I.loc
 have hcls:(X.env.scope.kind == .class || (X.env.scope.kind == .module && X.env.locals != X.env.globals))=false:=by rw [I.ok.kind]; rfl
 have hiσ:i < σ.length:=by rw [I.len]; exact (List.getElem?_eq_some_iff.mp hi).1
 have cne:=I.cne
 have tracked:∀ {a:Addr} {h':Heap},(∃ o,s.heap.get? a=some o /\ H a=none)->Heap.SameBut a s.heap h'->HOk X.prog X.w H h':=λ{a h'} ha hs b ob e=>by
  obtain ⟨_,_,hfree⟩:=ha
  refine (I.hok b ob e).stay (λc w' hc q=>(hs.2 c ?_).trans q) (λ_ q=>q) λ_ _ q=>q
  rintro rfl
  rcases hc with rfl | hc
  ·rw [hfree] at e; cases e
  ·rw [hfree] at hc; cases hc
 rcases hx with hk | hk
 ·refine wpAny_storeName_local hk hn (λh' hn' hs=>?_) hcls
  obtain ⟨oL,_,_,hoL,_⟩:=id hn
  refine h _ ⟨I.ok,I.os,I.bare,⟨λb o e n hb hx=>?_,λb o e n hb hx=>?_,I.base.free,λb o e hx=>?_,I.base.tups,I.base.frzs,I.base.tbls⟩,⟨_,hn',λj y v' e1 e2 e3=>?_⟩,λy c e=>?_,I.free,I.freeC,λp hp=>?_,tracked ⟨oL,hoL,I.free⟩ hs,by simpa using I.len⟩ ⟨_,hs,.inl rfl⟩
  ·exact (hs.2 b (Nat.ne_of_lt (Nat.lt_of_lt_of_le (Heap.lt_size e) I.ok.above))).trans (I.base.keep b o e n hb hx)
  ·obtain ⟨sl,e1⟩:=I.base.slot b o e n hb hx
   exact ⟨sl,(hs.2 b (Nat.ne_of_lt (Nat.lt_of_lt_of_le (Heap.lt_size e) I.ok.above))).trans e1⟩
  ·obtain ⟨o',e1⟩:=I.base.there b o e hx
   exact ⟨o',(hs.2 b (Nat.ne_of_lt (Nat.lt_of_lt_of_le (Heap.lt_size e) I.ok.above))).trans e1⟩
  ·by_cases hj:j=i
   ·subst hj
    rw [hi] at e1; cases e1
    rw [List.getElem?_set_self hiσ] at e2
    cases e2
    exact ⟨u,r,.inl ⟨hk,by simp⟩⟩
   ·rw [List.getElem?_set_ne (Ne.symm hj)] at e2
    obtain ⟨u',r',q⟩:=hl j y v' e1 e2 e3
    refine ⟨u',r',?_⟩
    rcases q with ⟨k,e⟩ | ⟨k,c,e,z⟩
    ·refine .inl ⟨k,?_⟩
     have:y ≠ x:=λe=>hj (jk hN e1 (e ▸ hi))
     simp [this,e]
    ·exact .inr ⟨k,c,e,z.sameBut hs (cne y c e)⟩
  ·obtain ⟨w',z⟩:=I.cell y c e
   exact ⟨w',z.sameBut hs (cne y c e)⟩
  ·obtain ⟨e,n,ne,nf,d⟩:=I.pin p hp
   exact ⟨(hs.2 p.1 ne).trans e,n,ne,nf,d⟩
 ·have hfn:X.fn x=true:=by
   rcases hf with z | z
   ·exact z
   ·rw [z] at hk; cases hk
  obtain ⟨c,hc⟩:=I.ok.has x (.inl hk)
  obtain ⟨w',z⟩:=I.cell x c hc
  refine wpAny_storeName_cell I.ok.kind hk hc z (λh' hc' hs=>?_)
  obtain ⟨oc,hoc,hocd⟩:=id z
  refine h { s with heap:=h' } ⟨I.ok,I.os,I.bare,⟨λb o e n hb hx=>?_,λb o e n hb hx=>?_,I.base.free,λb o e hx=>?_,I.base.tups,I.base.frzs,I.base.tbls⟩,⟨m,hn.sameBut hs (Ne.symm (cne x c hc)),λj y v' e1 e2 e3=>?_⟩,λy c' e=>?_,I.free,I.freeC,λp hp=>?_,tracked ⟨oc,hoc,I.freeC x c hc⟩ hs,by simpa using I.len⟩ ⟨c,hs,.inr hc⟩
  ·exact (hs.2 b (Nat.ne_of_lt (Nat.lt_of_lt_of_le (Heap.lt_size e) (I.ok.cab x c hfn hc)))).trans (I.base.keep b o e n hb hx)
  ·obtain ⟨sl,e1⟩:=I.base.slot b o e n hb hx
   exact ⟨sl,(hs.2 b (Nat.ne_of_lt (Nat.lt_of_lt_of_le (Heap.lt_size e) (I.ok.cab x c hfn hc)))).trans e1⟩
  ·obtain ⟨o',e1⟩:=I.base.there b o e hx
   exact ⟨o',(hs.2 b (Nat.ne_of_lt (Nat.lt_of_lt_of_le (Heap.lt_size e) (I.ok.cab x c hfn hc)))).trans e1⟩
  ·by_cases hj:j=i
   ·subst hj
    rw [hi] at e1; cases e1
    rw [List.getElem?_set_self hiσ] at e2
    cases e2
    exact ⟨u,r,.inr ⟨.inl hk,c,hc,hc'⟩⟩
   ·rw [List.getElem?_set_ne (Ne.symm hj)] at e2
    obtain ⟨u',r',q⟩:=hl j y v' e1 e2 e3
    refine ⟨u',r',?_⟩
    rcases q with q | ⟨k,c',e,z'⟩
    ·exact .inl q
    ·refine .inr ⟨k,c',e,z'.sameBut hs ?_⟩
     rintro rfl
     exact hj (jk hN e1 (I.ok.inj _ _ _ e hc ▸ hi))
  ·by_cases hcc:c'=c
   ·subst hcc; exact ⟨_,hc'⟩
   ·obtain ⟨w2,z2⟩:=I.cell y c' e
    exact ⟨w2,z2.sameBut hs hcc⟩
  ·obtain ⟨e,n,ne,nf,d⟩:=I.pin p hp
   refine ⟨(hs.2 p.1 ?_).trans e,n,ne,nf,d⟩
   intro q
   rw [q,hoc] at e
   have q':oc=p.2:=Option.some.inj e
   exact d w' (by rw [<- q']; exact hocd)
def jd {M:Model} {A:Around} {E:Value->Shared->Prop} {i:Nat} {x:Str} {v:V} {u:Value} {Q:Unit->Shared->Prop} (I:Inv X pn σ H s) (hN:X.N.Nodup) (hi:X.N[i]?=some x) (hx:Loc X.env.scope x) (r:RelV v u)
  (h:∀ s',Inv X pn (σ.set i (some v)) H s'->Q () s') (hf:X.fn x=true \/ X.env.scope.names.lookup x=some .local:=by first | exact .inl rfl | exact .inr rfl | assumption):wpAny M A (storeName X.env x u) Q E s :=
 gx I hN hi hx r (λs' I' _=>h s' I') hf
def Inv.call' {s':Shared} {ch:List Addr} (I:Inv X pn σ H s) (ho:s'.os=s.os) (u:Un (frs X.stack) ch H H' s.heap s'.heap) (hok:HOk X.prog X.w H' s'.heap) (hg:AllBare s'.gens)
  (hch:∀ b ∈ ch,(b ∈ X.ex \/ X.s₀.heap.objs.size <= b) /\ b ≠ X.env.locals /\ (∀ x c,X.env.cells.lookup x=some c->c ≠ b) /\ ∀ p ∈ X.pn ++ pn,p.1 ≠ b):Inv X pn σ H' s':=by
 obtain ⟨h',g',d',t',o'⟩:=s'
 have e:o'=s.os:=ho
 subst e
 exact I.call (g':=g') (t':=t') (d':=d') u hok hg hch
end
abbrev XK:=Value->Option Addr->Hp->Prop
abbrev St:=List (Option V)
abbrev VK:=V->Hp->Prop
abbrev TE:=St->Hp->VK->Prop
abbrev TT:=St->Hp->(Bool->Hp->Prop)->Prop
abbrev TA:=St->Hp->(List V->Hp->Prop)->Prop
structure Ends where
 nx:St->Hp->Prop
 rt:VK
 bk:St->Hp->Prop:=λ_ _=>False
 ct:St->Hp->Prop:=λ_ _=>False
abbrev TS:=Ends->St->Hp->Prop
def EP (X:Cx) (pn:List (Addr × Obj)) (σ:St) (Q:VK) (u:Value) (s':Shared):Prop:=∃ v H',Inv X pn σ H' s' /\ RelV v u /\ Q v H'
def TP (X:Cx) (pn:List (Addr × Obj)) (σ:St) (Q:Bool->Hp->Prop) (b:Bool) (s':Shared):Prop:=∃ H',Inv X pn σ H' s' /\ Q b H'
def AP (X:Cx) (pn:List (Addr × Obj)) (σ:St) (Q:List V->Hp->Prop) (us:List Value) (s':Shared):Prop:=∃ vs H',Inv X pn σ H' s' /\ Vals vs us /\ Q vs H'
def SP (X:Cx) (pn:List (Addr × Obj)) (D:Ends) (f:Flow) (s':Shared):Prop :=
 match f with
 | .next=>∃ σ' H',Inv X pn σ' H' s' /\ D.nx σ' H'
 | .brk=>∃ σ' H',Inv X pn σ' H' s' /\ D.bk σ' H'
 | .cont=>∃ σ' H',Inv X pn σ' H' s' /\ D.ct σ' H'
 | .ret u=>∃ v σ' H',Inv X pn σ' H' s' /\ RelV v u /\ D.rt v H'
def PE (X:Cx) (e:Expr) (t:TE):Prop :=
 ∀ (pn:List (Addr × Obj)) (s:Shared) (σ:St) (H:Hp) (Q:VK),Inv X pn σ H s->t σ H Q->wpAny (model X.prog X.w) X.A (eval e X.env) (EP X pn σ Q) X.xe s
def PT (X:Cx) (e:Expr) (t:TT):Prop :=
 ∀ (pn:List (Addr × Obj)) (s:Shared) (σ:St) (H:Hp) (Q:Bool->Hp->Prop),Inv X pn σ H s->t σ H Q->wpAny (model X.prog X.w) X.A (isTrue e X.env (eval e X.env)) (TP X pn σ Q) X.xe s
def PW (X:Cx) (e:Expr) (t:TT):Prop :=
 ∀ (whole:Sem Value) (pn:List (Addr × Obj)) (s:Shared) (σ:St) (H:Hp) (Q:Bool->Hp->Prop),Inv X pn σ H s->t σ H Q->wpAny (model X.prog X.w) X.A (isTrue e X.env whole) (TP X pn σ Q) X.xe s
def PW.pt {X:Cx} {e:Expr} {t:TT} (h:PW X e t):PT X e t:=h _
def PA (X:Cx) (es:List Expr) (t:TA):Prop :=
 ∀ (pos:Pos) (pn:List (Addr × Obj)) (s:Shared) (σ:St) (H:Hp) (Q:List V->Hp->Prop),Inv X pn σ H s->t σ H Q->wpAny (model X.prog X.w) X.A (spliced (backTo pos (starEach es X.env))) (AP X pn σ Q) X.xe s
def PS (X:Cx) (st:Stmt) (t:TS):Prop :=
 ∀ (pn:List (Addr × Obj)) (s:Shared) (σ:St) (H:Hp) (D:Ends),Inv X pn σ H s->t D σ H->wpAny (model X.prog X.w) X.A (exec st X.env) (SP X pn D) X.xe s
def PSs (X:Cx) (st:List Stmt) (t:TS):Prop :=
 ∀ (pn:List (Addr × Obj)) (s:Shared) (σ:St) (H:Hp) (D:Ends),Inv X pn σ H s->t D σ H->wpAny (model X.prog X.w) X.A (execs st X.env) (SP X pn D) X.xe s
def thn {α:Type} {t:Sem α} {Q Q':α->Shared->Prop} {M:Model} {A:Around} {E:Value->Shared->Prop} {s:Shared} (h:wpAny M A t Q E s) (hQ:∀ a s,Q a s->Q' a s):wpAny M A t Q' E s:=wpAny_mono h hQ λ_ _ x=>x
section
variable {X:Cx}
def tVar (i:Nat):TE:=λσ H Q=>∃ v,σ[i]?=some (some v) /\ Q v H
def tC (v:V):TE:=λ_ H Q=>Q v H
def wf {i:Nat} {x:Str} {pos:Pos} (hN:X.N[i]?=some x) (hv:Vis X.env.scope x) (hd:(x == ("__debug__" : Str))=false:=by decide) (hcd:(x == ("__classdict__" : Str))=false:=by decide):PE X (.Name x pos) (tVar i):=by
 intro pn s σ H Q I h
 obtain ⟨v,e,h⟩:=h
 obtain ⟨m,hn,hl⟩:=I.loc
 obtain ⟨u,r,l⟩:=hl i x v hN e hv
 have fin:EP X pn σ Q u s:=⟨v,H,I,r,h⟩
 rcases l with ⟨hk,hm⟩ | ⟨hk,c,hc,hcell⟩
 ·exact wpAny_Name (wpAny_loadName_local I.ok.kind hk hn hm fin) hd
 ·rcases hk with hk | hk
  ·exact wpAny_Name (wpAny_loadName_cell I.ok.kind hk hc hcell fin) hd
  ·exact wpAny_Name (wpAny_loadName_free I.ok.kind hk hc hcell fin hcd) hd
def Kj {i j pos}:PE X (.Constant (.int i) j pos) (tC (.int i)):=λ_ _ _ H _ I h=>wpAny_Constant_int ⟨.int i,H,I.tok _,⟨_,rfl⟩,h⟩
def G9 {b j pos}:PE X (.Constant (.bool b) j pos) (tC (.bl b)):=λ_ _ _ H _ I h=>Constant_bool ⟨.bl b,H,I,rfl,h⟩
def Kh {j pos}:PE X (.Constant .none j pos) (tC .non):=λ_ _ _ H _ I h=>Constant_none ⟨.non,H,I,rfl,h⟩
def Kc {x j pos}:PE X (.Constant (.str x) j pos) (tC (.str x)):=λ_ _ _ H _ I h=>Calls.Constant_str ⟨.str x,H,I.tok _,⟨_,rfl⟩,h⟩
def Gl (X:Cx) (x:Str):Prop:=X.env.kindOf x=some .globalImplicit
def v8 {E:Value->Shared->Prop} {pn:List (Addr × Obj)} {s:Shared} {σ:St} {H:Hp} {x:Str} {u:Value} {pos:Pos} {Q:Value->Shared->Prop} (I:Inv X pn σ H s) (hg:Gl X x) (hm:X.mg x=some u) (h:Q u s)
  (hd:(x == ("__debug__" : Str))=false:=by decide):wpAny (model X.prog X.w) X.A (eval (.Name x pos) X.env) Q E s :=
 Calls.Name_function_global I.ok.kind hg (Calls.loadGlobal_global (by rw [I.ok.glob]; exact I.mod.glob.keeps I.bk) hm h) hd
def uu {E:Value->Shared->Prop} {pn:List (Addr × Obj)} {s:Shared} {σ:St} {H:Hp} {x:Str} {u:Value} {pos:Pos} {Q:Value->Shared->Prop} (I:Inv X pn σ H s) (hg:Gl X x) (hm:X.mg x=none) (hv:bootBuiltins x=some u) (h:Q u s)
  (hn:x ≠ "__name__":=by decide) (hd:(x == ("__debug__" : Str))=false:=by decide):wpAny (model X.prog X.w) X.A (eval (.Name x pos) X.env) Q E s:=by
 obtain ⟨mb,h1,h2⟩:=I.mod.blt
 exact Calls.Name_function_global I.ok.kind hg (Calls.loadGlobal_builtin (by rw [I.ok.glob]; exact I.mod.glob.keeps I.bk) hm (by rw [I.ok.blt]; exact h1.keeps I.bk) ((h2 x hn).trans hv) h) hd
def N8 {x:Str} {v:V} {u:Value} {pos:Pos} (hg:Gl X x) (hm:X.mg x=some u) (r:RelV v u) (hd:(x == ("__debug__" : Str))=false:=by decide):PE X (.Name x pos) (tC v) :=
 λ_ _ _ H _ I h=>v8 I hg hm ⟨v,H,I,r,h⟩ hd
def Nd {x:Str} {v:V} {u:Value} {pos:Pos} (hg:Gl X x) (hm:X.mg x=none) (hv:bootBuiltins x=some u) (r:RelV v u) (hn:x ≠ "__name__":=by decide) (hd:(x == ("__debug__" : Str))=false:=by decide):PE X (.Name x pos) (tC v) :=
 λ_ _ _ H _ I h=>uu I hg hm hv ⟨v,H,I,r,h⟩ hn hd
variable {a b:Expr} {ta tb:TE} {pos:Pos}
variable {tA tB':TT} {rest:List Expr}
def tOr (t u:TT):TT:=λσ H Q=>t σ H λc H1=>if c=true then Q true H1 else u σ H1 Q
def tNot (t:TT):TT:=λσ H Q=>t σ H λc H1=>Q (!c) H1
def K3 (ha:PT X a tA):PW X (.BoolOp .Or [a] pos) tA:=by
 intro wh pn s σ H Q I h
 refine isTrue_or (thn (ha pn s σ H Q I h) λc s1 e=>?_)
 cases c with
 | false=>exact isTrue_or_nil e
 | true=>exact e
def G4 (ha:PT X a tA) (hb:PW X (.BoolOp .Or (b :: rest) pos) tB'):PW X (.BoolOp .Or (a :: b :: rest) pos) (tOr tA tB'):=by
 intro wh pn s σ H Q I h
 refine isTrue_or (thn (ha pn s σ H _ I h) λc s1 ⟨H1,I1,q1⟩=>?_)
 cases c with
 | true=>exact ⟨H1,I1,q1⟩
 | false=>exact hb wh pn s1 σ H1 Q I1 q1
def K5 (ha:PT X a tA):PT X (.UnaryOp .Not a pos) (tNot tA):=by
 intro pn s σ H Q I h
 exact isTrue_not (ha pn s σ H (λc H1=>Q (!c) H1) I h)
def Hw (ta tb:TE):TE:=λσ H Q=>ta σ H λx H1=>∃ c,x=.bl c /\ if c=true then tb σ H1 Q else Q (.bl false) H1
def Ht (ta:TE):TE:=λσ H Q=>ta σ H λx H1=>∃ c,x=.bl c /\ Q (.bl (!c)) H1
def Kf {op} {t:TE} (h:PE X a t):PE X (.BoolOp op [a] pos) t:=λpn s σ H Q I hw=>BoolOp_one (h pn s σ H Q I hw)
def Kn (ha:PE X a ta) (hb:PE X (.BoolOp .And (b :: rest) pos) tb):PE X (.BoolOp .And (a :: b :: rest) pos) (Hw ta tb):=by
 intro pn s σ H Q I h
 refine BoolOp_and (thn (ha pn s σ H _ I h) λv s1 ⟨x,H1,I1,r1,q1⟩=>?_)
 obtain ⟨c,rfl,q1⟩:=q1
 cases r1
 refine wpAny_truthy_bool ?_
 cases c with
 | true=>exact hb pn s1 σ H1 Q I1 q1
 | false=>exact ⟨.bl false,H1,I1,rfl,q1⟩
def Kg (ha:PE X a ta):PE X (.UnaryOp .Not a pos) (Ht ta):=by
 intro pn s σ H Q I h
 refine UnaryOp_ (thn (ha pn s σ H _ I h) λv s1 ⟨x,H1,I1,r1,q1⟩=>?_)
 obtain ⟨c,rfl,q1⟩:=q1
 cases r1
 exact not_of (wpAny_truthy_bool ⟨.bl (!c),H1,I1,rfl,q1⟩)
def tIf (t:TT) (ta tb:TE):TE:=λσ H Q=>t σ H λc H1=>if c=true then ta σ H1 Q else tb σ H1 Q
def Rn {c:Expr} (hc:PT X c tA) (ha:PE X a ta) (hb:PE X b tb):PE X (.IfExp c a b pos) (tIf tA ta tb):=by
 intro pn s σ H Q I h
 refine wpAny_IfExp (thn (hc pn s σ H _ I h) λd s1 ⟨H1,I1,q1⟩=>?_)
 cases d with
 | true=>exact ha pn s1 σ H1 Q I1 q1
 | false=>exact hb pn s1 σ H1 Q I1 q1
end
def SqL (K:W.Frag) (H:Hp) (a:Addr) (xs:List V):Prop :=
 Rd H a (.lst xs) \/
  ∃ (o:Obj) (its:Array Value) (n:Nat),K.lookup a=some o /\ o.cls=.type "list" /\ o.dict=none /\ o.data=.seq its n /\ its.size <= sizeLine /\ Vals xs its.toList
def SqT (K:W.Frag) (H:Hp) (a:Addr) (xs:List V):Prop :=
 Rd H a (.tup xs) \/
  ∃ (o:Obj) (its:Array Value) (n:Nat),K.lookup a=some o /\ o.cls=.type "tuple" /\ o.data=.seq its n /\ its.size <= sizeLine /\ Vals xs its.toList
def absV:Value->Option V
 | .none=>some .non
 | .bool b=>some (.bl b)
 | .int i _=>some (.int i)
 | .str x _=>some (.str x)
 | .bytes b _=>some (.byt b)
 | .float b _=>some (.flt b)
 | .ref a=>some (.ref a)
 | .type n=>some (.ty n)
 | _=>none
def RelV.abs {x:V} {u:Value} (r:RelV x u):absV u=some x:=by
 cases x with
 | non=>cases r; rfl
 | bl _=>cases r; rfl
 | int _=>obtain ⟨t,rfl⟩:=r; rfl
 | str _=>obtain ⟨t,rfl⟩:=r; rfl
 | byt _=>obtain ⟨t,rfl⟩:=r; rfl
 | flt _=>obtain ⟨t,rfl⟩:=r; rfl
 | ref _=>cases r; rfl
 | ty _=>cases r; rfl
def RelV.inj {x y:V} {u:Value} (r:RelV x u) (q:RelV y u):x=y:=Option.some.inj (r.abs.symm.trans q.abs)
def Vals.inj:∀ {xs ys:List V} {us:List Value},Vals xs us->Vals ys us->xs=ys
 | _,_,_,.nil,.nil=>rfl
 | _,_,_,.cons r t,.cons r' t'=>by rw [r.inj r',Vals.inj t t']
section
variable {X:Cx} {pn:List (Addr × Obj)} {σ:St} {H:Hp} {s:Shared} {a:Addr} {xs ys:List V}
def SqL.of {K:W.Frag} (h:H a=some (.lst xs)):SqL K H a xs:=.inl (.inl h)
def SqT.of {K:W.Frag} (h:H a=some (.tup xs)):SqT K H a xs:=.inl (.inl h)
def Inv.list (I:Inv X pn σ H s) (h:SqL X.K H a xs):∃ its:List Value,Vals xs its /\ PlainL s.heap a its.toArray /\ xs.length <= sizeLine:=by
 rcases h with h | ⟨o,its,n,hk,hc,hd,hs,hz,r⟩
 ·obtain ⟨z,its,n,r,e⟩:=h.ok I.hok
  exact ⟨its,r,⟨_,n,e,rfl,rfl,rfl⟩,z⟩
 ·refine ⟨its.toList,r,⟨o,n,I.kIn a o hk,hc,hd,by simpa using hs⟩,?_⟩
  have e:=r.length
  simp only [Array.length_toList] at e
  omega
def Inv.tuple (I:Inv X pn σ H s) (h:SqT X.K H a xs):∃ its:List Value,Vals xs its /\ IsTup s.heap a its.toArray /\ xs.length <= sizeLine:=by
 rcases h with h | ⟨o,its,n,hk,hc,hs,hz,r⟩
 ·obtain ⟨z,its,r,p⟩:=h.ok I.hok
  exact ⟨its,r,p.1,z⟩
 ·refine ⟨its.toList,r,⟨o,I.kIn a o hk,hc,n,by simpa using hs⟩,?_⟩
  have e:=r.length
  simp only [Array.length_toList] at e
  omega
def Inv.list_inj (I:Inv X pn σ H s) (h:SqL X.K H a xs) (h':SqL X.K H a ys):xs=ys:=by
 obtain ⟨its,r,⟨o,n,e,_,_,d⟩,_⟩:=I.list h
 obtain ⟨its',r',⟨o',n',e',_,_,d'⟩,_⟩:=I.list h'
 rw [e] at e'; cases e'
 rw [d] at d'
 injection d' with d1 _
 have:its=its':=by simpa using congrArg Array.toList d1
 subst this
 exact r.inj r'
def Inv.tuple_inj (I:Inv X pn σ H s) (h:SqT X.K H a xs) (h':SqT X.K H a ys):xs=ys:=by
 obtain ⟨its,r,⟨o,e,_,n,d⟩,_⟩:=I.tuple h
 obtain ⟨its',r',⟨o',e',_,n',d'⟩,_⟩:=I.tuple h'
 rw [e] at e'; cases e'
 rw [d] at d'
 injection d' with d1 _
 have:its=its':=by simpa using congrArg Array.toList d1
 subst this
 exact r.inj r'
end
abbrev Cx.wish (X:Cx) (E:Value->Shared->Prop):Cx:={ X with xe:=E }
abbrev Cx.nox (X:Cx):Cx:=X.wish λ_ _=>False
def Cx.Ok.wish {X:Cx} (ok:X.Ok) (E:Value->Shared->Prop):(X.wish E).Ok :=
 ⟨ok.mod,ok.kind,ok.glob,ok.blt,ok.above,ok.inj,ok.has,ok.cab,ok.hd,ok.frames,ok.stk,ok.exf,ok.bs,ok.bsz,ok.noex,ok.exfs,ok.funs,ok.frf⟩
def Cx.Ok.unwish {X:Cx} {E:Value->Shared->Prop} (ok:(X.wish E).Ok):X.Ok :=
 ⟨ok.mod,ok.kind,ok.glob,ok.blt,ok.above,ok.inj,ok.has,ok.cab,ok.hd,ok.frames,ok.stk,ok.exf,ok.bs,ok.bsz,ok.noex,ok.exfs,ok.funs,ok.frf⟩
section
variable {X:Cx} {pn:List (Addr × Obj)} {σ:St} {H:Hp} {s:Shared} {E:Value->Shared->Prop}
def Inv.wish (I:Inv X pn σ H s) (E:Value->Shared->Prop):Inv (X.wish E) pn σ H s:=⟨I.ok.wish E,I.os,I.bare,I.base,I.loc,I.cell,I.free,I.freeC,I.pin,I.hok,I.len⟩
def Inv.unwish (I:Inv (X.wish E) pn σ H s):Inv X pn σ H s:=⟨I.ok.unwish,I.os,I.bare,I.base,I.loc,I.cell,I.free,I.freeC,I.pin,I.hok,I.len⟩
def SP.unwish {D:Ends} {f:Flow} {s':Shared} (h:SP (X.wish E) pn D f s'):SP X pn D f s':=by
 cases f with
 | next=>obtain ⟨σ',H',I,q⟩:=h; exact ⟨σ',H',I.unwish,q⟩
 | brk=>obtain ⟨σ',H',I,q⟩:=h; exact ⟨σ',H',I.unwish,q⟩
 | cont=>obtain ⟨σ',H',I,q⟩:=h; exact ⟨σ',H',I.unwish,q⟩
 | ret u=>obtain ⟨v,σ',H',I,r,q⟩:=h; exact ⟨v,σ',H',I.unwish,r,q⟩
def PSs.nox {st:List Stmt} {t:TS} (h:PSs X.nox st t):PSs X st t:=λpn s σ H D I hw =>
 wpAny_mono (h pn s σ H D (I.wish _) hw) (λ_ _ q=>q.unwish) λ_ _ z=>False.elim z
end
section
variable {X:Cx} {st:Stmt} {rest:List Stmt} {t u:TS} {e:Expr} {te:TE} {pos:Pos}
def La:TS:=λD σ H=>D.nx σ H
def tSeq (t u:TS):TS:=λD σ H=>t { D with nx:=u D } σ H
def sw:PSs X [] La:=λ_ _ σ H _ I h=>wpAny_execs_nil ⟨σ,H,I,h⟩
def vp (h1:PS X st t) (h2:PSs X rest u):PSs X (st :: rest) (tSeq t u):=by
 intro pn s σ H D I h
 refine wpAny_execs_cons (thn (h1 pn s σ H { D with nx:=u D } I h) λf s1 q=>?_)
 cases f with
 | next =>
  obtain ⟨σ',H',I',q⟩:=q
  exact h2 pn s1 σ' H' D I' q
 | ret v=>exact q
 | brk=>exact q
 | cont=>exact q
def sv (h1:PS X st t):PSs X [st] t:=by
 intro pn s σ H D I h
 refine wpAny_execs_cons (thn (h1 pn s σ H D I h) λf s1 q=>?_)
 cases f with
 | next=>exact wpAny_execs_nil q
 | ret v=>exact q
 | brk=>exact q
 | cont=>exact q
def Inv.quiet {pn:List (Addr × Obj)} {σ:St} {H:Hp} {s:Shared} (I:Inv X pn σ H s):interactive X.env=false:=by simp [interactive,I.ok.kind]
def V7 (te:TE):TS:=λD σ H=>te σ H λ_ H1=>D.nx σ H1
def uf (he:PE X e te) (hs:swapsWith e none pos.line X.env=pure false:=by rfl):PS X (.Expr e pos) (V7 te):=by
 intro pn s σ H D I h
 exact wpAny_Expr_any (thn (he pn s σ H _ I h) λv s1 ⟨x,H1,I1,r1,q1⟩=>⟨σ,H1,I1,q1⟩) I.quiet hs
def tRet (te:TE):TS:=λD σ H=>te σ H D.rt
def Ph (he:PE X e te):PS X (.Return (some e) pos) (tRet te):=by
 intro pn s σ H D I h
 exact wpAny_Return_some (thn (he pn s σ H _ I h) λv s1 ⟨x,H1,I1,r1,q1⟩=>⟨x,σ,H1,I1,r1,q1⟩)
def tIfS (c:TT) (t u:TS):TS:=λD σ H=>c σ H λb H1=>if b=true then t D σ H1 else u D σ H1
def Rk {c:Expr} {a b:List Stmt} {tc:TT} (hc:PT X c tc) (ha:PSs X a t) (hb:PSs X b u):PS X (.If c a b pos) (tIfS tc t u):=by
 intro pn s σ H D I h
 refine wpAny_If (thn (hc pn s σ H _ I h) λd s1 ⟨H1,I1,q1⟩=>?_)
 cases d with
 | true=>exact ha pn s1 σ H1 D I1 q1
 | false=>exact hb pn s1 σ H1 D I1 q1
def Lb:TS:=λ_ _ _=>False
def Rj:PS X st Lb:=λ_ _ _ _ _ _ h=>h.elim
end
abbrev TG:=V->St->Hp->(St->Hp->Prop)->Prop
abbrev TGs:=List V->St->Hp->(St->Hp->Prop)->Prop
def PG (X:Cx) (target:Expr) (t:TG):Prop :=
 ∀ (pn:List (Addr × Obj)) (s:Shared) (σ:St) (H:Hp) (v:V) (u:Value) (Q:St->Hp->Prop),Inv X pn σ H s->RelV v u->t v σ H Q ->
  wpAny (model X.prog X.w) X.A (assign target X.env u) (λ_ s'=>∃ σ' H',Inv X pn σ' H' s' /\ Q σ' H') X.xe s
def PGs (X:Cx) (ts:List Expr) (t:TGs):Prop :=
 ∀ (pn:List (Addr × Obj)) (s:Shared) (σ:St) (H:Hp) (vs:List V) (us:List Value) (Q:St->Hp->Prop),Inv X pn σ H s->Vals vs us->t vs σ H Q ->
  wpAny (model X.prog X.w) X.A (assignInOrder ((assignEach ts X.env).map (·.2)) us) (λ_ s'=>∃ σ' H',Inv X pn σ' H' s' /\ Q σ' H') X.xe s
abbrev TSet:=V->V->V->Hp->(Hp->Prop)->Prop
def PSet (X:Cx) (t:TSet):Prop :=
 ∀ (pn:List (Addr × Obj)) (s:Shared) (σ:St) (H:Hp) (o i v:V) (ov iv u:Value) (Q:Hp->Prop),Inv X pn σ H s->RelV o ov->RelV i iv->RelV v u->t o i v H Q ->
  wpAny (model X.prog X.w) X.A (setItem ov iv u) (λ_ s'=>∃ H',Inv X pn σ H' s' /\ Q H') X.xe s
abbrev TIp:=V->V->Hp->VK->Prop
def PIp (X:Cx) (op:Operator) (t:TIp):Prop :=
 ∀ (pn:List (Addr × Obj)) (s:Shared) (σ:St) (H:Hp) (x y:V) (v u:Value) (Q:VK),Inv X pn σ H s->RelV x v->RelV y u->t x y H Q ->
  wpAny (model X.prog X.w) X.A (inplaceOp op v u) (EP X pn σ Q) X.xe s
section
variable {X:Cx} {pos:Pos}
def dy (i:Nat):TG:=λv σ H Q=>Q (σ.set i (some v)) H
def zu {i:Nat} {x:Str} (hN:X.N.Nodup) (hi:X.N[i]?=some x) (hx:Loc X.env.scope x) (hf:X.fn x=true \/ X.env.scope.names.lookup x=some .local:=by first | exact .inl rfl | exact .inr rfl | assumption):PG X (.Name x pos) (dy i):=by
 intro pn s σ H v u Q I r h
 exact wpAny_assign_Name (jd I hN hi hx r (λs' I'=>⟨_,H,I',h⟩) hf)
def gNil:TGs:=λvs σ H Q=>vs=[] /\ Q σ H
def W6 (t:TG) (u:TGs):TGs:=λvs σ H Q=>∃ v r,vs=v :: r /\ t v σ H λσ' H'=>u r σ' H' Q
def sx:PGs X [] gNil:=by
 intro pn s σ H vs us Q I r h
 obtain ⟨e,h⟩:=h
 subst e
 cases r
 exact assignInOrder_nil ⟨σ,H,I,h⟩
def yy {e:Expr} {es:List Expr} {t:TG} {u:TGs} (h1:PG X e t) (h2:PGs X es u)
  (hs:(assignEach (e :: es) X.env).map (·.2)=assign e X.env :: (assignEach es X.env).map (·.2):=by rfl):PGs X (e :: es) (W6 t u):=by
 intro pn s σ H vs us Q I r h
 obtain ⟨v,vr,e1,h⟩:=h
 subst e1
 cases r with
 | cons r rr =>
  rw [hs]
  refine assignInOrder_cons (thn (h1 pn s σ H _ _ _ I r h) λ_ s1 ⟨σ1,H1,I1,q1⟩=>?_)
  exact h2 pn s1 σ1 H1 _ _ Q I1 rr q1
def gTup (K:W.Frag) (n:Nat) (t:TGs):TG:=λv σ H Q=>∃ a xs,v=.ref a /\ SqT K H a xs /\ xs.length=n /\ t xs σ H Q
def K9 {es:List Expr} {k:Nat} {t:TGs} {n:Nat} (hc:X.calm=true) (h:PGs X es t)
  (hn:(assignEach es X.env).length=n:=by rfl) (hst:(assignEach es X.env).findIdx? (·.1)=none:=by rfl):PG X (.Tuple es k pos) (gTup X.K n t):=by
 intro pn s σ H v u Q I r hw
 obtain ⟨a,xs,e1,hq,hl,hw⟩:=hw
 subst e1
 cases r
 obtain ⟨its,rv,ht,hz⟩:=I.tuple hq
 refine assign_Tuple_tuple (I.ok.hd hc) ht (by simp [hn,<- hl,rv.length]) hst λh' hx=>?_
 have I1:Inv X pn σ H { s with heap:=h' }:=I.kept (t':=s.toks) λb o e=>hx b o (Nat.ne_of_lt (Heap.lt_size e)) e
 exact h pn _ σ H xs _ Q I1 (by simpa using rv) hw
def gSub (to ti:TE) (t:TSet):TG:=λv σ H Q=>to σ H λo H1=>ti σ H1 λi H2=>t o i v H2 λH3=>Q σ H3
def Ka {o i:Expr} {to ti:TE} {t:TSet} (ho:PE X o to) (hi:PE X i ti) (hs:PSet X t)
  (ha:∀ v,assign (.Subscript o i pos) X.env v=(do
   let ov <- holding [v] (eval o X.env)
   let iv <- holding [v,ov] (eval i X.env)
   standAt pos
   holding [v,ov,iv] (setItem ov iv v)
   release [v,ov,iv] []):=by intro _; rfl):PG X (.Subscript o i pos) (gSub to ti t):=by
 intro pn s σ H v u Q I r h
 rw [ha]
 refine wpAny_bind (wpAny_holding (thn (ho pn s σ H _ I h) λov s1 ⟨x,H1,I1,r1,q1⟩=>?_))
 refine wpAny_bind (wpAny_holding (thn (hi pn s1 σ H1 _ I1 q1) λiv s2 ⟨y,H2,I2,r2,q2⟩=>?_))
 refine wpAny_bind (wpAny_standAt (wpAny_bind (wpAny_holding (thn (hs pn s2 σ H2 x y v ov iv u _ I2 r1 r2 r q2) λ_ s3 ⟨H3,I3,q3⟩=>?_))))
 exact wpAny_release ⟨σ,H3,I3,q3⟩
def tAsg (te:TE) (g:TG):TS:=λD σ H=>te σ H λx H1=>g x σ H1 D.nx
def Pi {tg e:Expr} {te:TE} {g:TG} (he:PE X e te) (hg:PG X tg g) (hs:swapsWithSole [tg] e pos.line X.env=pure false:=by rfl) (hw:swappedStores [tg] e X.env=pure none:=by rfl)
  (h1:(assignEach [tg] X.env).map (·.2)=[assign tg X.env]:=by rfl):PS X (.Assign [tg] e pos) (tAsg te g):=by
 intro pn s σ H D I h
 refine wpAny_Assign_stores (thn (he pn s σ H _ I h) λv s1 ⟨x,H1,I1,r1,q1⟩=>?_) hs hw
 rw [h1]
 exact thn (hg pn s1 σ H1 x v _ I1 r1 q1) λ_ s2 q=>q
def Vw {i:Nat} {x:Str} {e:Expr} {te:TE} {pos':Pos} (hN:X.N.Nodup) (hi:X.N[i]?=some x) (hx:Loc X.env.scope x) (he:PE X e te) (hs:swapsWith e (some (.Name x pos')) pos.line X.env=pure false:=by rfl) (hf:X.fn x=true \/ X.env.scope.names.lookup x=some .local:=by first | exact .inl rfl | exact .inr rfl | assumption) :
  PS X (.Assign [.Name x pos'] e pos) (tAsg te (dy i)):=by
 intro pn s σ H D I h
 refine wpAny_Assign_Name (thn (he pn s σ H _ I h) λv s1 ⟨y,H1,I1,r1,q1⟩=>?_) hs
 exact jd I1 hN hi hx r1 (λs2 I2=>⟨_,H1,I2,q1⟩) hf
def Hv (to ti te:TE) (tget:V->V->Hp->VK->Prop) (tip:TIp) (tset:TSet):TS:=λD σ H=>to σ H λo H1=>ti σ H1 λi H2=>tget o i H2 λx H3=>te σ H3 λy H4=>tip x y H4 λz H5=>tset o i z H5 λH6=>D.nx σ H6
def PGet (X:Cx) (t:V->V->Hp->VK->Prop):Prop :=
 ∀ (pn:List (Addr × Obj)) (s:Shared) (σ:St) (H:Hp) (o i:V) (ov iv:Value) (Q:VK),Inv X pn σ H s->RelV o ov->RelV i iv->t o i H Q ->
  wpAny (model X.prog X.w) X.A (getItem ov iv) (EP X pn σ Q) X.xe s
def N3 {o i e:Expr} {to ti te:TE} {tget:V->V->Hp->VK->Prop} {tip:TIp} {tset:TSet} {op:Operator} {tpos:Pos} (ho:PE X o to) (hi:PE X i ti) (hg:PGet X tget) (he:PE X e te) (hp:PIp X op tip) (hs:PSet X tset)
  (ha:∀ ov iv new,augStore i ov iv new=(do holding [new,ov,iv] (setItem ov iv new); release [new,ov,iv] []; pure .next):=by intros; rfl):PS X (.AugAssign (.Subscript o i tpos) op e pos) (Hv to ti te tget tip tset):=by
 intro pn s σ H D I h
 refine wpAny_AugAssign_SubscriptAny (thn (ho pn s σ H _ I h) λov s1 ⟨x1,H1,I1,r1,q1⟩=>?_) ha
 refine thn (hi pn s1 σ H1 _ I1 q1) λiv s2 ⟨x2,H2,I2,r2,q2⟩=>?_
 refine thn (hg pn s2 σ H2 x1 x2 ov iv _ I2 r1 r2 q2) λold s3 ⟨x3,H3,I3,r3,q3⟩=>?_
 refine thn (he pn s3 σ H3 _ I3 q3) λv s4 ⟨x4,H4,I4,r4,q4⟩=>?_
 refine thn (hp pn s4 σ H4 x3 x4 old v _ I4 r3 r4 q4) λnew s5 ⟨x5,H5,I5,r5,q5⟩=>?_
 exact thn (hs pn s5 σ H5 x1 x2 x5 ov iv new _ I5 r1 r2 r5 q5) λ_ s6 ⟨H6,I6,q6⟩=>⟨σ,H6,I6,q6⟩
def ipI (f:Int->Int->Int):TIp:=λx y H Q=>∃ i j,x=.int i /\ y=.int j /\ Q (.int (f i j)) H
def Jl:PIp X .Add (ipI λi j=>i + j):=by
 intro pn s σ H x y v u Q I r1 r2 h
 obtain ⟨i,j,e1,e2,q⟩:=h
 subst e1; subst e2
 obtain ⟨t,rfl⟩:=r1
 obtain ⟨t',rfl⟩:=r2
 exact iadd_int ⟨.int _,H,I.tok _,⟨_,rfl⟩,q⟩
end
structure It where
 go:Nat->Hp->Prop
 yld:Nat->Hp->V->Hp->Prop
 stop:Nat->Hp->Prop
def FpOk (X:Cx) (pn:List (Addr × Obj)) (H:Hp) (b:Addr):Prop :=
 H b=none /\ b ≠ X.env.locals /\ b ∉ X.fs /\ (b ∈ X.ex \/ X.s₀.heap.objs.size <= b) /\ (∀ x c,X.env.cells.lookup x=some c->c ≠ b) /\ ∀ p ∈ X.pn ++ pn,p.1 ≠ b
def Inv.fpOk {X:Cx} {pn:List (Addr × Obj)} {σ:St} {H H':Hp} {s:Shared} {b:Addr} (I:Inv X pn σ H s) (hb:s.heap.objs.size <= b) (hn:H' b=none):FpOk X pn H' b:=by
 refine ⟨hn,Nat.ne_of_gt (Nat.lt_of_lt_of_le I.lt hb),I.nofs hb,.inr (Nat.le_trans I.sz hb),λx c e z=>?_,λp hp z=>?_⟩
 ·obtain ⟨v,q⟩:=I.cell x c e
  exact absurd (Nat.lt_of_lt_of_le q.lt (by rw [z]; exact hb)) (Nat.lt_irrefl _)
 ·exact absurd (Nat.lt_of_lt_of_le (Heap.lt_size (I.pin p hp).1) (by rw [z]; exact hb)) (Nat.lt_irrefl _)
structure Turn (P:Program) (w:World) (K:W.Frag) (tg:Expr) (J:It) (fp:List Addr) (it:Addr) (tn:Nat->Heap->Prop):Prop where
 mem:it ∈ fp
 obj:∀ i h,tn i h->∀ b ∈ fp,∃ o,h.get? b=some o /\ ∀ v,o.data ≠ .cell v
 keep:∀ i h h',tn i h->(∀ b ∈ fp,∀ o,h.get? b=some o->h'.get? b=some o)->tn i h'
 item:∀ (X:Cx),X.prog=P->X.w=w->X.K=K->X.calm=true->∀ (i:Nat) (pn:List (Addr × Obj)) (s:Shared) (σ:St) (H:Hp) (E:Value->Shared->Prop),Inv X pn σ H s->(∀ b ∈ fp,FpOk X pn H b)->tn i s.heap->J.go i H ->
  wpAny (model P w) X.A (pyNext (.ref it)) (λr s1=>∃ u,r=some u /\
   wpAny (model P w) X.A (letOwnedTupleGo tg (.ref it) u) (λ_ s2=>∃ x H',Inv X pn σ H' s2 /\ RelV x u /\ J.yld i H x H' /\ tn (i + 1) s2.heap /\ ∀ b ∈ fp,H' b=none) E s1) E s
 done:∀ (X:Cx),X.prog=P->X.w=w->X.K=K->X.calm=true->∀ (i:Nat) (pn:List (Addr × Obj)) (s:Shared) (σ:St) (H:Hp) (E:Value->Shared->Prop),Inv X pn σ H s->(∀ b ∈ fp,FpOk X pn H b)->tn i s.heap->J.stop i H ->
  wpAny (model P w) X.A (pyNext (.ref it)) (λr s1=>r=none /\ Inv X pn σ H s1) E s
 self:∀ (A:Around) (i:Nat) (s:Shared) (Q:Value->Shared->Prop) (E:Value->Shared->Prop),tn i s.heap->Q (.ref it) s->wpAny (model P w) A (pyIter (.ref it)) Q E s
abbrev TI:=St->Hp->(It->Hp->Prop)->Prop
def PIE (X:Cx) (pn:List (Addr × Obj)) (σ:St) (tg:Expr) (R:It->Hp->Prop) (itv:Value) (s2:Shared):Prop :=
 ∃ (it:Addr) (fp:List Addr) (tn:Nat->Heap->Prop) (J:It) (H':Hp),itv=.ref it /\ Inv X pn σ H' s2 /\ Turn X.prog X.w X.K tg J fp it tn /\ tn 0 s2.heap /\ (∀ b ∈ fp,FpOk X pn H' b) /\ R J H'
def PI (X:Cx) (tg iter:Expr) (wi:TI):Prop :=
 ∀ (pn:List (Addr × Obj)) (s:Shared) (σ:St) (H:Hp) (R:It->Hp->Prop),Inv X pn σ H s->wi σ H R ->
  wpAny (model X.prog X.w) X.A (eval iter X.env) (λv s1=>wpAny (model X.prog X.w) X.A (pyIter v) (PIE X pn σ tg R) X.xe s1) X.xe s
def T3 {M:Model} {A:Around} {E:Value->Shared->Prop} {s:Shared} {tg:Expr} {it:Addr} {u:Value} {o:Obj} {n:String} {vs:Array Value} {Q:Unit->Shared->Prop} (ho:s.heap.get? it=some o) (hc:o.cls=.type n) (hd:o.data=.fields vs)
  (hn:["enumerate", "zip", "dict_itemiterator", "dict_reverseitemiterator", "odict_iterator", "itertools.zip_longest", "itertools.pairwise"].contains n=false) (hQ:Q () s):wpAny M A (letOwnedTupleGo tg (.ref it) u) Q E s:=by
 unfold letOwnedTupleGo
 cases tg <;> first
  | exact wpAny_pure hQ
  | (cases u <;> first
    | exact wpAny_pure hQ
    | (refine wpAny_bind (wpAny_load ho ?_)
       rw [hc,hd]
       show wpAny M A (if (["enumerate", "zip", "dict_itemiterator", "dict_reverseitemiterator", "odict_iterator", "itertools.zip_longest", "itertools.pairwise"].contains n && vs[0]? == some (rawInt _))=true then _ else _) Q E s
       rw [if_neg (by intro h; rw [hn,Bool.false_and] at h; cases h)]
       exact wpAny_pure hQ))
def Itl (K:W.Frag) (a:Addr):It :=
 ⟨λi H=>∃ xs x,SqL K H a xs /\ xs[i]?=some x,λi H x H'=>H'=H /\ ∀ xs,SqL K H a xs->xs[i]?=some x,λi H=>∃ xs,SqL K H a xs /\ xs.length <= i⟩
def Itt (K:W.Frag) (a:Addr):It :=
 ⟨λi H=>∃ xs x,SqT K H a xs /\ xs[i]?=some x,λi H x H'=>H'=H /\ ∀ xs,SqT K H a xs->xs[i]?=some x,λi H=>∃ xs,SqT K H a xs /\ xs.length <= i⟩
def Itr (lo:Int) (n:Nat):It:=⟨λi _=>i < n,λi H x H'=>H'=H /\ x=.int (lo + i),λi _=>n <= i⟩
def Wz {P:Program} {w:World} {K:W.Frag} {tg:Expr} (a it:Addr):Turn P w K tg (Itl K a) [it] it (λi h=>h.IsListIter it a i) where
 mem:=by simp
 obj:=λi h st b hb=>by
  have e:b=it:=by simpa using hb
  subst e
  obtain ⟨o,e,c,d⟩:=st
  exact ⟨o,e,λv z=>by rw [d] at z; cases z⟩
 keep:=λi h h' st k=>st.at λo e=>k it (by simp) o e
 item:=by
  intro X hP hw hK hc i pn s σ H E I hf st hg
  subst hP hw hK
  obtain ⟨xs,x,hq,hx⟩:=hg
  obtain ⟨its,rv,p,hz⟩:=I.list hq
  obtain ⟨u,hu,ru⟩:=rv.get hx
  obtain ⟨f0,f1,f2,f3,f4,f5⟩:=hf it (by simp)
  refine wpAny_pyNext_list_item st p.isList (x:=u) (by simpa using hu) λh' st' sb=>?_
  have I1:Inv X pn σ H { s with heap:=h' }:=I.turned (t':=s.toks) (λb o hb e=>(sb.2 b hb).trans e) f0 f1 f3 f4 f5
  obtain ⟨o,e,c,d⟩:=id st'
  exact ⟨u,rfl,T3 (s:={ s with heap:=h' }) e c d (by decide) ⟨x,H,I1,ru,⟨rfl,λys hy=>by rw [I.list_inj hy hq]; exact hx⟩,st',λb hb=>(hf b hb).1⟩⟩
 done:=by
  intro X hP hw hK hc i pn s σ H E I hf st hg
  subst hP hw hK
  obtain ⟨xs,hq,hx⟩:=hg
  obtain ⟨its,rv,p,hz⟩:=I.list hq
  obtain ⟨f0,f1,f2,f3,f4,f5⟩:=hf it (by simp)
  have hl:=rv.length
  exact wpAny_pyNext_list_end (I.ok.hd hc) st p.isList (by simp; omega) λh' eb=>⟨rfl,I.turned (t':=s.toks) (λb o hb e=>eb b o hb e) f0 f1 f3 f4 f5⟩
 self:=λ_ _ _ _ _ st h=>wpAny_pyIter_listiter st h
def Xc {P:Program} {w:World} {K:W.Frag} {tg:Expr} (a it:Addr):Turn P w K tg (Itt K a) [it] it (λi h=>h.IsTupleIter it a i) where
 mem:=by simp
 obj:=λi h st b hb=>by
  have e:b=it:=by simpa using hb
  subst e
  obtain ⟨o,e,c,d⟩:=st
  exact ⟨o,e,λv z=>by rw [d] at z; cases z⟩
 keep:=λi h h' st k=>st.at λo e=>k it (by simp) o e
 item:=by
  intro X hP hw hK hc i pn s σ H E I hf st hg
  subst hP hw hK
  obtain ⟨xs,x,hq,hx⟩:=hg
  obtain ⟨its,rv,p,hz⟩:=I.tuple hq
  obtain ⟨u,hu,ru⟩:=rv.get hx
  obtain ⟨f0,f1,f2,f3,f4,f5⟩:=hf it (by simp)
  refine wpAny_pyNext_tuple_item st (show s.heap.IsTuple a its.toArray from p) (x:=u) (by simpa using hu) λh' st' sb=>?_
  have I1:Inv X pn σ H { s with heap:=h' }:=I.turned (t':=s.toks) (λb o hb e=>(sb.2 b hb).trans e) f0 f1 f3 f4 f5
  obtain ⟨o,e,c,d⟩:=id st'
  exact ⟨u,rfl,T3 (s:={ s with heap:=h' }) e c d (by decide) ⟨x,H,I1,ru,⟨rfl,λys hy=>by rw [I.tuple_inj hy hq]; exact hx⟩,st',λb hb=>(hf b hb).1⟩⟩
 done:=by
  intro X hP hw hK hc i pn s σ H E I hf st hg
  subst hP hw hK
  obtain ⟨xs,hq,hx⟩:=hg
  obtain ⟨its,rv,p,hz⟩:=I.tuple hq
  obtain ⟨f0,f1,f2,f3,f4,f5⟩:=hf it (by simp)
  have hl:=rv.length
  exact wpAny_pyNext_tuple_end (I.ok.hd hc) st (show s.heap.IsTuple a its.toArray from p) (by simp; omega) λh' eb=>⟨rfl,I.turned (t':=s.toks) (λb o hb e=>eb b o hb e) f0 f1 f3 f4 f5⟩
 self:=λ_ _ _ _ _ st h=>wpAny_pyIter_tupleiter st h
def Xd {P:Program} {w:World} {K:W.Frag} {tg:Expr} (it:Addr) (lo:Int) (n:Nat):Turn P w K tg (Itr lo n) [it] it (λi h=>IsRangeIter h it (lo + (i:Nat) * 1) ((n:Int) - (i:Nat)) 1) where
 mem:=by simp
 obj:=λi h st b hb=>by
  have e:b=it:=by simpa using hb
  subst e
  exact ⟨_,st,λv z=>by
   have z':Data.fields _=Data.cell v:=z
   cases z'⟩
 keep:=λi h h' st k=>k it (by simp) _ st
 item:=by
  intro X hP hw hK hc i pn s σ H E I hf st hg
  subst hP hw hK
  obtain ⟨f0,f1,f2,f3,f4,f5⟩:=hf it (by simp)
  have W:=Walks.range (prog:=X.prog) (w:=X.w) (I.ok.hd hc) it lo 1 n
  refine W.item i s _ _ hg st λv h' tk hv st' kk=>?_
  obtain ⟨t,rfl⟩:=hv
  have I1:Inv X pn σ H { s with heap:=h',toks:=tk }:=I.turned (λb o hb e=>kk b o (by simpa using hb) e) f0 f1 f3 f4 f5
  refine ⟨_,rfl,T3 (s:={ s with heap:=h',toks:=tk }) (n:="range_iterator") st' rfl rfl (by decide) ⟨.int (lo + i),H,I1,⟨t,?_⟩,⟨rfl,rfl⟩,st',λb hb=>(hf b hb).1⟩⟩
  rw [Int.mul_one]
 done:=by
  intro X hP hw hK hc i pn s σ H E I hf st hg
  subst hP hw hK
  obtain ⟨f0,f1,f2,f3,f4,f5⟩:=hf it (by simp)
  exact wpAny_pyNext_range_end (I.ok.hd hc) st (by have:n <= i:=hg; omega) λh' eb=>⟨rfl,I.turned (t':=s.toks) (λb o hb e=>eb b o hb e) f0 f1 f3 f4 f5⟩
 self:=λ_ _ _ _ _ st h=>wpAny_pyIter_rangeiter st h
section
variable {X:Cx} {tg:Expr}
def Rf {pn:List (Addr × Obj)} {σ:St} {H:Hp} {s:Shared} {R:It->Hp->Prop} {E:Value->Shared->Prop} {lo hi:Int} {t u v:Tok} {tk:Nat} (I:Inv X pn σ H s) (h1:-(2 ^ 62) <= lo) (h2:lo < 2 ^ 62) (h3:-(2 ^ 62) <= hi) (h4:hi < 2 ^ 62)
  (q:R (Itr lo (hi - lo).toNat) H):wpAny (model X.prog X.w) X.A (pyIter (.ref s.heap.objs.size)) (PIE X pn σ tg R) E { s with heap:=s.heap.push { cls:=.type "range", data:=.fields #[.int lo t,.int hi u,.int 1 v] },toks:=tk }:=by
 refine wpAny_pyIter_range (IsRange.new ..) (small_one h1 h2 h3 h4) ?_
 have I1:Inv X pn σ H { s with heap:=s.heap.push { cls:=.type "range", data:=.fields #[.int lo t,.int hi u,.int 1 v] },toks:=tk }:=I.kept λb o e=>Heap.get?_push_of_some _ e
 refine ⟨(s.heap.push { cls:=.type "range", data:=.fields #[.int lo t,.int hi u,.int 1 v] }).objs.size,[(s.heap.push { cls:=.type "range", data:=.fields #[.int lo t,.int hi u,.int 1 v] }).objs.size],_,_,H,rfl,
  I1.kept (t':=tk) λb o e=>Heap.get?_push_of_some _ e,Xd _ lo (hi - lo).toNat,?_,λb hb=>?_,q⟩
 ·have e1:lo + ((0:Nat):Int) * 1=lo:=by simp
  have e2:(((hi - lo).toNat:Nat):Int) - ((0:Nat):Int)=Builtin.Range.rangeSize lo hi 1:=by rw [rangeSize_one]; split <;> omega
  show IsRangeIter _ _ (lo + ((0:Nat):Int) * 1) ((((hi - lo).toNat:Nat):Int) - ((0:Nat):Int)) 1
  rw [e1,e2]
  exact Heap.get?_push_size _ rfl
 ·have e:b=(s.heap.push { cls:=.type "range", data:=.fields #[.int lo t,.int hi u,.int 1 v] }).objs.size:=by simpa using hb
  subst e
  exact I1.fpOk (Nat.le_refl _) (I1.hok.fresh (Nat.le_refl _))
def Gi (ta:TA):TI:=λσ H R=>ta σ H λvs H1=>∃ j:Int,vs=[.int j] /\ -(2 ^ 62) <= j /\ j < 2 ^ 62 /\ R (Itr 0 j.toNat) H1
def Vz {a:Expr} {ta:TA} {p pos:Pos} (hg:Gl X "range") (hm:X.mg "range" = none) (ha:PA X [a] ta) (hs:starEach [a] X.env=[(false,eval a X.env)]:=by rfl):PI X tg (.Call (.Name "range" p) [a] [] pos) (Gi ta):=by
 intro pn s σ H R I h
 refine Call_ (uu I hg hm boot_range (PyProof.Rows.callWith_type1 (thn (ha pos pn s σ H _ I h) λus s1 ⟨vs,H1,I1,r1,q1⟩=>?_) hs rfl))
 obtain ⟨j,e,q1,q2,q⟩:=q1
 subst e
 cases r1 with
 | cons r rr =>
  cases rr
  obtain ⟨t,rfl⟩:=r
  exact call_range_1 (Rf I1 (by omega) (by omega) q1 q2 (by simpa using q))
def tFor (wi:TI) (g:TG) (tb:TS):TS:=λD σ H=>wi σ H λJ H1=>∃ W:Nat->Nat->St->Hp->Prop,(∃ m,W 0 m σ H1) /\ ∀ i m σ H,W i m σ H ->
 (J.stop i H /\ D.nx σ H) \/ (J.go i H /\ ∃ N:St->Hp->Prop,(∀ σ' H',N σ' H'->∃ m',m' < m /\ W (i + 1) m' σ' H') /\ ∀ x H',J.yld i H x H'->g x σ H' λσ2 H2=>tb { D with nx:=N,ct:=N,bk:=D.nx } σ2 H2)
def fh (fp:List Addr) (h:Heap):List (Addr × Obj):=fp.filterMap λb=>(h.get? b).map λo=>(b,o)
def wv {fp:List Addr} {h:Heap} {b:Addr} {o:Obj} (hb:b ∈ fp) (e:h.get? b=some o):(b,o) ∈ fh fp h:=List.mem_filterMap.mpr ⟨b,hb,by rw [e]; rfl⟩
def U8 {fp:List Addr} {h:Heap} {p:Addr × Obj} (hp:p ∈ fh fp h):p.1 ∈ fp /\ h.get? p.1=some p.2:=by
 obtain ⟨b,hb,e⟩:=List.mem_filterMap.mp hp
 cases q:h.get? b with
 | none=>rw [q] at e; cases e
 | some o =>
  rw [q] at e
  have e':(b,o)=p:=Option.some.inj e
  subst e'
  exact ⟨hb,q⟩
def Inv.pinned {pn:List (Addr × Obj)} {σ:St} {H:Hp} {s:Shared} {fp:List Addr} (I:Inv X pn σ H s) (hf:∀ b ∈ fp,FpOk X pn H b) (ho:∀ b ∈ fp,∃ o,s.heap.get? b=some o /\ ∀ v,o.data ≠ .cell v):Inv X (pn ++ fh fp s.heap) σ H s :=
 I.pins_of λp hp=>(List.mem_append.mp hp).elim (λz=>I.pin p (List.mem_append_right _ z)) λz=>by
  obtain ⟨hb,e⟩:=U8 z
  obtain ⟨f0,f1,f2,_⟩:=hf p.1 hb
  obtain ⟨o,e',d⟩:=ho p.1 hb
  rw [e] at e'; cases e'
  exact ⟨e,f0,f1,f2,d⟩
def Inv.unpinned {pn pl:List (Addr × Obj)} {σ:St} {H:Hp} {s:Shared} (I:Inv X (pn ++ pl) σ H s):Inv X pn σ H s:=I.pins_of λp hp=>I.pin p (List.mem_append_right _ (List.mem_append_left _ hp))
def K6 {iter:Expr} {body:List Stmt} {wi:TI} {g:TG} {tb:TS} {pos:Pos} (hp:PassesOwn (model X.prog X.w) X.A X.env X.xe) (hc:X.calm=true) (hi:PI X tg iter wi) (hg:PG X tg g) (hb:PSs X body tb)
  (hs:∀ x,foldedSetIterable iter X.env x=pure x:=by intro _; rfl):PS X (.For tg iter body [] pos) (tFor wi g tb):=by
 intro pn s σ H D I h
 refine wpAny_For (thn (hi pn s σ H _ I h) λv s1 h1=>thn h1 λitv s2 h2=>?_) hs
 obtain ⟨it,fp,tn,J,H2,e,I2,T,st2,f2,W,⟨m0,w0⟩,turn⟩:=h2
 subst e
 have stat:∀ {H':Hp},(∀ b ∈ fp,H' b=none)->∀ b ∈ fp,FpOk X pn H' b:=λhn b hb=>⟨hn b hb,(f2 b hb).2⟩
 refine codeAny_forLoop_any (λn s'=>∃ i σ' H',Inv X pn σ' H' s' /\ tn i s'.heap /\ (∀ b ∈ fp,H' b=none) /\ W i n σ' H') ?_ m0 ⟨0,σ,H2,I2,st2,λb hb=>(f2 b hb).1,w0⟩
 rintro n s3 ⟨i,σ3,H3,I3,st3,fr3,w3⟩
 rcases turn i n σ3 H3 w3 with ⟨stop,qn⟩ | ⟨go,N,hN,step⟩
 ·refine wpAny_passesOwn hp (thn (T.done X rfl rfl rfl hc i pn s3 σ3 H3 X.xe I3 (stat fr3) st3 stop) λr s4 ⟨hr,I4⟩=>?_)
  subst hr
  exact wpAny_execs_nil ⟨σ3,H3,I4,qn⟩
 ·refine wpAny_passesOwn hp (thn (T.item X rfl rfl rfl hc i pn s3 σ3 H3 X.xe I3 (stat fr3) st3 go) λr s4 ⟨u,hr,h4⟩=>?_)
  subst hr
  refine wpAny_passesOwn hp (thn h4 λ_ s5 ⟨x,H5,I5,r5,y5,st5,fr5⟩=>?_)
  have I5':=I5.pinned (stat fr5) (T.obj _ _ st5)
  refine wpAny_passesOwn hp (thn (hg _ s5 σ3 H5 x u _ I5' r5 (step x H5 y5)) λ_ s6 ⟨σ6,H6,I6,q6⟩=>?_)
  refine wpAny_passesOwn hp (thn (hb _ s6 σ6 H6 _ I6 q6) λf s7 q7=>?_)
  have again:∀ {σ7:St} {H7:Hp},Inv X (pn ++ fh fp s5.heap) σ7 H7 s7->N σ7 H7->∃ m,m < n /\ ∃ i σ' H',Inv X pn σ' H' s7 /\ tn i s7.heap /\ (∀ b ∈ fp,H' b=none) /\ W i m σ' H':=λ{σ7 H7} I7 n7=>by
   obtain ⟨m',hm,w7⟩:=hN σ7 H7 n7
   refine ⟨m',hm,i + 1,σ7,H7,I7.unpinned,T.keep _ _ _ st5 λb hb o e=>(I7.pin (b,o) (List.mem_append_right _ (List.mem_append_right _ (wv hb e)))).1,λb hb=>?_,w7⟩
   obtain ⟨o,e,d⟩:=T.obj _ _ st5 b hb
   exact (I7.pin (b,o) (List.mem_append_right _ (List.mem_append_right _ (wv hb e)))).2.1
  cases f with
  | next=>obtain ⟨σ7,H7,I7,n7⟩:=q7; exact again I7 n7
  | cont=>obtain ⟨σ7,H7,I7,n7⟩:=q7; exact again I7 n7
  | brk=>obtain ⟨σ7,H7,I7,q7⟩:=q7; exact ⟨σ7,H7,I7.unpinned,q7⟩
  | ret v=>obtain ⟨x7,σ7,H7,I7,r7,q7⟩:=q7; exact ⟨x7,σ7,H7,I7.unpinned,r7,q7⟩
end
abbrev R2:=V->V->Hp->VK->Prop
def OpR (X:Cx) (f:Value->Value->Sem Value) (r:R2):Prop :=
 ∀ (pn:List (Addr × Obj)) (s:Shared) (σ:St) (H:Hp) (x y:V) (v u:Value) (Q:VK),Inv X pn σ H s->RelV x v->RelV y u->r x y H Q ->
  wpAny (model X.prog X.w) X.A (f v u) (EP X pn σ Q) X.xe s
def UnR (X:Cx) (f:Value->Sem Value) (r:V->Hp->VK->Prop):Prop :=
 ∀ (pn:List (Addr × Obj)) (s:Shared) (σ:St) (H:Hp) (x:V) (v:Value) (Q:VK),Inv X pn σ H s->RelV x v->r x H Q ->
  wpAny (model X.prog X.w) X.A (f v) (EP X pn σ Q) X.xe s
def w5 (X:Cx) (f:Value) (r:List V->Hp->VK->Prop):Prop :=
 ∀ (pn:List (Addr × Obj)) (s:Shared) (σ:St) (H:Hp) (xs:List V) (us:List Value) (Q:VK),Inv X pn σ H s->Vals xs us->r xs H Q ->
  wpAny (model X.prog X.w) X.A (call f us) (EP X pn σ Q) X.xe s
def TruR (X:Cx) (r:V->Hp->(Bool->Hp->Prop)->Prop):Prop :=
 ∀ (pn:List (Addr × Obj)) (s:Shared) (σ:St) (H:Hp) (x:V) (v:Value) (Q:Bool->Hp->Prop),Inv X pn σ H s->RelV x v->r x H Q ->
  wpAny (model X.prog X.w) X.A (truthy v) (TP X pn σ Q) X.xe s
def tOp (r:R2) (ta tb:TE):TE:=λσ H Q=>ta σ H λx H1=>tb σ H1 λy H2=>r x y H2 Q
def tUn (r:V->Hp->VK->Prop) (ta:TE):TE:=λσ H Q=>ta σ H λx H1=>r x H1 Q
def rI (C:Int->Int->Prop) (g:Int->Int->V):R2:=λx y H Q=>∃ i j,x=.int i /\ y=.int j /\ C i j /\ Q (g i j) H
def rI0 (g:Int->Int->V):R2:=λx y H Q=>∃ i j,x=.int i /\ y=.int j /\ Q (g i j) H
def rU (g:Int->V):V->Hp->VK->Prop:=λx H Q=>∃ i,x=.int i /\ Q (g i) H
section
variable {X:Cx} {a b c:Expr} {ta tb tc:TE} {pos:Pos}
def binT (ha:PE X a ta) (hb:PE X b tb) {pn:List (Addr × Obj)} {s:Shared} {σ:St} {H:Hp} {R:V->V->Hp->Prop} (I:Inv X pn σ H s)
  (h:ta σ H λx H1=>tb σ H1 λy H2=>R x y H2) {Q:Value->Shared->Prop} {f:Value->Value->Sem Value}
  (hf:∀ v u s2 x y H2,Inv X pn σ H2 s2->RelV x v->RelV y u->R x y H2->wpAny (model X.prog X.w) X.A (f v u) Q X.xe s2) :
  wpAny (model X.prog X.w) X.A (eval a X.env) (λv s₁=>wpAny (model X.prog X.w) X.A (eval b X.env) (λu s₂=>wpAny (model X.prog X.w) X.A (f v u) Q X.xe s₂) X.xe s₁) X.xe s:=by
 refine thn (ha pn s σ H _ I h) λv s1 ⟨x,H1,I1,r1,q1⟩=>?_
 refine thn (hb pn s1 σ H1 _ I1 q1) λu s2 ⟨y,H2,I2,r2,q2⟩=>?_
 exact hf v u s2 x y H2 I2 r1 r2 q2
def Ke {op:Operator} {r:R2} (ho:OpR X (binaryOp op) r) (ha:PE X a ta) (hb:PE X b tb):PE X (.BinOp a op b pos) (tOp r ta tb):=by
 intro pn s σ H Q I h
 exact wpAny_BinOp (binT ha hb I h λv u s2 x y H2 I2 rx ry q=>ho pn s2 σ H2 x y v u Q I2 rx ry q)
def G7 {op:UnaryOp} {r:V->Hp->VK->Prop} (ho:UnR X (unaryOp op) r) (ha:PE X a ta):PE X (.UnaryOp op a pos) (tUn r ta):=by
 intro pn s σ H Q I h
 exact UnaryOp_ (thn (ha pn s σ H _ I h) λv s1 ⟨x,H1,I1,r1,q1⟩=>ho pn s1 σ H1 x v Q I1 r1 q1)
def opI {f:Value->Value->Sem Value} {C:Int->Int->Prop} {g:Int->Int->Int}
  (rule:∀ (i j:Int) (t u:Tok) (s:Shared) (Q:Value->Shared->Prop) (E:Value->Shared->Prop),C i j->Q (.int (g i j) s.toks) { s with toks:=s.toks + 1 }->wpAny (model X.prog X.w) X.A (f (.int i t) (.int j u)) Q E s) :
  OpR X f (rI C λi j=>.int (g i j)):=by
 intro pn s σ H x y v u Q I rx ry h
 obtain ⟨i,j,rfl,rfl,hc,q⟩:=h
 obtain ⟨t,rfl⟩:=rx
 obtain ⟨t',rfl⟩:=ry
 exact rule i j t t' s _ _ hc ⟨.int (g i j),H,I.tok _,⟨_,rfl⟩,q⟩
def opI0 {f:Value->Value->Sem Value} {g:Int->Int->Int}
  (rule:∀ (i j:Int) (t u:Tok) (s:Shared) (Q:Value->Shared->Prop) (E:Value->Shared->Prop),Q (.int (g i j) s.toks) { s with toks:=s.toks + 1 }->wpAny (model X.prog X.w) X.A (f (.int i t) (.int j u)) Q E s) :
  OpR X f (rI0 λi j=>.int (g i j)):=by
 intro pn s σ H x y v u Q I rx ry h
 obtain ⟨i,j,rfl,rfl,q⟩:=h
 obtain ⟨t,rfl⟩:=rx
 obtain ⟨t',rfl⟩:=ry
 exact rule i j t t' s _ _ ⟨.int (g i j),H,I.tok _,⟨_,rfl⟩,q⟩
def opB0 {f:Value->Value->Sem Value} {g:Int->Int->Bool}
  (rule:∀ (i j:Int) (t u:Tok) (s:Shared) (Q:Value->Shared->Prop) (E:Value->Shared->Prop),Q (.bool (g i j)) s->wpAny (model X.prog X.w) X.A (f (.int i t) (.int j u)) Q E s) :
  OpR X f (rI0 λi j=>.bl (g i j)):=by
 intro pn s σ H x y v u Q I rx ry h
 obtain ⟨i,j,rfl,rfl,q⟩:=h
 obtain ⟨t,rfl⟩:=rx
 obtain ⟨t',rfl⟩:=ry
 exact rule i j t t' s _ _ ⟨.bl (g i j),H,I,rfl,q⟩
def CPow (i j:Int):Prop:=0 <= j /\ j <= 1000000 /\ i.natAbs < 2 ^ 64
def Kv:OpR X (binaryOp .Add) (rI0 λi j=>.int (i + j)):=opI0 λ_ _ _ _ _ _ _ q=>add_int q
def Ko:OpR X (binaryOp .Sub) (rI0 λi j=>.int (i - j)):=opI0 λ_ _ _ _ _ _ _ q=>sub_int q
def Ni:OpR X (binaryOp .Mod) (rI (λ_ j=>j ≠ 0) λi j=>.int (i.fmod j)):=opI λ_ _ _ _ _ _ _ hc q=>mod_int' hc q
def Kq:OpR X (binaryOp .Pow) (rI CPow λi j=>.int (i ^ j.toNat)):=opI λ_ _ _ _ _ _ _ hc q=>pow_int_small hc.1 hc.2.1 hc.2.2 q
def unI {f:Value->Sem Value} {g:Int->Int}
  (rule:∀ (i:Int) (t:Tok) (s:Shared) (Q:Value->Shared->Prop) (E:Value->Shared->Prop),Q (.int (g i) s.toks) { s with toks:=s.toks + 1 }->wpAny (model X.prog X.w) X.A (f (.int i t)) Q E s) :
  UnR X f (rU λi=>.int (g i)):=by
 intro pn s σ H x v Q I rx h
 obtain ⟨i,rfl,q⟩:=h
 obtain ⟨t,rfl⟩:=rx
 exact rule i t s _ _ ⟨.int (g i),H,I.tok _,⟨_,rfl⟩,q⟩
def Mv:UnR X (unaryOp .USub) (rU λi=>.int (-i)):=unI λ_ _ _ _ _ q=>neg_int q
def Pw {pn:List (Addr × Obj)} {σ:St} {H:Hp} {s:Shared} {Q:VK} {k k':Bool} (I:Inv X pn σ H s) (q:Q (.bl k) H) (e:k=k'):EP X pn σ Q (.bool k') s:=by
 subst e
 exact ⟨.bl k,H,I,rfl,q⟩
def Ga:OpR X (compareOp .Lt) (rI0 λi j=>.bl (decide (i < j))):=opB0 λ_ _ _ _ _ _ _ q=>lt_int q
def Gb:OpR X (compareOp .GtE) (rI0 λi j=>.bl (decide (j <= i))):=opB0 λ_ _ _ _ _ _ _ q=>ge_int q
def fk:OpR X (compareOp .In) (λx y H Q=>∃ i j,x=.str i /\ y=.str j /\ Q (.bl (!(Builtin.Str.occurrences j i 0 j.length 1).isEmpty)) H):=by
 intro pn s σ H x y v u Q I rx ry h
 obtain ⟨i,j,rfl,rfl,q⟩:=h
 obtain ⟨t,rfl⟩:=rx
 obtain ⟨t',rfl⟩:=ry
 exact in_str (Pw I q rfl)
def Ks:OpR X (compareOp .Is) (λx y H Q=>y=.non /\ Q (.bl (decide (x=.non))) H):=by
 intro pn s σ H x y v u Q I rx ry h
 obtain ⟨rfl,q⟩:=h
 cases ry
 refine is_none_gen (Pw I q ?_)
 cases x <;> first
  | (cases rx; rfl)
  | (obtain ⟨t,rfl⟩:=rx; rfl)
def OpR.or {f:Value->Value->Sem Value} {r r':R2} (h:OpR X f r) (h':OpR X f r'):OpR X f (λx y H Q=>r x y H Q \/ r' x y H Q):=by
 intro pn s σ H x y v u Q I rx ry q
 rcases q with q | q
 ·exact h pn s σ H x y v u Q I rx ry q
 ·exact h' pn s σ H x y v u Q I rx ry q
def ra (b:Expr) {op:CmpOp} (h:op ≠ .In:=by decide) (h2:op ≠ .NotIn:=by decide):behindInMarks op b=false:=by
 have e1:(op == CmpOp.In)=false:=by cases op <;> first | rfl | exact absurd rfl h
 have e2:(op == CmpOp.NotIn)=false:=by cases op <;> first | rfl | exact absurd rfl h2
 cases b <;> simp [behindInMarks,e1,e2]
def Nc {op:CmpOp} {r:R2} (ho:OpR X (compareOp op) r) (ha:PE X a ta) (hb:PE X b tb) (hm:behindInMarks op b=false):PE X (.Compare a [op] [b] pos) (tOp r ta tb):=by
 intro pn s σ H Q I h
 exact wpAny_Compare1 (binT ha hb I h λv u s2 x y H2 I2 rx ry q=>ho pn s2 σ H2 x y v u Q I2 rx ry q) hm
def Hr (t:TE):TT:=λσ H Q=>t σ H λx H'=>∃ k,x=.bl k /\ Q k H'
def N1 {op:CmpOp} {r:R2} (ho:OpR X (compareOp op) r) (ha:PE X a ta) (hb:PE X b tb) (hm:behindInMarks op b=false):PT X (.Compare a [op] [b] pos) (Hr (tOp r ta tb)):=by
 intro pn s σ H Q I h
 refine wpAny_isTrue_Compare1 (thn (ha pn s σ H _ I h) λv s1 ⟨x,H1,I1,r1,q1⟩=>thn (hb pn s1 σ H1 _ I1 q1) λu s2 ⟨y,H2,I2,r2,q2⟩ =>
  thn (ho pn s2 σ H2 x y v u _ I2 r1 r2 q2) λc s3 ⟨z,H3,I3,r3,k,e,q3⟩=>?_) hm
 subst e
 cases r3
 exact wpAny_truthy_bool ⟨H3,I3,q3⟩
def TruV (K:W.Frag) (x:V) (H:Hp) (k:Bool):Prop :=
 match x with
 | .non=>k=false
 | .bl b=>k=b
 | .int i=>k=(i != 0)
 | .str y=>y.length <= sizeLine /\ k=((y.length:Int) != 0)
 | .byt y=>y.size <= sizeLine /\ k=((y.size:Int) != 0)
 | .ref p=>(∃ xs,SqL K H p xs /\ k=!xs.isEmpty) \/ (∃ xs,SqT K H p xs /\ k=!xs.isEmpty) \/ ∃ kvs,H p=some (.dK kvs) /\ k=!kvs.isEmpty
 | _=>False
def W4 {κ:Type} {kvs:List (κ × V)} {vs:List (κ × Value)} (r:KV kvs vs):(!vs.isEmpty)=!kvs.isEmpty:=by
 cases r <;> rfl
def ky {xs:List V} {its:List Value} (r:Vals xs its):(!its.toArray.isEmpty)=!xs.isEmpty:=by
 cases r <;> simp
def ut:(sizeLine:Nat) < 2 ^ 63:=by rw [sizeLine_eq]; decide
def Mw:TruR X (λx H Q=>∃ k,TruV X.K x H k /\ Q k H):=by
 intro pn s σ H x v Q I rx h
 obtain ⟨k,e,q⟩:=h
 have hl:=ut
 have hs:sizeLine=16777216:=sizeLine_eq
 cases x with
 | non =>
  cases rx
  have e':k=false:=e
  subst e'
  exact truthy_none ⟨H,I,q⟩
 | bl b =>
  cases rx
  have e':k=b:=e
  subst e'
  exact wpAny_truthy_bool ⟨H,I,q⟩
 | int i =>
  obtain ⟨t,rfl⟩:=rx
  have e':k=(i != 0):=e
  subst e'
  exact PySem.P.truthy_int ⟨H,I,q⟩
 | str y =>
  obtain ⟨t,rfl⟩:=rx
  obtain ⟨hy,e'⟩:y.length <= sizeLine /\ k=((y.length:Int) != 0):=e
  subst e'
  exact PySem.P.truthy_str (by omega) ⟨H,I.tok _,q⟩
 | byt y =>
  obtain ⟨t,rfl⟩:=rx
  obtain ⟨hy,e'⟩:y.size <= sizeLine /\ k=((y.size:Int) != 0):=e
  subst e'
  exact W.truthy_bytes (by omega) ⟨H,I.tok _,q⟩
 | ref p =>
  cases rx
  have e':(∃ xs,SqL X.K H p xs /\ k=!xs.isEmpty) \/ (∃ xs,SqT X.K H p xs /\ k=!xs.isEmpty) \/ ∃ kvs,H p=some (.dK kvs) /\ k=!kvs.isEmpty:=e
  rcases e' with ⟨xs,hx,e'⟩ | ⟨xs,hx,e'⟩ | ⟨kvs,hx,e'⟩
  ·subst e'
   obtain ⟨its,r,pl,hz⟩:=I.list hx
   have hlen:=r.length
   exact wpAny_truthy_list pl.isList (by simp only [List.size_toArray]; omega) ⟨H,I.tok _,by rw [ky r]; exact q⟩
  ·subst e'
   obtain ⟨its,r,pl,hz⟩:=I.tuple hx
   have hlen:=r.length
   exact truthy_tuple pl (by simp only [List.size_toArray]; omega) ⟨H,I.tok _,by rw [ky r]; exact q⟩
  ·subst e'
   obtain ⟨hz,hS,vs,r,m⟩:kvs.length <= sizeLine /\ (p == sysModules)=false /\ ∃ vs,KV kvs vs /\ s.heap.DictOf (zv X.prog X.w) p vs:=I.hok p _ hx
   have hlen:kvs.length=vs.length:=Paired.length r
   exact wpAny_truthy_dict hS m (by omega) ⟨H,I.tok _,by rw [W4 r]; exact q⟩
 | _=>exact (show False from e).elim
def Ri (ha:PE X a ta) (he:∀ whole,isTrue a X.env whole=(do let v <- whole; standAt a.pos; holding [v] (truthy v))) :
  PT X a (λσ H Q=>ta σ H λx H'=>∃ k,TruV X.K x H' k /\ Q k H'):=by
 intro pn s σ H Q I h
 exact isTrue_plain (thn (ha pn s σ H _ I h) λv s1 ⟨x,H1,I1,r1,q1⟩=>Mw pn s1 σ H1 x v Q I1 r1 q1) (he _)
def Xw:OpR X (binaryOp .Add) (λx y H Q=>∃ i j,x=.str i /\ y=.str j /\ i.length + j.length <= sizeLine /\ Q (.str (i ++ j)) H):=by
 intro pn s σ H x y v u Q I rx ry h
 obtain ⟨i,j,rfl,rfl,hz,q⟩:=h
 obtain ⟨t,rfl⟩:=rx
 obtain ⟨t',rfl⟩:=ry
 exact add_str (λt' tk=>⟨.str (i ++ j),H,I.tok _,⟨_,rfl⟩,q⟩) hz
def ux {x:V} {us:List Value} (r:Vals [x] us):∃ u,us=[u] /\ RelV x u:=by
 cases r with
 | cons r1 r2=>cases r2; exact ⟨_,rfl,r1⟩
def Ob {x y:V} {us:List Value} (r:Vals [x,y] us):∃ u w',us=[u,w'] /\ RelV x u /\ RelV y w':=by
 cases r with
 | cons r1 r2 =>
  cases r2 with
  | cons r3 r4=>cases r4; exact ⟨_,_,rfl,r1,r3⟩
end
structure ObjM (h:Heap) (x dx C:Addr) (mA:Str->Option Value):Prop where
 obj:h.get? x=some (W.instObj C dx)
 ns:h.Ns1 dx mA
 ne:dx ≠ x
def Uj {h:Heap} {dx:Addr} {mA:Str->Option Value} (n:h.Ns1 dx mA):∃ od,h.get? dx=some od /\ ∀ name,W.lookIn name od=some (mA name):=by
 obtain ⟨o,es,ep,ho,hd,hk,_,hm⟩:=n
 refine ⟨o,ho,λname=>?_⟩
 have e:=hm name
 unfold nsFind findBy at e
 rw [<- Array.find?_toList] at e
 unfold W.lookIn
 rw [hd]
 dsimp only
 split
 ·rename_i y q
  rw [q] at e
  exact congrArg some e
 ·rename_i q
  rw [q] at e
  have a:es.toList.any (·.refKey)=false:=by
   rw [List.any_eq_false]
   intro y hy
   obtain ⟨z,t,hkey⟩:=hk y (Array.mem_toList_iff.mp hy)
   simp [DictEntry.refKey,hkey]
  have a':¬ es.toList.any (·.refKey)=true:=by rw [a]; exact Bool.false_ne_true
  rw [if_neg a']
  exact congrArg some e
def ObjM.look {h:Heap} {x dx C:Addr} {mA:Str->Option Value} (I:ObjM h x dx C mA):∃ od,W.InstAt h x (W.instObj C dx) C (some od) /\ ∀ name,W.lookIn name od=some (mA name) :=
 let ⟨od,ho,hl⟩:=Uj I.ns
 ⟨od,⟨I.obj,rfl,rfl,ho⟩,hl⟩
def RelO.some_of {v:V} {o:Option Value} (r:RelO (some v) o):∃ u,o=some u /\ RelV v u:=by
 cases o with
 | none=>exact (show False from r).elim
 | some u=>exact ⟨u,rfl,r⟩
section
variable {P:Program} {w:World} {H H':Hp} {h h':Heap} {a C dx:Addr} {fs fs':List (Str × V)}
def Ma (hok:HOk P w H h) (e:H a=some (.ins C dx fs)):∃ mA,ObjM h a dx C mA /\ (∀ f,RelO (fs.lookup f) (mA f)) /\ PySem.Within mA (fs.map (·.1)) /\ fs.length <= 1000 /\ H dx=some (.own a):=by
 obtain ⟨d,z,ne,ob,mA,n,r,q⟩:=(show ye P w H h a (.ins C dx fs) from hok a _ e)
 exact ⟨mA,⟨ob,n,ne⟩,r,q,z,d⟩
end
structure Cls (K:W.Frag) (C:Addr):Prop where
 pg:W.plainGet K C Str.empty=true
 hd:W.hasDictIn K C=true
 po:W.plainOver K C=true
 sa:W.findIn K (.ref C) "__setattr__" = some (some (.builtin "object.__setattr__"))
def Cls.get {K:W.Frag} {C:Addr} (c:Cls K C) (f:Str):W.plainGet K C f=true:=c.pg
structure Con (K:W.Frag) (C:Addr) (f:Str) (v:V) (u:Value):Prop where
 at_:W.findIn K (.ref C) f=some (some u)
 rel:RelV v u
 get:W.specialIn K u "__get__" = some none
 cp:W.copiedNames.contains f=false
def InOp (X:Cx) (op:Operator) (rd:V->V->Hp->VK->Prop):Prop :=
 ∀ (pn:List (Addr × Obj)) (s:Shared) (σ:St) (H:Hp) (x y:V) (u v:Value) (Q:VK),Inv X pn σ H s->RelV x u->RelV y v->rd x y H Q->wpAny (model X.prog X.w) X.A (inplaceOp op u v) (EP X pn σ Q) X.xe s
section
variable {X:Cx} {o e value:Expr} {f:Str} {pos pos' tpos:Pos} {ta tv:TE}
def rAdd:V->V->Hp->VK->Prop:=λx y H Q=>∃ i j,x=.int i /\ y=.int j /\ Q (.int (i + j)) H
def Jm:InOp X .Add rAdd:=by
 rintro pn s σ H x y u v Q I rx ry ⟨i,j,rfl,rfl,q⟩
 obtain ⟨t,rfl⟩:=(show ∃ t,u=Value.int i t from rx)
 obtain ⟨t',rfl⟩:=(show ∃ t',v=Value.int j t' from ry)
 exact PyProof.Rows.iadd_int ⟨.int (i + j),H,I.tok _,⟨_,rfl⟩,q⟩
end
section
variable {X:Cx} {pn:List (Addr × Obj)} {σ:St} {H:Hp} {s:Shared} {A:Around} {E:Value->Shared->Prop} {Q:Value->Shared->Prop} {c:Value} {b:Bool}
inductive TyOf (K:W.Frag) (H:Hp):V->Value->Prop where
 | non:TyOf K H .non (.type "NoneType")
 | bl (x:Bool):TyOf K H (.bl x) (.type "bool")
 | int (i:Int):TyOf K H (.int i) (.type "int")
 | str (x:Str):TyOf K H (.str x) (.type "str")
 | flt (x:UInt64):TyOf K H (.flt x) (.type "float")
 | lst {a:Addr} {xs:List V} (e:H a=some (.lst xs)):TyOf K H (.ref a) (.type "list")
 | frz {a:Addr} {o:Obj} {xs:List V} (e:H a=some (.frz o (.lst xs))):TyOf K H (.ref a) (.type "list")
 | tup {a:Addr} {xs:List V} (e:H a=some (.tup xs)):TyOf K H (.ref a) (.type "tuple")
 | dK {a:Addr} {kvs:List (Key × V)} (e:H a=some (.dK kvs)):TyOf K H (.ref a) (.type "dict")
 | dT {a:Addr} {kvs:List (List Key × V)} (e:H a=some (.dT kvs)):TyOf K H (.ref a) (.type "dict")
 | ins {a C dx:Addr} {fs:List (Str × V)} (e:H a=some (.ins C dx fs)) (cl:Cls K C) (ha:W.findIn K (.ref C) "__class__" = some (some (.builtin "object.__class__")))
   (hn:W.specialIn K (.builtin "object.__class__") "__get__" = some (some (.builtin "getset_descriptor.__get__"))) (htk:W.takesIn K (.builtin "object.__class__")=some true)
   (hm:W.mroIn K C (.type "object")=some true):TyOf K H (.ref a) (.ref C)
def xm {x:V} {u t:Value} (I:Inv X pn σ H s) (rx:RelV x u) (ty:TyOf X.K H x t) (e:W.kitOne X.K t c=some b) (h:∀ tk,Q (.bool b) { s with toks:=tk }) :
  wpAny (model X.prog X.w) A (call (.builtin "isinstance") [u,c]) Q E s:=by
 cases ty with
 | non=>cases (show u=Value.none from rx); exact W.kia_one W.kitx_none I.kIn True.intro e (λz=>nomatch z) h
 | bl y=>cases (show u=Value.bool y from rx); exact W.kia_one W.kitx_bool I.kIn True.intro e (λz=>nomatch z) h
 | int i=>obtain ⟨t,q⟩:=(show ∃ t,u=Value.int i t from rx); cases q; exact W.kia_one W.kitx_int I.kIn True.intro e (λz=>nomatch z) h
 | str y=>obtain ⟨t,q⟩:=(show ∃ t,u=Value.str y t from rx); cases q; exact W.kia_one W.kitx_str I.kIn True.intro e (λz=>nomatch z) h
 | flt y=>obtain ⟨t,q⟩:=(show ∃ t,u=Value.float y t from rx); cases q; exact W.kia_one W.kitx_float I.kIn True.intro e (λz=>nomatch z) h
 | @lst a xs ea =>
  cases (show u=Value.ref a from rx)
  obtain ⟨_,_,n,_,h1⟩:=(show ye X.prog X.w H s.heap a (.lst xs) from I.hok a _ ea)
  exact W.kia_one W.kitx_list I.kIn ⟨_,h1,rfl⟩ e (λz=>nomatch z) h
 | @frz a ob xs ea =>
  cases (show u=Value.ref a from rx)
  obtain ⟨_,_,_,n,_,h1⟩:=(show ye X.prog X.w H s.heap a (.frz ob (.lst xs)) from I.hok a _ ea)
  exact W.kia_one W.kitx_list I.kIn ⟨_,h1,rfl⟩ e (λz=>nomatch z) h
 | @tup a xs ea =>
  cases (show u=Value.ref a from rx)
  obtain ⟨_,_,_,p⟩:=(show ye X.prog X.w H s.heap a (.tup xs) from I.hok a _ ea)
  obtain ⟨o,h1,h2,_⟩:=p.1
  exact W.kia_one W.kitx_tuple I.kIn ⟨o,h1,h2⟩ e (λz=>nomatch z) h
 | @dK a kvs ea =>
  cases (show u=Value.ref a from rx)
  obtain ⟨_,_,vs,_,p⟩:=(show ye X.prog X.w H s.heap a (.dK kvs) from I.hok a _ ea)
  obtain ⟨o,es,ep,h1,h2,_⟩:=p
  exact W.kia_one W.kitx_dict I.kIn ⟨o,h1,h2.1⟩ e (λz=>nomatch z) h
 | @dT a kvs ea =>
  cases (show u=Value.ref a from rx)
  obtain ⟨_,_,xs,_,o,es,ep,h1,h2,_⟩:=(show ye X.prog X.w H s.heap a (.dT kvs) from I.hok a _ ea)
  exact W.kia_one W.kitx_dict I.kIn ⟨o,h1,h2.1⟩ e (λz=>nomatch z) h
 | @ins a C dx fs ea cl ha hn htk hm =>
  cases (show u=Value.ref a from rx)
  obtain ⟨mA,O,_⟩:=Ma I.hok ea
  obtain ⟨od,J,_⟩:=O.look
  exact W.kia_one (W.kitx_own (cl.get _) cl.hd ha hn htk hm) I.kIn J e (λz=>nomatch z) h
end
structure Room (k:Nat) (A:Around):Prop where
 hd:A.handled=none
 dp:A.depth + 3 * k + 5 < recursionLimit
 un:A.units + 16 * k + 200 < cLine
def Room.mono {j k:Nat} {A:Around} (r:Room k A) (h:j <= k):Room j A:=⟨r.hd,by have:=r.dp; omega,by have:=r.un; omega⟩
def Room.deeper {k:Nat} {A:Around} (r:Room (k + 1) A) (env:Env):Room k (A.deeper env) :=
 ⟨r.hd,by have:=r.dp; show A.depth + 1 + 3 * k + 5 < _; omega,by have:=r.un; show A.units + 3 + 16 * k + 200 < _; omega⟩
def Room.depth {k:Nat} {A:Around} (r:Room k A):A.depth < recursionLimit:=by have:=r.dp; omega
def Room.units {k:Nat} {A:Around} (r:Room k A):A.units + 64 < cLine:=by have:=r.un; omega
def tNil:TA:=λ_ H Q=>Q [] H
def Li (ta:TE) (tr:TA):TA:=λσ H Q=>ta σ H λx H1=>tr σ H1 λxs H2=>Q (x :: xs) H2
section
variable {X:Cx} {e:Expr} {es:List Expr} {te:TE} {t:TA} {pos:Pos}
def uq:PA X [] tNil:=λ_ _ _ _ H Q I h=>Calls.spliced_nil ⟨[],H,I,.nil,h⟩
def xi (ha:PE X e te) (hr:PA X es t) (hs:starEach (e :: es) X.env=(false,eval e X.env) :: starEach es X.env:=by rfl):PA X (e :: es) (Li te t):=by
 intro pos pn s σ H Q I h
 rw [hs]
 show wpAny _ _ (spliced ((false,eval e X.env) :: backTo pos (starEach es X.env))) _ _ s
 refine Calls.spliced_cons (thn (ha pn s σ H _ I h) λu s1 ⟨x,H1,I1,r1,q1⟩=>?_)
 exact thn (hr pos pn s1 σ H1 _ I1 q1) λus s2 ⟨xs,H2,I2,r2,q2⟩=>⟨x :: xs,H2,I2,.cons r1 r2,q2⟩
def tTup (t:TA):TE:=λσ H Q=>t σ H λxs H1=>xs.length <= sizeLine /\ ∀ p,H1 p=none->Q (.ref p) (upd H1 p (.tup xs))
def tLst (t:TA):TE:=λσ H Q=>t σ H λxs H1=>xs.length <= sizeLine /\ ∀ p,H1 p=none->Q (.ref p) (upd H1 p (.lst xs))
def U0 {x1} (h:PA X es t):PE X (.Tuple es x1 pos) (tTup t):=by
 intro pn s σ H Q I hq
 refine wpAny_Tuple_spliced (thn (h pos pn s σ H _ I hq) λus s1 ⟨xs,H1,I1,r,z,q⟩=>⟨by rw [<- r.length]; exact z,?_⟩)
 have hf:H1 s1.heap.objs.size=none:=I1.hok.fresh (Nat.le_refl _)
 refine ⟨.ref s1.heap.objs.size,upd H1 s1.heap.objs.size (.tup xs),I1.laid (t':=s1.toks) (λb u e=>Heap.get?_push_of_some _ e) (Nat.le_refl _) ?_,rfl,q _ hf⟩
 exact ⟨z,us,r,⟨_,Heap.get?_push_size _ rfl,rfl,_,rfl⟩,_,Heap.get?_push_size _ rfl,rfl⟩
def Ki (h:PA X es t):PE X (.List es pos) (tLst t):=by
 intro pn s σ H Q I hq
 refine wpAny_List_spliced (thn (h pos pn s σ H _ I hq) λus s1 ⟨xs,H1,I1,r,z,q⟩=>⟨by rw [<- r.length]; exact z,?_⟩)
 have hf:H1 s1.heap.objs.size=none:=I1.hok.fresh (Nat.le_refl _)
 refine ⟨.ref s1.heap.objs.size,upd H1 s1.heap.objs.size (.lst xs),I1.laid (t':=s1.toks) (λb u e=>Heap.get?_push_of_some _ e) (Nat.le_refl _) ?_,rfl,q _ hf⟩
 exact ⟨z,us,0,r,Heap.get?_push_size _ rfl⟩
end
abbrev Sp:=List V->Hp->VK->XK->Prop
abbrev CXT:=List Env->Hp->Shared->XK->Value->Shared->Prop
structure Env0 (P:Program) (w:World) (K:W.Frag) (mg:Str->Option Value) (base:Heap) (A:Around) (outer:List Env) (s:Shared) (H:Hp):Prop where
 frames:A.frames=some outer
 mod:Mod K mg base
 bs:∀ b o,base.get? b=some o->s.heap.get? b=some o /\ H b=none
 bsz:base.objs.size <= s.heap.objs.size
 funs:s.heap.FunFrames base outer
 frf:∀ b ∈ frs outer,H b=none
 hok:HOk P w H s.heap
 bare:AllBare s.gens
def CE (outer:List Env) (P:Program) (w:World) (H:Hp) (s:Shared) (Q:VK) (u:Value) (s':Shared):Prop :=
 ∃ v H',s'.os=s.os /\ AllBare s'.gens /\ Un (frs outer) [] H H' s.heap s'.heap /\ HOk P w H' s'.heap /\ RelV v u /\ Q v H'
def CR (CX:CXT) (outer:List Env) (P:Program) (w:World) (H:Hp) (s:Shared) (Q:VK) (E:XK) (r:Result) (s':Shared):Prop :=
 match r with
 | .ok (.ret u)=>CE outer P w H s Q u s'
 | .ok _=>False
 | .error e=>CX outer H s E e s'
structure FnOk (P:Program) (w:World) (K:W.Frag) (mg:Str->Option Value) (base:Heap) (CX:CXT) (k:Nat) (f:Addr) (fd:FuncData) (ps:List Str) (sp:Sp):Prop where
 len:∀ vs H Q E,sp vs H Q E->vs.length=ps.length
 run:∀ (A:Around) (outer:List Env) (s:Shared) (H:Hp) (args:Args) (us:List Value) (vs:List V) (Q:VK) (E:XK),Room k A->Env0 P w K mg base A outer s H->BindsTo s fd args (ps.zip us)->Vals vs us->sp vs H Q E ->
  codeAny (model P w) A (.call (.ref f) args) (CR CX outer P w H s Q E) s
section
variable {X:Cx} {pn:List (Addr × Obj)} {σ:St} {H:Hp} {s s':Shared}
def Inv.env0 (I:Inv X pn σ H s):Env0 X.prog X.w X.K X.mg X.base X.A X.stack s H :=
 ⟨I.ok.frames,I.ok.mod,I.bs,Nat.le_trans I.ok.bsz I.sz,I.stack,I.stkFree,I.hok,I.bare⟩
def Inv.after {Q:VK} {u:Value} (I:Inv X pn σ H s) (h:CE X.stack X.prog X.w H s Q u s'):EP X pn σ Q u s':=by
 obtain ⟨v,H',os,bare,un,hok,r,q⟩:=h
 obtain ⟨hh,g,d,t,os'⟩:=s'
 obtain rfl:os'=s.os:=os
 exact ⟨v,H',I.call (h':=hh) (g':=g) (d':=d) (t':=t) (ch:=[]) un hok bare (λb z=>absurd z (by simp)),r,q⟩
end
def bv (sp:Sp) (dvs:List V) (E:XK) (t:TA):TE:=λσ H Q=>t σ H λvs H1=>sp (vs ++ dvs) H1 Q E
def qo (K:W.Frag) (fd:FuncData) (ps:List Str) (ds:List Value):Prop :=
 ∀ (s:Shared) (us:List Value),K.In s.heap->(us ++ ds).length=ps.length->BindsTo s fd ⟨us,[]⟩ (ps.zip (us ++ ds))
def qo.all {K:W.Frag} {fd:FuncData} {ps:List Str} (h:∀ us:List Value,us.length=ps.length->bindArgs fd ⟨us,[]⟩=pure (ps.zip us)):qo K fd ps []:=λs us _ hl=>by
 rw [List.append_nil] at hl ⊢
 exact .of_eq (h us hl)
def X7 (CX:CXT) (X:Cx) (E:XK):Prop:=∀ (pn:List (Addr × Obj)) (σ:St) (H:Hp) (s:Shared) (e:Value) (s':Shared),Inv X pn σ H s->CX X.stack H s E e s'->X.xe e s'
section
variable {X:Cx} {CX:CXT} {k:Nat} {f C:Addr} {fd:FuncData} {ps:List Str} {sp:Sp} {dvs:List V} {ds:List Value} {E:XK} {x m:Str} {p pos apos:Pos} {e o:Expr} {es:List Expr} {ta:TE} {t:TA}
def Pe {pn:List (Addr × Obj)} {σ:St} {H:Hp} {s:Shared} {Q:VK} {us:List Value} {vs:List V} (F:FnOk X.prog X.w X.K X.mg X.base CX k f fd ps sp) (hr:Room k X.A) (hb:qo X.K fd ps ds) (hd:Vals dvs ds) (hx:X7 CX X E)
  (I:Inv X pn σ H s) (r:Vals vs us) (h:sp (vs ++ dvs) H Q E):wpAny (model X.prog X.w) X.A (call (.ref f) us) (EP X pn σ Q) X.xe s:=by
 have r2:Vals (vs ++ dvs) (us ++ ds):=r.append hd
 have hl:(us ++ ds).length=ps.length:=by rw [<- r2.length]; exact F.len _ _ _ _ h
 refine wpAny_call (codeAny_mono (F.run X.A X.stack s H ⟨us,[]⟩ (us ++ ds) (vs ++ dvs) Q E hr I.env0 (hb s us I.kIn hl) r2 h) λr s' hq=>?_)
 cases r with
 | error e=>exact hx pn σ H s e s' I hq
 | ok fl =>
  cases fl with
  | ret u=>exact I.after hq
  | next=>exact False.elim hq
  | brk=>exact False.elim hq
  | cont=>exact False.elim hq
def U2 (F:FnOk X.prog X.w X.K X.mg X.base CX k f fd ps sp) (hr:Room k X.A) (hg:Gl X x) (hm:X.mg x=some (.ref f)) (hk:W.keepIn X.K (.ref f)=true) (hb:qo X.K fd ps ds) (hd:Vals dvs ds) (hx:X7 CX X E)
  (ha:PA X (e :: es) t) (hdb:(x == ("__debug__" : Str))=false:=by decide) (he:starEach (e :: es) X.env=(false,eval e X.env) :: starEach es X.env:=by rfl) (hpl:(backTo pos (starEach es X.env)).any (·.1)=false:=by rfl) :
  PE X (.Call (.Name x p) (e :: es) [] pos) (bv sp dvs E t):=by
 intro pn s σ H Q I h
 refine wpAny_Call_Name_kw (v8 I hg hm ?_ hdb)
 refine W.callWith_K (h₀:=X.base) I.ok.mod.kin hk (thn (ha pos pn s σ H _ I h) λus s1 ⟨vs,H1,I1,r,q⟩=>⟨I1.kIn,?_⟩) he hpl
 exact Pe F hr hb hd hx I1 r q
def Rr (F:FnOk X.prog X.w X.K X.mg X.base CX k f fd ps sp) (hr:Room k X.A) (hg:Gl X x) (hm:X.mg x=some (.ref f)) (hk:W.keepIn X.K (.ref f)=true) (hb:qo X.K fd ps ds) (hd:Vals dvs ds) (hx:X7 CX X E)
  (hdb:(x == ("__debug__" : Str))=false:=by decide):PE X (.Call (.Name x p) [] [] pos) (bv sp dvs E tNil):=by
 intro pn s σ H Q I h
 refine wpAny_Call_Name_kw (v8 I hg hm ?_ hdb)
 exact W.callWith_K0 I.kIn hk (Pe (us:=[]) F hr hb hd hx I .nil h)
end
structure zj (N P:List Str) (sc:Scope):Prop where
 kind:sc.kind=.function
 co:sc.isCoroutine=false
 gen:sc.isGenerator=false
 nd:N.Nodup
 pre:N.take P.length=P
 par:∀ x ∈ P,sc.names.lookup x=some .local \/ sc.names.lookup x=some .cell
 nofree:∀ y ∈ sc.names,y.2 ≠ .free
def bf {kindOf:Str->Option NameKind} {x:Str}:∀ {binds:List (Str × Value)} {m:Str->Option Value},(∀ v,(x,v) ∉ binds)->bindL kindOf binds m x=m x
 | [],_,_=>rfl
 | (n,v) :: r,m,h=>by
  unfold bindL
  rw [bf λw hw=>h w (List.mem_cons_of_mem _ hw)]
  split
  ·have:x ≠ n:=by rintro rfl; exact h v List.mem_cons_self
   simp [this]
  ·rfl
def bh {kindOf:Str->Option NameKind} {x:Str}:∀ {binds:List (Str × Value)} {m:Str->Option Value},(∀ v,(x,v) ∉ binds)->bindC kindOf binds m x=m x
 | [],_,_=>rfl
 | (n,v) :: r,m,h=>by
  unfold bindC
  rw [bh λw hw=>h w (List.mem_cons_of_mem _ hw)]
  split
  ·rfl
  ·have:x ≠ n:=by rintro rfl; exact h v List.mem_cons_self
   simp [this]
def bg {kindOf:Str->Option NameKind} {x:Str} {v:Value}:∀ {P:List Str} {vs:List Value} {i:Nat} {m:Str->Option Value},P.Nodup->P[i]?=some x->vs[i]?=some v->kindOf x=some .local ->
  bindL kindOf (P.zip vs) m x=some v
 | [],_,_,_,_,h,_,_=>by simp at h
 | _ :: _,[],_,_,_,_,h,_=>by simp at h
 | p :: P,w :: vs,0,m,nd,h1,h2,hk=>by
  simp at h1 h2; subst h1; subst h2
  show bindL kindOf ((p,w) :: P.zip vs) m p=_
  unfold bindL
  rw [bf λv hv=>(List.nodup_cons.mp nd).1 (List.of_mem_zip hv).1,if_pos hk]
  simp
 | p :: P,w :: vs,i + 1,m,nd,h1,h2,hk=>by
  show bindL kindOf ((p,w) :: P.zip vs) m x=_
  unfold bindL
  exact bg (i:=i) (List.nodup_cons.mp nd).2 (by simpa using h1) (by simpa using h2) hk
def bj {kindOf:Str->Option NameKind} {x:Str} {v:Value}:∀ {P:List Str} {vs:List Value} {i:Nat} {m:Str->Option Value},P.Nodup->P[i]?=some x->vs[i]?=some v->kindOf x ≠ some .local ->
  bindC kindOf (P.zip vs) m x=some v
 | [],_,_,_,_,h,_,_=>by simp at h
 | _ :: _,[],_,_,_,_,h,_=>by simp at h
 | p :: P,w :: vs,0,m,nd,h1,h2,hk=>by
  simp at h1 h2; subst h1; subst h2
  show bindC kindOf ((p,w) :: P.zip vs) m p=_
  unfold bindC
  rw [bh λv hv=>(List.nodup_cons.mp nd).1 (List.of_mem_zip hv).1,if_neg hk]
  simp
 | p :: P,w :: vs,i + 1,m,nd,h1,h2,hk=>by
  show bindC kindOf ((p,w) :: P.zip vs) m x=_
  unfold bindC
  exact bj (i:=i) (List.nodup_cons.mp nd).2 (by simpa using h1) (by simpa using h2) hk
def start (N:List Str) (vs:List V):St:=vs.map some ++ List.replicate (N.length - vs.length) none
def cxOf (CX:CXT) (P:Program) (w:World) (K:W.Frag) (mg:Str->Option Value) (base:Heap) (N:List Str) (qual:Str) (scope:Scope) (f:Addr) (cd:Value) (A:Around) (outer:List Env) (s:Shared) (H:Hp) (E:XK):Cx where
 prog:=P
 w:=w
 K:=K
 mg:=mg
 base:=base
 A:=A.deeper (envOfC qual scope s.heap.objs.size f cd)
 N:=N
 s₀:=s
 H₀:=H
 env:=envOfC qual scope s.heap.objs.size f cd
 outer:=outer
 stack:=envOfC qual scope s.heap.objs.size f cd :: outer
 ex:=[]
 calm:=true
 fn:=λ_=>true
 pn:=[]
 xe:=λe s'=>wpAny (model P w) (A.deeper (envOfC qual scope s.heap.objs.size f cd)) (leaving (envOfC qual scope s.heap.objs.size f cd) e) (λ_ s''=>CX outer H s E e s'') (λe' s''=>CX outer H s E e' s'') s'
def X2 {sc:Scope} {n:Nat} {x:Str} (h:sc.names.lookup x=some .cell):∃ c,(cellsFrom n sc.names []).lookup x=some c:=by
 have q:=W.cellsFrom_some sc.names n [] (.inl h)
 exact Option.isSome_iff_exists.mp q
def Uz {CX:CXT} {P:Program} {w:World} {K:W.Frag} {mg:Str->Option Value} {base:Heap} {N ps:List Str} {qual:Str} {scope:Scope} {f:Addr} {cd:Value} {A:Around} {outer:List Env} {s s1:Shared} {H:Hp} {E:XK} {us:List Value} {vs:List V}
  (S:zj N ps scope) (hd:A.handled=none) (e0:Env0 P w K mg base A outer s H) (hl:vs.length=ps.length) (r:Vals vs us)
  (x:InCallC s s.heap.objs.size (bindL (envOfC qual scope s.heap.objs.size f cd).kindOf (ps.zip us) λ_=>none) (cellsFrom (s.heap.objs.size + 1) scope.names []) (bindC (envOfC qual scope s.heap.objs.size f cd).kindOf (ps.zip us) λ_=>none) s1) :
  Inv (cxOf CX P w K mg base N qual scope f cd A outer s H E) [] (start N vs) H s1:=by
 have hpl:ps.length <= N.length:=by have:=congrArg List.length S.pre; rw [List.length_take] at this; omega
 obtain ⟨h1,tk,rfl,hk⟩:=x.done
 have noA:∀ b:Addr,b ∉ (cxOf CX P w K mg base N qual scope f cd A outer s H E).ex:=λb z=>absurd (show b ∈ ([]:List Addr) from z) (by simp)
 refine ⟨⟨e0.mod,S.kind,rfl,rfl,Nat.le_refl _,λy z c h1 h2=>?_,λy hy=>?_,λy c _ h=>?_,λ_=>hd,Around.frames_deeper e0.frames,.inr ⟨rfl,rfl⟩,λb z=>absurd z (noA b),e0.bs,e0.bsz,λb _ _=>noA b,λb z=>absurd z (noA b),e0.funs,e0.frf⟩,
  rfl,e0.bare,Un.kept hk,⟨_,x.toInCall.ns,λi y v h1 h2 h3=>?_⟩,λy c h=>⟨_,x.cell y c h⟩,e0.hok.fresh (Nat.le_refl _),λy c h=>?_,λp hp=>absurd (show p ∈ ([]:List (Addr × Obj)) from hp) (by simp),e0.hok.kept hk,?_⟩
 ·exact name_of_addr x.apart (PySem.mem_of_lookup h1) (PySem.mem_of_lookup h2)
 ·have hy:scope.names.lookup y=some .cell \/ scope.names.lookup y=some .free:=hy
  rcases hy with hy | hy
  ·exact X2 hy
  ·exact absurd rfl (S.nofree _ (PySem.mem_of_lookup hy))
 ·exact Nat.le_of_lt (x.above y c (PySem.mem_of_lookup h))
 ·have hi:i < vs.length:=by
   unfold start at h2
   by_cases hi:i < vs.length
   ·exact hi
   ·rw [List.getElem?_append_right (by simpa using hi)] at h2
    rw [List.getElem?_replicate] at h2
    split at h2 <;> cases h2
  have ha:vs[i]?=some v:=by
   unfold start at h2
   rw [List.getElem?_append_left (by simpa using hi),List.getElem?_map] at h2
   cases e:vs[i]? with
   | none=>rw [e] at h2; cases h2
   | some a=>rw [e] at h2; cases h2; rfl
  obtain ⟨u,hu,rv⟩:=r.get ha
  have hp:ps[i]?=some y:=by
   rw [<- S.pre,List.getElem?_take_of_lt (by omega)]; exact h1
  have ndP:ps.Nodup:=by rw [<- S.pre]; exact S.nd.sublist (List.take_sublist _ _)
  refine ⟨u,rv,?_⟩
  rcases S.par y (List.mem_of_getElem? hp) with k | k
  ·exact .inl ⟨k,bg ndP hp hu k⟩
  ·obtain ⟨c,e⟩:=X2 (n:=s.heap.objs.size + 1) k
   refine .inr ⟨.inl k,c,e,?_⟩
   have q:=x.cell y c e
   rw [bj ndP hp hu (by show scope.names.lookup y ≠ _; rw [k]; decide)] at q
   exact q
 ·exact e0.hok.fresh (Nat.le_of_lt (x.above y c (PySem.mem_of_lookup h)))
 ·unfold start
  show _=N.length
  rw [zLa,zLm,List.length_replicate]
  omega
def Js {CX:CXT} {P:Program} {w:World} {K:W.Frag} {mg:Str->Option Value} {base:Heap} {k:Nat} {f:Addr} {name qual:Str} {params:Arguments} {body:List Stmt} {scope:Scope} {dV kV doc pm qZ ct oc:Value} {an od:Option Addr}
  {osl:Array (Option Value)} {N ps:List Str} {sp:Sp} (lk:K.lookup f=some ⟨oc,od,.func (W.fnOf name qual params body scope dV kV doc pm an qZ ct),osl⟩) (hcd:W.codeIn K qZ qual=true) (S:zj N ps scope)
  (len:∀ vs H Q E,sp vs H Q E->vs.length=ps.length)
  (qY:∀ (A:Around) (outer:List Env) (s:Shared) (H:Hp) (vs:List V) (Q:VK) (E:XK),Room k (A.deeper (envOfC qual scope s.heap.objs.size f qZ))->sp vs H Q E ->
   ∃ t,PSs (cxOf CX P w K mg base N qual scope f qZ A outer s H E) body t /\ t { nx:=λ_ H'=>Q .non H',rt:=Q } (start N vs) H) :
  FnOk P w K mg base CX (k + 1) f (W.fnOf name qual params body scope dV kV doc pm an qZ ct) ps sp:=by
 refine ⟨len,λA outer s H args us vs Q E hr e0 hb r hsp=>?_⟩
 have hl:=len _ _ _ _ hsp
 have KX:K.In s.heap:=e0.mod.kin.keeps λb o e=>(e0.bs b o e).1
 have lim:s.heap.NoLimit:=e0.mod.nolimit.keeps λb o e=>(e0.bs b o e).1
 have hkind:∀ y ∈ ps.zip us,scope.names.lookup y.1=some .local \/ (scope.names.lookup y.1=some .cell /\ ((cellsFrom (s.heap.objs.size + 1) scope.names []).lookup y.1).isSome=true):=λ⟨n,v⟩ hy=>by
  rcases S.par n (List.of_mem_zip hy).1 with q | q
  ·exact .inl q
  ·exact .inr ⟨q,W.cellsFrom_some _ _ _ (.inl q)⟩
 refine codeAny_call_function hr.depth (KX _ _ lk) rfl S.co S.gen rfl (W.codeRec_of KX hcd) (hb _ _ _ _ ?_)
 refine wpAny_newFunctionEnv_cells S.kind hkind λenv he s1 x=>?_
 subst he
 refine ⟨lim.keeps x.toInCall.keep,codeAny_func ?_⟩
 obtain ⟨t,ht,hq⟩:=qY A outer s H vs Q E (hr.deeper _) hsp
 have I:Inv (cxOf CX P w K mg base N qual scope f qZ A outer s H E) [] (start N vs) H s1:=Uz S hr.hd e0 hl r x
 refine wpAny_mono (ht [] s1 (start N vs) H _ I hq) (λfl s' hs=>?_) λe s' hs=>hs
 have fin:∀ {σ':St} {H':Hp} {v:V} {u:Value},Inv (cxOf CX P w K mg base N qual scope f qZ A outer s H E) [] σ' H' s'->RelV v u->Q v H'->CE outer P w H s Q u s' :=
  λ{σ' H' v u} J rv q=>⟨v,H',J.os,J.bare,J.base,J.hok,rv,q⟩
 cases fl with
 | ret u =>
  obtain ⟨v,σ',H',J,rv,q⟩:=hs
  exact fin J rv q
 | next =>
  obtain ⟨σ',H',J,q⟩:=hs
  exact fin (v:=V.non) (u:=Value.none) J rfl q
 | brk =>
  obtain ⟨_,_,_,q⟩:=hs
  exact False.elim q
 | cont =>
  obtain ⟨_,_,_,q⟩:=hs
  exact False.elim q
section
variable {X:Cx} {x:Str} {p pos:Pos} {e:Expr} {es:List Expr} {t:TA} {id T:String} {r:List V->Hp->VK->Prop}
def tCB (r:List V->Hp->VK->Prop) (t:TA):TE:=λσ H Q=>t σ H λvs H1=>r vs H1 Q
def jj (hc:w5 X (.builtin id) r) (hg:Gl X x) (hm:X.mg x=none) (hv:bootBuiltins x=some (.builtin id)) (ha:PA X (e :: es) t) (hn:x ≠ "__name__":=by decide) (hdb:(x == ("__debug__" : Str))=false:=by decide)
  (he:starEach (e :: es) X.env=(false,eval e X.env) :: starEach es X.env:=by rfl) (hpl:(backTo pos (starEach es X.env)).any (·.1)=false:=by rfl):PE X (.Call (.Name x p) (e :: es) [] pos) (tCB r t):=by
 intro pn s σ H Q I h
 refine wpAny_Call_Name_kw (uu I hg hm hv ?_ hn hdb)
 exact PyProof.Rows.callWith_builtin1 (thn (ha pos pn s σ H _ I h) λus s1 ⟨vs,H1,I1,r1,q1⟩=>hc pn s1 σ H1 vs us Q I1 r1 q1) he hpl
def fi (hc:w5 X (.type T) r) (hg:Gl X x) (hm:X.mg x=none) (hv:bootBuiltins x=some (.type T)) (ha:PA X (e :: es) t) (hn:x ≠ "__name__":=by decide) (hdb:(x == ("__debug__" : Str))=false:=by decide)
  (he:starEach (e :: es) X.env=(false,eval e X.env) :: starEach es X.env:=by rfl) (hpl:(backTo pos (starEach es X.env)).any (·.1)=false:=by rfl):PE X (.Call (.Name x p) (e :: es) [] pos) (tCB r t):=by
 intro pn s σ H Q I h
 refine wpAny_Call_Name_kw (uu I hg hm hv ?_ hn hdb)
 exact PyProof.Rows.callWith_type1 (thn (ha pos pn s σ H _ I h) λus s1 ⟨vs,H1,I1,r1,q1⟩=>hc pn s1 σ H1 vs us Q I1 r1 q1) he hpl
end
end L2
namespace HT
open PySem PyProof.Rows
section
open PySem.SeqAt
open PySem.AutoSeq1 (wpAny_loadPart')
open PySem.MeetsSeq PySem.MeetsSeq2 PySem.MeetsSeq3
end
section
variable {prog:Program} {w:World} {A:Around} {E:Value->Shared->Prop} {s:Shared}
def cat_tup {t b:Addr} {vs ws:List Value} {Q:Value->Shared->Prop} (ht:IsTup s.heap t vs.toArray) (hb:IsTup s.heap b ws.toArray) (hv:vs ≠ [])
  (h1:ws=[]->Q (.ref t) s) (h2:ws ≠ []->Q (.ref s.heap.objs.size) { s with heap:=s.heap.push { cls:=.type "tuple", data:=.seq (vs ++ ws).toArray } })
  (hsz:vs.length + ws.length <= sizeLine):wpAny (model prog w) A (binaryOp .Add (.ref t) (.ref b)) Q E s:=by
 obtain ⟨⟨cls,dd,data,sl⟩,ho,hc,n,hd⟩:=id ht
 obtain ⟨⟨cls2,dd2,data2,sl2⟩,ho2,hc2,n2,hd2⟩:=id hb
 simp only at hc hd hc2 hd2
 subst hc hd hc2 hd2
 have e:vs.toArray ++ ws.toArray=(vs ++ ws).toArray:=by simp
 by_cases hw:ws=[]
 ·exact concat_meets ⟨_,ho,rfl⟩ ⟨_,ho2,rfl⟩ noFill_tuple_add seq_tuple_add PySem.F.slot_tuple_add PySem.F.entry_tuple_add (PySem.F.args_tuple_add_2 _ _)
   (tuple_addW1 t b vs.toArray ws.toArray n n2 dd dd2 sl sl2 (by simpa using hv) (by simp [hw])) ⟨ho,ho2,h1 hw⟩
 ·refine concat_meets ⟨_,ho,rfl⟩ ⟨_,ho2,rfl⟩ noFill_tuple_add seq_tuple_add PySem.F.slot_tuple_add PySem.F.entry_tuple_add (PySem.F.args_tuple_add_2 _ _)
   (tuple_addW2 t b vs.toArray ws.toArray n n2 dd dd2 sl sl2 (by simpa using hv) (by simpa using hw) (by rw [List.size_toArray,List.size_toArray]; exact hsz)) ⟨ho,ho2,?_⟩
  rw [e]
  exact h2 hw
def sIx (n d:Nat):Option Int->Nat
 | none=>d
 | some v=>if v < 0 then (v + (n:Int)).toNat else min v.toNat n
def sIx_none (n d:Nat):sIx n d none=d:=rfl
def sIx_nat (n d k:Nat):sIx n d (some (k:Int))=min k n:=by
 show (if (k:Int) < 0 then ((k:Int) + (n:Int)).toNat else min (k:Int).toNat n)=min k n
 rw [if_neg (by omega),Int.toNat_natCast]
def Lr (n d:Nat) (hd:d <= n) (o:Option Int):sIx n d o <= n:=by
 cases o with
 | none=>exact hd
 | some v =>
  show (if v < 0 then (v + (n:Int)).toNat else min v.toNat n) <= n
  by_cases hv:v < 0
  ·rw [if_pos hv]; omega
  ·rw [if_neg hv]; exact Nat.min_le_right _ _
def Tx (v:Int) (n d:Nat):(if v < 0 then max (v + (n:Int)) 0 else min v (n:Int))=((sIx n d (some v):Nat):Int):=by
 show (if v < 0 then max (v + (n:Int)) 0 else min v (n:Int))=(((if v < 0 then (v + (n:Int)).toNat else min v.toNat n):Nat):Int)
 by_cases hv:v < 0
 ·simp only [if_pos hv]; omega
 ·simp only [if_neg hv]; omega
def Wq (lo hi:Option Int) (n:Nat):Builtin.Slice.sliceAdjust lo hi 1 (n:Int)=(((sIx n 0 lo:Nat):Int),((sIx n n hi:Nat):Int)):=by
 have h1:¬ ((1:Int) < 0):=by omega
 unfold Builtin.Slice.sliceAdjust
 simp only [h1,if_false]
 refine Prod.ext ?_ ?_
 ·cases lo with
  | none=>rfl
  | some v=>exact Tx v n 0
 ·cases hi with
  | none=>rfl
  | some v=>exact Tx v n n
def Xu (i j:Nat):Builtin.Slice.slicePlaces (i:Int) (j:Int) 1=j - i:=by
 unfold Builtin.Slice.slicePlaces
 have h1:(1:Int) > 0:=by omega
 simp only [h1,if_true,Int.ediv_one]
 split <;> omega
def kg {v:Value} {o:Option Int} {Q:Option Int->Shared->Prop} (p:IsPart v o) (h:Q o s):wpAny (model prog w) A (Builtin.Slice.slicePartIndex v) Q E s:=by
 cases p with
 | none=>exact slicePart_none h
 | int i t=>exact slicePart_int h
def we {sl:Addr} {vl vu:Value} {lo hi:Option Int} {n:Nat} {Q:Int × Int × Nat->Shared->Prop} (hs:s.heap.IsSliceOf sl vl vu .none) (pl:IsPart vl lo) (pu:IsPart vu hi)
  (h:Q (((sIx n 0 lo:Nat):Int),1,sIx n n hi - sIx n 0 lo) s):wpAny (model prog w) A (Builtin.Slice.sliceApplied (.ref sl) (pure (n:Int))) Q E s:=by
 obtain ⟨os,hos,hcs,hds⟩:=id hs
 unfold Builtin.Slice.sliceApplied Builtin.Slice.sliceFields
 refine wpAny_bind (wpAny_bind (wpAny_field hos hds (x:=vl) rfl (wpAny_bind (wpAny_field hos hds (x:=vu) rfl (wpAny_bind (wpAny_field hos hds (x:=.none) rfl (wpAny_pure ?_)))))))
 refine wpAny_bind (slicePart_none ?_)
 show wpAny _ _ (if ((1:Int) == 0)=true then _ else _) _ _ s
 rw [if_neg (by decide)]
 refine wpAny_bind (kg pl (wpAny_bind (kg pu (wpAny_bind (wpAny_pure ?_)))))
 show wpAny _ _ (match Builtin.Slice.sliceAdjust lo hi 1 (n:Int) with | (lo,hi)=>pure (lo,(1:Int),Builtin.Slice.slicePlaces lo hi 1)) _ _ s
 rw [Wq lo hi n]
 show wpAny _ _ (pure (((sIx n 0 lo:Nat):Int),(1:Int),Builtin.Slice.slicePlaces ((sIx n 0 lo:Nat):Int) ((sIx n n hi:Nat):Int) 1)) _ _ s
 rw [Xu]
 exact wpAny_pure h
def Rm (xs:Array Value) (i k:Nat):((List.range k).filterMap λ(m:Nat)=>xs[((i:Int) + (m:Int) * 1).toNat]?).toArray=((xs.toList.drop i).take k).toArray:=by
 have e:(λ(m:Nat)=>xs[((i:Int) + (m:Int) * 1).toNat]?)=λm=>xs[i + m]?:=by
  funext m
  have:((i:Int) + (m:Int) * 1).toNat=i + m:=by omega
  rw [this]
 rw [e]
 have:=pick_run xs i k
 rw [List.filterMap_map] at this
 have e2:((λx=>xs[x]?) ∘ λx=>i + x)=λm=>xs[i + m]?:=rfl
 rw [e2] at this
 rw [this]
def getItem_tuple_cut {t sl:Addr} {items:Array Value} {vl vu:Value} {lo hi:Option Int} {Q:Value->Shared->Prop} (ht:IsTup s.heap t items) (hs:s.heap.IsSliceOf sl vl vu .none) (pl:IsPart vl lo) (pu:IsPart vu hi)
  (hw:¬ (sIx items.size 0 lo=0 /\ sIx items.size items.size hi=items.size))
  (h:Q (.ref s.heap.objs.size) { s with heap:=s.heap.push { cls:=.type "tuple", data:=.seq ((items.toList.drop (sIx items.size 0 lo)).take (sIx items.size items.size hi - sIx items.size 0 lo)).toArray } })
  (hsz:items.size <= sizeLine):wpAny (model prog w) A (getItem (.ref t) (.ref sl)) Q E s:=by
 have htake:sizeOk (.seq ((items.toList.drop (sIx items.size 0 lo)).take (sIx items.size items.size hi - sIx items.size 0 lo)).toArray):=by
  show ((items.toList.drop (sIx items.size 0 lo)).take (sIx items.size items.size hi - sIx items.size 0 lo)).toArray.size <= sizeLine
  rw [List.size_toArray,List.length_take,List.length_drop,Array.length_toList]
  omega
 have hj:sIx items.size items.size hi <= items.size:=Lr _ _ (Nat.le_refl _) hi
 obtain ⟨os,hos,hcs,hds⟩:=id hs
 have hTs:s.TypeIs (.ref sl) "slice":=⟨os,hos,hcs⟩
 unfold getItem
 try with_reducible refine wpAny_holding ?_
 first | refine wpAny_bind (wpAny_pure ?_) | skip
 refine wpAny_bind (wpAny_sequenceKey ht.typeIs (by decide) ?_)
 refine wpAny_bind (wpAny_callSpecial?_slot (name:=Str.ofString "__getitem__") ht.typeIs PyProof.Rows.slot_tuple_getitem
  (wpAny_call_entry PyProof.Rows.slot_tuple_getitem ht.typeIs entry_tuple_getitem ?_ (args_tuple_getitem _ _)))
 show wpAny _ _ (Builtin.Tuple.tupleItemsOf (.ref t) >>= _) _ _ s
 refine wpAny_bind (tupleItemsOf_ ht ?_)
 refine wpAny_bind (wpAny_typeOf hTs ?_)
 rw [if_pos (by decide)]
 refine wpAny_bind (we hs pl pu ?_)
 have hno:¬ ((((sIx items.size 0 lo:Nat):Int) == 0 && (1:Int) == 1 && (sIx items.size items.size hi - sIx items.size 0 lo) == items.size)=true):=by
  intro q
  rw [Bool.and_eq_true,Bool.and_eq_true] at q
  have q1:((sIx items.size 0 lo:Nat):Int)=0:=eq_of_beq q.1.1
  have q2:sIx items.size items.size hi - sIx items.size 0 lo=items.size:=eq_of_beq q.2
  exact hw ⟨by omega,by omega⟩
 show wpAny _ _ (if (((sIx items.size 0 lo:Nat):Int) == 0 && (1:Int) == 1 && (sIx items.size items.size hi - sIx items.size 0 lo) == items.size)=true then _ else _) _ _ s
 rw [if_neg hno,Rm]
 first
  | exact wpAny_bind (m:=Builtin.Tuple.tupleExact _) (wpAny_newObj_type (wpAny_pure ⟨_,rfl,wpAny_pure h⟩) htake)
  | exact wpAny_bind (m:=Builtin.Tuple.tupleExact _) (wpAny_newObj_type (wpAny_bind (wpAny_pure (wpAny_pure ⟨_,rfl,wpAny_pure h⟩))) htake)
  | exact wpAny_bind (wpAny_bind (m:=Builtin.Tuple.tupleExact _) (wpAny_newObj_type (wpAny_pure (wpAny_pure ⟨_,rfl,wpAny_pure h⟩)) htake))
  | exact wpAny_bind (wpAny_bind (m:=Builtin.Tuple.tupleExact _) (wpAny_newObj_type (wpAny_pure ⟨_,rfl,wpAny_pure h⟩) htake))
end
end HT
namespace L2
open PySem PySem.Spec PyProof.Rows
abbrev TO:=St->Hp->(Option Int->Hp->Prop)->Prop
def PO (X:Cx) (e:Option Expr) (t:TO):Prop :=
 ∀ (pn:List (Addr × Obj)) (s:Shared) (σ:St) (H:Hp) (Q:Option Int->Hp->Prop),Inv X pn σ H s->t σ H Q ->
  wpAny (model X.prog X.w) X.A (evalPart e X.env) (λu s'=>∃ o H',Inv X pn σ H' s' /\ IsPart u o /\ Q o H') X.xe s
def Oc:TO:=λ_ H Q=>Q none H
def Hs (t:TE):TO:=λσ H Q=>t σ H λx H1=>∃ i,x=.int i /\ Q (some i) H1
section
variable {X:Cx} {e:Expr} {te:TE} {lo hi:Option Expr} {tl th:TO} {pos p2:Pos}
def N5:PO X none Oc:=by
 intro pn s σ H Q I h
 rw [evalPart_none]
 exact wpAny_pure ⟨none,H,I,.none,h⟩
def N4 (h:PE X e te):PO X (some e) (Hs te):=by
 intro pn s σ H Q I hw
 rw [evalPart_some]
 refine thn (h pn s σ H _ I hw) λu s1 ⟨x,H1,I1,r1,q1⟩=>?_
 obtain ⟨i,rfl,q⟩:=q1
 obtain ⟨t,rfl⟩:=r1
 exact ⟨some i,H1,I1,.int i t,q⟩
def SlR (X:Cx) (r:V->Option Int->Option Int->Hp->VK->Prop):Prop :=
 ∀ (pn:List (Addr × Obj)) (s:Shared) (σ:St) (H:Hp) (x:V) (v vl vu:Value) (lo hi:Option Int) (sl:Addr) (Q:VK),Inv X pn σ H s->RelV x v->s.heap.IsSliceOf sl vl vu .none->IsPart vl lo->IsPart vu hi->r x lo hi H Q ->
  ∃ T id,typeLookup (.type T) "__getitem__" = pure (some (.builtin id)) /\ s.TypeIs v T /\ wpAny (model X.prog X.w) X.A (getItem v (.ref sl)) (EP X pn σ Q) X.xe s
def SlR.or {r r':V->Option Int->Option Int->Hp->VK->Prop} (h:SlR X r) (h':SlR X r'):SlR X (λx lo hi H Q=>r x lo hi H Q \/ r' x lo hi H Q):=by
 intro pn s σ H x v vl vu lo hi sl Q I rx hs pl pu q
 rcases q with q | q
 ·exact h pn s σ H x v vl vu lo hi sl Q I rx hs pl pu q
 ·exact h' pn s σ H x v vl vu lo hi sl Q I rx hs pl pu q
def tSl (r:V->Option Int->Option Int->Hp->VK->Prop) (te:TE) (tl th:TO):TE:=λσ H Q=>te σ H λx H1=>tl σ H1 λl H2=>th σ H2 λu H3=>r x l u H3 Q
def Yl {r:V->Option Int->Option Int->Hp->VK->Prop} (hr:SlR X r) (he:PE X e te) (hl:PO X lo tl) (hu:PO X hi th):PE X (.Subscript e (.Slice lo hi none p2) pos) (tSl r te tl th):=by
 intro pn s σ H Q I h
 refine Subscript_ (thn (he pn s σ H _ I h) λv s1 ⟨x,H1,I1,r1,q1⟩=>?_)
 refine wpAny_Slice (thn (hl pn s1 σ H1 _ I1 q1) λvl s2 ⟨l,H2,I2,pl,q2⟩=>thn (hu pn s2 σ H2 _ I2 q2) λvu s3 ⟨u,H3,I3,pu,q3⟩=>?_)
 rw [evalPart_none]
 refine wpAny_pure ?_
 have I4:Inv X pn σ H3 { s3 with heap:=s3.heap.push { cls:=.type "slice", data:=.fields #[vl,vu,.none] } }:=I3.kept (t':=s3.toks) λb ob q=>Heap.get?_push_of_some _ q
 obtain ⟨T,id,hT,ht,hg⟩:=hr pn { s3 with heap:=s3.heap.push { cls:=.type "slice", data:=.fields #[vl,vu,.none] } } σ H3 x v vl vu l u s3.heap.objs.size Q I4 r1 (Heap.IsSliceOf.new ..) pl pu q3
 show wpAny (model X.prog X.w) X.A (subscriptTail e (.Slice lo hi none p2) v (.ref s3.heap.objs.size)) (EP X pn σ Q) X.xe { s3 with heap:=s3.heap.push { cls:=.type "slice", data:=.fields #[vl,vu,.none] } }
 exact tail_any (ops:=[.ref s3.heap.objs.size,v]) ht hT hg (by with_unfolding_all rfl)
def cutV (xs:List V) (lo hi:Option Int):List V:=(xs.drop (HT.sIx xs.length 0 lo)).take (HT.sIx xs.length xs.length hi - HT.sIx xs.length 0 lo)
def qj (xs:List V) (lo hi:Option Int):(cutV xs lo hi).length <= xs.length:=by
 unfold cutV
 rw [List.length_take,List.length_drop]
 omega
def rSlT (K:W.Frag):V->Option Int->Option Int->Hp->VK->Prop:=λx lo hi H Q=>∃ a xs,x=.ref a /\ SqT K H a xs /\
 ¬ (HT.sIx xs.length 0 lo=0 /\ HT.sIx xs.length xs.length hi=xs.length) /\ ∀ p,H p=none->Q (.ref p) (upd H p (.tup (cutV xs lo hi)))
def Pc:SlR X (rSlT X.K):=by
 intro pn s σ H x v vl vu lo hi sl Q I rx hs pl pu h
 obtain ⟨a,xs,rfl,hx,hw,q⟩:=h
 cases rx
 obtain ⟨its,r,ht,hz⟩:=I.tuple hx
 have hlen:its.toArray.size=xs.length:=by rw [List.size_toArray]; exact r.length.symm
 refine ⟨"tuple", _,PyProof.Rows.slot_tuple_getitem.lookup,ht.typeIs,?_⟩
 refine HT.getItem_tuple_cut ht hs pl pu (by rw [hlen]; exact hw) ?_ (by rw [hlen]; exact hz)
 rw [hlen]
 refine ⟨.ref s.heap.objs.size,_,I.laid (t':=s.toks) (o:=.tup (cutV xs lo hi)) (λb ob q=>Heap.get?_push_of_some _ q) (Nat.le_refl _) ?_,rfl,q _ (I.hok.fresh (Nat.le_refl _))⟩
 exact ⟨Nat.le_trans (qj xs lo hi) hz,_,(r.drop (HT.sIx xs.length 0 lo)).take (HT.sIx xs.length xs.length hi - HT.sIx xs.length 0 lo),IsTup.new _ _,_,Heap.get?_push_size _ rfl,rfl⟩
def K2 (K:W.Frag):R2:=λx y H Q=>∃ a b xs ys,x=.ref a /\ y=.ref b /\ SqT K H a xs /\ SqT K H b ys /\ xs ≠ [] /\ xs.length + ys.length <= sizeLine /\
 (ys=[]->Q (.ref a) H) /\ (ys ≠ []->∀ p,H p=none->Q (.ref p) (upd H p (.tup (xs ++ ys))))
def Vals.nil_iff {xs:List V} {us:List Value} (r:Vals xs us):us=[] ↔ xs=[]:=by
 cases r with
 | nil=>simp
 | cons _ _=>simp
def U5:OpR X (binaryOp .Add) (K2 X.K):=by
 intro pn s σ H x y v u Q I rx ry h
 obtain ⟨a,b,xs,ys,rfl,rfl,ha,hb,hx,hz,q1,q2⟩:=h
 cases rx
 cases ry
 obtain ⟨its,r1,p1,_⟩:=I.tuple ha
 obtain ⟨its2,r2,p2,_⟩:=I.tuple hb
 refine HT.cat_tup p1 p2 (λz=>hx (r1.nil_iff.mp z)) (λz=>⟨.ref a,H,I,rfl,q1 (r2.nil_iff.mp z)⟩) (λz=>?_) (by rw [<- r1.length,<- r2.length]; exact hz)
 refine ⟨.ref s.heap.objs.size,_,I.laid (t':=s.toks) (o:=.tup (xs ++ ys)) (λb ob q=>Heap.get?_push_of_some _ q) (Nat.le_refl _) ?_,rfl,q2 (λw=>z (r2.nil_iff.mpr w)) _ (I.hok.fresh (Nat.le_refl _))⟩
 exact ⟨by rw [zLa]; exact hz,_,r1.append r2,IsTup.new _ _,_,Heap.get?_push_size _ rfl,rfl⟩
end
def ixN (n:Nat) (i:Int):Option Nat:=if 0 <= i then (if i < n then some i.toNat else none) else if -(n:Int) <= i then some (i + n).toNat else none
def atI {α:Type} (xs:List α) (i:Int):Option α:=(ixN xs.length i).bind λj=>xs[j]?
def Uw {n:Nat} {i:Int} {j:Nat} (h:ixN n i=some j):seqIndex? i n=some j /\ j < n /\ -(n:Int) <= i /\ i < n:=by
 unfold ixN at h
 by_cases h0:0 <= i
 ·rw [if_pos h0] at h
  by_cases h1:i < n
  ·rw [if_pos h1] at h
   have e:i.toNat=j:=Option.some.inj h
   exact ⟨by rw [seqIndex_of h0 h1,e],by omega,by omega,h1⟩
  ·rw [if_neg h1] at h; cases h
 ·rw [if_neg h0] at h
  by_cases h1:-(n:Int) <= i
  ·rw [if_pos h1] at h
   have e:(i + n).toNat=j:=Option.some.inj h
   exact ⟨by rw [seqIndex_neg (by omega) h1,e],by omega,h1,by omega⟩
  ·rw [if_neg h1] at h; cases h
def gj {α:Type} {xs:List α} {i:Int} {v:α} (h:atI xs i=some v):∃ j,seqIndex? i xs.length=some j /\ xs[j]?=some v /\ j < xs.length /\ -(xs.length:Int) <= i /\ i < xs.length:=by
 unfold atI at h
 cases e:ixN xs.length i with
 | none=>rw [e] at h; cases h
 | some j =>
  rw [e] at h
  obtain ⟨h1,h2,h3,h4⟩:=Uw e
  exact ⟨j,h1,h,h2,h3,h4⟩
def gi {α:Type} {xs:List α} {j:Nat} {v:α} (h:xs[j]?=some v):atI xs (j:Int)=some v:=by
 have hj:j < xs.length:=(List.getElem?_eq_some_iff.mp h).1
 have e:ixN xs.length (j:Int)=some j:=by
  unfold ixN
  rw [if_pos (by omega),if_pos (by omega)]; simp
 unfold atI; rw [e]; exact h
def S9 (b:Expr):Prop:=∀ o i,subscripted b false o i=operate [o,i] (getItem o i)
def IxR (X:Cx) (r:R2):Prop :=
 ∀ (value slice:Expr) (pn:List (Addr × Obj)) (s:Shared) (σ:St) (H:Hp) (x y:V) (v u:Value) (Q:VK),Inv X pn σ H s->RelV x v->RelV y u->r x y H Q ->
  subscripted slice false v u=operate [v,u] (getItem v u)->wpAny (model X.prog X.w) X.A (subscriptTail value slice v u) (EP X pn σ Q) X.xe s
def MtR (X:Cx) (id:String) (r:V->List V->Hp->VK->Prop):Prop :=
 ∀ (pn:List (Addr × Obj)) (s:Shared) (σ:St) (H:Hp) (x:V) (xs:List V) (v:Value) (us:List Value) (Q:VK),Inv X pn σ H s->RelV x v->Vals xs us->r x xs H Q ->
  wpAny (model X.prog X.w) X.A (call (.builtin id) (v :: us)) (EP X pn σ Q) X.xe s
section
variable {X:Cx} {a b:Expr} {ta tb:TE} {pos:Pos}
def IxR.or {r r':R2} (h:IxR X r) (h':IxR X r'):IxR X (λx y H Q=>r x y H Q \/ r' x y H Q):=by
 intro value slice pn s σ H x y v u Q I rx ry q hs
 rcases q with q | q
 ·exact h value slice pn s σ H x y v u Q I rx ry q hs
 ·exact h' value slice pn s σ H x y v u Q I rx ry q hs
def G8 {r:R2} (hr:IxR X r) (ha:PE X a ta) (hb:PE X b tb) (hs:S9 b):PE X (.Subscript a b pos) (tOp r ta tb):=by
 intro pn s σ H Q I h
 exact Subscript_ (binT ha hb I h λv u s2 x y H2 I2 rx ry q=>hr a b pn s2 σ H2 x y v u Q I2 rx ry q (hs _ _))
def rIxL (K:W.Frag):R2:=λx y H Q=>∃ p xs i v,x=.ref p /\ y=.int i /\ SqL K H p xs /\ atI xs i=some v /\ Q v H
def rIxT (K:W.Frag):R2:=λx y H Q=>∃ p xs i v,x=.ref p /\ y=.int i /\ SqT K H p xs /\ atI xs i=some v /\ Q v H
def rIxS:R2:=λx y H Q=>∃ z i c,x=.str z /\ y=.int i /\ z.length <= sizeLine /\ atI z.cps.toList i=some c /\ Q (.str ⟨#[c]⟩) H
def M3:IxR X (rIxL X.K):=by
 intro value slice pn s σ H x y v u Q I rx ry h hs
 obtain ⟨p,xs,i,z,rfl,rfl,hq,he,q⟩:=h
 cases rx
 obtain ⟨t,rfl⟩:=ry
 obtain ⟨its,r,pl,hz⟩:=I.list hq
 obtain ⟨j,h1,h2,h3,h4,h5⟩:=gj he
 obtain ⟨w,ew,rw'⟩:=r.get h2
 have hl:=r.length
 have hn:=ut
 have fin:EP X pn σ Q w s:=⟨z,H,I,rw',q⟩
 by_cases h0:0 <= i
 ·have hj:i.toNat=j:=by
   rw [seqIndex_of h0 h5] at h1
   exact Option.some.inj h1
  exact item_listR pl.isList h0 (by omega) (by rw [hj]; simpa using ew) fin hs
 ·have hj:(i + (its.toArray.size:Int)).toNat=j:=by
   rw [seqIndex_neg (by omega) h4] at h1
   rw [List.size_toArray,<- hl]
   exact Option.some.inj h1
  exact subscriptTail_builtinR (x:=w) pl.isList.typeIs slot_list_getitem.lookup
   (wpAny_getItem_list_neg (Q:=λr s'=>r=w /\ EP X pn σ Q r s') pl.isList (by omega) (by rw [List.size_toArray] <;> omega) (by omega) (by rw [hj]; simpa using ew) ⟨rfl,fin⟩) hs
def Jd:IxR X (rIxT X.K):=by
 intro value slice pn s σ H x y v u Q I rx ry h hs
 obtain ⟨p,xs,i,z,rfl,rfl,hq,he,q⟩:=h
 cases rx
 obtain ⟨t,rfl⟩:=ry
 obtain ⟨its,r,pl,hz⟩:=I.tuple hq
 obtain ⟨j,h1,h2,h3,h4,h5⟩:=gj he
 obtain ⟨w,ew,rw'⟩:=r.get h2
 have hl:=r.length
 have hn:=ut
 have fin:EP X pn σ Q w s:=⟨z,H,I,rw',q⟩
 exact subscriptTail_builtinR (x:=w) pl.typeIs slot_tuple_getitem.lookup
  (getItem_tuple (j:=j) (Q:=λr s'=>r=w /\ EP X pn σ Q r s') pl (by omega) (by omega) (by rw [List.size_toArray,<- hl]; exact h1) (by simpa using ew) ⟨rfl,fin⟩) hs
def Je:IxR X rIxS:=by
 intro value slice pn s σ H x y v u Q I rx ry h hs
 obtain ⟨z,i,c,rfl,rfl,hz,he,q⟩:=h
 obtain ⟨t,rfl⟩:=rx
 obtain ⟨t',rfl⟩:=ry
 obtain ⟨j,h1,h2,h3,h4,h5⟩:=gj he
 have hl:z.cps.toList.length=z.length:=by simp [Str.length]
 rw [hl] at h1 h4 h5
 have hn:=ut
 exact tail_any (typeIs_str s z t) slot_str_getitem.lookup (getItem_str (c:=c) (by
  have e1:decide (i < -(2 ^ 63:Int))=false:=decide_eq_false (by omega)
  have e2:decide (i ≥ 2 ^ 63)=false:=decide_eq_false (by omega)
  rw [e1,e2,Bool.or_false]) (by rw [h1]; simpa using h2) ⟨.str ⟨#[c]⟩,H,I.tok _,⟨_,rfl⟩,q⟩) hs
def rIx (K:W.Frag):R2:=λx y H Q=>rIxL K x y H Q \/ rIxT K x y H Q \/ rIxS x y H Q
def Jf:IxR X (rIx X.K):=M3.or (Jd.or Je)
def Xz (its:List Value) (n j:Nat) (u:Value):Obj.mapSeq (·.setIfInBounds j u) { cls:=.type "list", data:=.seq its.toArray n }={ cls:=.type "list", data:=.seq (its.set j u).toArray n }:=by
 simp [Obj.mapSeq]
def Inv.lst {pn:List (Addr × Obj)} {σ:St} {H:Hp} {s:Shared} {p:Addr} {xs:List V} (I:Inv X pn σ H s) (h:H p=some (.lst xs)) :
  ∃ (its:List Value) (n:Nat),Vals xs its /\ s.heap.get? p=some { cls:=.type "list", data:=.seq its.toArray n } /\ xs.length <= sizeLine:=by
 obtain ⟨z,its,n,r,e⟩:=I.hok p _ h
 exact ⟨its,n,r,e,z⟩
def Inv.lstUpd {pn:List (Addr × Obj)} {σ:St} {H:Hp} {s:Shared} {p:Addr} {xs ys:List V} {its its':List Value} {n n':Nat} {f:Obj->Obj} (I:Inv X pn σ H s) (h:H p=some (.lst xs))
  (ho:s.heap.get? p=some { cls:=.type "list", data:=.seq its.toArray n }) (hf:f { cls:=.type "list", data:=.seq its.toArray n }={ cls:=.type "list", data:=.seq its'.toArray n' }) (r:Vals ys its') (hz:ys.length <= sizeLine) (t:Nat) :
  Inv X pn σ (upd H p (.lst ys)) { s with heap:=s.heap.update p f,toks:=t }:=by
 have e:(s.heap.update p f).get? p=some { cls:=.type "list", data:=.seq its'.toArray n' }:=by
  rw [Heap.get?_update_self f ho (by rw [hf] <;> rfl),hf]
 refine I.write (x:=p) (e:=p) (by rw [h]; trivial) (.inl rfl) (λb u hb q=>(Heap.get?_update_other _ _ (Ne.symm hb)).trans q) ⟨_,e⟩ ?_
 exact ⟨hz,its',n',r,e⟩
def G2:V->V->V->Hp->(Hp->Prop)->Prop:=λo i v H Q=>∃ p xs k j,o=.ref p /\ i=.int k /\ H p=some (.lst xs) /\ ixN xs.length k=some j /\ Q (upd H p (.lst (xs.set j v)))
def Su:PSet X G2:=by
 intro pn s σ H o i v ov iv u Q I ro ri rv h
 obtain ⟨p,xs,k,j,rfl,rfl,hp,hj,q⟩:=h
 cases ro
 obtain ⟨t,rfl⟩:=ri
 obtain ⟨its,n,r,ho,hz⟩:=I.lst hp
 obtain ⟨h1,h2,h3,h4⟩:=Uw hj
 have hl:=r.length
 have hn:=ut
 have I':Inv X pn σ (upd H p (.lst (xs.set j v))) { s with heap:=s.heap.update p (Obj.mapSeq (·.setIfInBounds j u)) } :=
  I.lstUpd hp ho (Xz its n j u) (r.set rv j) (by rw [List.length_set]; exact hz) s.toks
 by_cases h0:0 <= k
 ·have hk:k.toNat=j:=by
   rw [seqIndex_of h0 h4] at h1
   exact Option.some.inj h1
  exact W.ki_setAt ho h0 (by omega) (by rw [List.size_toArray,<- hl]; exact h4) (by rw [hk]; exact ⟨_,I',q⟩)
 ·have hk:(k + (its.toArray.size:Int)).toNat=j:=by
   rw [seqIndex_neg (by omega) h3] at h1
   rw [List.size_toArray,<- hl]
   exact Option.some.inj h1
  exact W.ki_setBack ho (by omega) (by rw [List.size_toArray,<- hl]; exact h3) (by omega) (by rw [hk]; exact ⟨_,I',q⟩)
def gz (lo hi:Option Int) (n:Nat):(sliceBounds lo hi none n).1=((HT.sIx n 0 lo:Nat):Int) /\ (sliceBounds lo hi none n).2.1=((HT.sIx n n hi:Nat):Int) /\ (sliceBounds lo hi none n).2.2=1:=by
 refine ⟨?_,?_,rfl⟩
 ·cases lo with
  | none=>simp [sliceBounds,HT.sIx]
  | some i =>
   simp only [sliceBounds,HT.sIx,Option.getD_none,show (1:Int) > 0 by decide,if_true]
   by_cases h:i < 0
   ·simp only [h,if_true] <;> omega
   ·simp only [h,if_false] <;> omega
 ·cases hi with
  | none=>simp [sliceBounds,HT.sIx]
  | some i =>
   simp only [sliceBounds,HT.sIx,Option.getD_none,show (1:Int) > 0 by decide,if_true]
   by_cases h:i < 0
   ·simp only [h,if_true] <;> omega
   ·simp only [h,if_false] <;> omega
def jf (its:List Value) (lo hi:Option Int):slicePick its.toArray lo hi none=((its.drop (HT.sIx its.length 0 lo)).take (HT.sIx its.length its.length hi - HT.sIx its.length 0 lo)).toArray:=by
 obtain ⟨h1,h2,h3⟩:=gz lo hi its.toArray.size
 unfold slicePick
 rw [h1,h2,h3]
 simp only [sliceRange_one,pick_run,List.size_toArray] <;> rfl
def rSlL (K:W.Frag):V->Option Int->Option Int->Hp->VK->Prop:=λx lo hi H Q=>∃ a xs,x=.ref a /\ SqL K H a xs /\ ∀ p,H p=none->Q (.ref p) (upd H p (.lst (cutV xs lo hi)))
def Oh:SlR X (rSlL X.K):=by
 intro pn s σ H x v vl vu lo hi sl Q I rx hs pl pu h
 obtain ⟨a,xs,rfl,hx,q⟩:=h
 cases rx
 obtain ⟨its,r,ht,hz⟩:=I.list hx
 have hlen:=r.length
 refine ⟨"list", _,slot_list_getitem.lookup,ht.isList.typeIs,?_⟩
 refine wpAny_getItem_list_slice ht.isList hs pl pu .none (by simp) ?_ (by rw [List.size_toArray] <;> omega)
 rw [jf,<- hlen]
 refine ⟨.ref s.heap.objs.size,_,I.laid (t':=s.toks) (o:=.lst (cutV xs lo hi)) (λb ob q=>Heap.get?_push_of_some _ q) (Nat.le_refl _) ?_,rfl,q _ (I.hok.fresh (Nat.le_refl _))⟩
 exact ⟨Nat.le_trans (qj xs lo hi) hz,_,0,(r.drop (HT.sIx xs.length 0 lo)).take (HT.sIx xs.length xs.length hi - HT.sIx xs.length 0 lo),Heap.get?_push_size _ rfl⟩
def qt:V->Bool
 | .non=>true
 | .bl _=>true
 | .int _=>true
 | .str _=>true
 | _=>false
def eqV:V->V->Bool
 | .non,.non=>true
 | .bl a,.bl b=>a == b
 | .bl a,.int b=>(if a then 1 else 0) == b
 | .int a,.bl b=>a == (if b then 1 else 0)
 | .int a,.int b=>a == b
 | .str a,.str b=>a == b
 | _,_=>false
def Jw {A:Around} {s:Shared} {y x:V} {u v:Value} (ry:RelV y u) (rx:RelV x v) (fy:qt y=true) (fx:qt x=true):SeqAt.EqAt A s u v (eqV y x):=by
 cases y with
 | non =>
  cases ry
  cases x with
  | non=>cases rx; exact SeqAt.EqAt.same _
  | bl b=>cases rx; exact SeqAt.EqAt.none_bool b
  | int b=>obtain ⟨t,rfl⟩:=rx; exact SeqAt.EqAt.none_int b t
  | str b=>obtain ⟨t,rfl⟩:=rx; exact SeqAt.EqAt.none_str b t
  | _=>exact absurd (show false=true from fx) Bool.false_ne_true
 | bl a =>
  cases ry
  cases x with
  | non=>cases rx; exact SeqAt.EqAt.bool_none a
  | bl b=>cases rx; exact SeqAt.EqAt.bool_bool a b
  | int b=>obtain ⟨t,rfl⟩:=rx; exact SeqAt.EqAt.bool_int a b t
  | str b=>obtain ⟨t,rfl⟩:=rx; exact SeqAt.EqAt.bool_str a b t
  | _=>exact absurd (show false=true from fx) Bool.false_ne_true
 | int a =>
  obtain ⟨t',rfl⟩:=ry
  cases x with
  | non=>cases rx; exact SeqAt.EqAt.int_none a t'
  | bl b=>cases rx; exact SeqAt.EqAt.int_bool a t' b
  | int b=>obtain ⟨t,rfl⟩:=rx; exact SeqAt.EqAt.int_int a t' b t
  | str b=>obtain ⟨t,rfl⟩:=rx; exact SeqAt.EqAt.int_str a t' b t
  | _=>exact absurd (show false=true from fx) Bool.false_ne_true
 | str a =>
  obtain ⟨t',rfl⟩:=ry
  cases x with
  | non=>cases rx; exact SeqAt.EqAt.str_none a t'
  | bl b=>cases rx; exact SeqAt.EqAt.str_bool a t' b
  | int b=>obtain ⟨t,rfl⟩:=rx; exact SeqAt.EqAt.str_int a t' b t
  | str b=>obtain ⟨t,rfl⟩:=rx; exact SeqAt.EqAt.str_str a t' b t
  | _=>exact absurd (show false=true from fx) Bool.false_ne_true
 | _=>exact absurd (show false=true from fy) Bool.false_ne_true
def eqU (x:V) (u:Value):Bool:=match u with
 | .none=>eqV .non x
 | .bool b=>eqV (.bl b) x
 | .int i _=>eqV (.int i) x
 | .str z _=>eqV (.str z) x
 | _=>false
def Py {x y:V} {u:Value} (r:RelV y u) (f:qt y=true):eqU x u=eqV y x:=by
 cases y with
 | non=>cases r; rfl
 | bl b=>cases r; rfl
 | int i=>obtain ⟨t,rfl⟩:=r; rfl
 | str z=>obtain ⟨t,rfl⟩:=r; rfl
 | _=>exact absurd (show false=true from f) Bool.false_ne_true
def Y2 {x:V}:∀ {xs:List V} {us:List Value},Vals xs us->xs.all qt=true->us.any (eqU x)=xs.any λy=>eqV y x
 | _,_,.nil,_=>rfl
 | y :: xs,u :: us,.cons r t,f=>by
  rw [List.all_cons,Bool.and_eq_true] at f
  rw [List.any_cons,List.any_cons,Py r f.1,Y2 t f.2]
def jl {A:Around} {s:Shared} {x:V} {v:Value} (rx:RelV x v) (fx:qt x=true):∀ {xs:List V} {us:List Value},Vals xs us->xs.all qt=true->∀ u ∈ us,SeqAt.EqAt A s u v (eqU x u)
 | _,_,.nil,_=>λu hu=>by cases hu
 | y :: xs,u :: us,.cons r t,f=>λu' hu=>by
  rw [List.all_cons,Bool.and_eq_true] at f
  rcases List.mem_cons.mp hu with rfl | hu
  ·rw [Py r f.1]; exact Jw r rx f.1 fx
  ·exact jl rx fx t f.2 u' hu
def inV (x:V) (xs:List V):Bool:=xs.any λy=>eqV y x
def rIn (K:W.Frag) (neg:Bool):R2:=λx y H Q=>∃ p xs,y=.ref p /\ (SqL K H p xs \/ SqT K H p xs) /\ qt x=true /\ xs.all qt=true /\ Q (.bl (if neg then !inV x xs else inV x xs)) H
def fm:OpR X (compareOp .In) (rIn X.K false):=by
 intro pn s σ H x y v u Q I rx ry h
 obtain ⟨p,xs,rfl,hq,fx,fs,q⟩:=h
 cases ry
 rcases hq with hq | hq
 ·obtain ⟨its,r,pl,hz⟩:=I.list hq
  refine SeqAt.in_listAt (eqU x) pl.isList (λw hw=>jl rx fx r fs w (by simpa using hw)) ⟨.bl _,H,I,rfl,?_⟩
  rw [show its.toArray.any (eqU x)=its.any (eqU x) by simp,Y2 r fs]
  exact q
 ·obtain ⟨its,r,pl,hz⟩:=I.tuple hq
  refine SeqAt.in_tupleAt (eqU x) pl (λw hw=>jl rx fx r fs w (by simpa using hw)) ⟨.bl _,H,I,rfl,?_⟩
  rw [show its.toArray.any (eqU x)=its.any (eqU x) by simp,Y2 r fs]
  exact q
def uw:w5 X (.builtin "len") (λxs H Q=>∃ p ys,xs=[.ref p] /\ (SqL X.K H p ys \/ SqT X.K H p ys) /\ Q (.int ys.length) H):=by
 intro pn s σ H xs us Q I r h
 obtain ⟨p,ys,rfl,hq,q⟩:=h
 obtain ⟨u,rfl,rx⟩:=ux r
 cases rx
 have hn:=ut
 rcases hq with hq | hq
 ·obtain ⟨its,r',pl,hz⟩:=I.list hq
  have hlen:=r'.length
  exact Calls.call_len_list pl.isList (by simp only [List.size_toArray] <;> omega) ⟨.int ys.length,H,I.tok _,⟨s.toks + 1,by rw [List.size_toArray,hlen]⟩,q⟩
 ·obtain ⟨its,r',pl,hz⟩:=I.tuple hq
  have hlen:=r'.length
  exact len_tuple pl (by simp only [List.size_toArray] <;> omega) ⟨.int ys.length,H,I.tok _,⟨s.toks + 1,by rw [List.size_toArray,hlen]⟩,q⟩
def b8:w5 X (.builtin "len") (λxs H Q=>∃ z,xs=[.str z] /\ z.length <= sizeLine /\ Q (.int z.length) H):=by
 intro pn s σ H xs us Q I r h
 obtain ⟨z,rfl,hz,q⟩:=h
 obtain ⟨u,rfl,t,rfl⟩:=ux r
 have hn:=ut
 exact len_str (by omega) ⟨.int z.length,H,I.tok _,⟨_,rfl⟩,q⟩
def w5.or {f:Value} {r r':List V->Hp->VK->Prop} (h:w5 X f r) (h':w5 X f r'):w5 X f (λxs H Q=>r xs H Q \/ r' xs H Q):=by
 intro pn s σ H xs us Q I rs q
 rcases q with q | q
 ·exact h pn s σ H xs us Q I rs q
 ·exact h' pn s σ H xs us Q I rs q
def gf:w5 X (.type "tuple") (λxs H Q=>∃ p ys,xs=[.ref p] /\ ((SqL X.K H p ys /\ ∀ l,H l=none->Q (.ref l) (upd H l (.tup ys))) \/ (SqT X.K H p ys /\ Q (.ref p) H))):=by
 intro pn s σ H xs us Q I r h
 obtain ⟨p,ys,rfl,h⟩:=h
 obtain ⟨u,rfl,rx⟩:=ux r
 cases rx
 rcases h with ⟨hq,q⟩ | ⟨hq,q⟩
 ·obtain ⟨its,r',pl,hz⟩:=I.list hq
  have hlen:=r'.length
  refine call_tuple_list pl.isList (λh' kp=>?_) (by simp only [List.size_toArray] <;> omega)
  have I1:Inv X pn σ H { s with heap:=h' }:=I.kept (t':=s.toks) kp
  have I2:Inv X pn σ (upd H h'.objs.size (.tup ys)) { s with heap:=h'.push { cls:=.type "tuple", data:=.seq its.toArray } } :=
   I1.laid (t':=s.toks) (λb o e=>Heap.get?_push_of_some _ e) (Nat.le_refl _) (show ye X.prog X.w _ _ _ (.tup ys) from ⟨hz,its,r',IsTup.new _ _,_,Heap.get?_push_size _ rfl,rfl⟩)
  exact ⟨.ref h'.objs.size,_,I2,rfl,q _ (I1.hok.fresh (Nat.le_refl _))⟩
 ·obtain ⟨its,r',pl,hz⟩:=I.tuple hq
  exact call_tuple_same pl ⟨.ref p,H,I,rfl,q⟩
def tyV (K:W.Frag) (T:String) (x:V) (H:Hp):Prop:=match x with
 | .str _=>T = "str"
 | .int _=>T = "int"
 | .ref p=>(T = "list" /\ ∃ xs,SqL K H p xs) \/ (T = "tuple" /\ ∃ o,K.lookup p=some o /\ o.cls=.type "tuple" /\ o.dict=none) \/
   (T = "dict" /\ ((∃ kvs,H p=some (.dK kvs)) \/ ∃ kvs,H p=some (.dT kvs))) \/ (T = "set" /\ ∃ S n,H p=some (.set S n))
 | _=>False
def P7 {pn:List (Addr × Obj)} {σ:St} {H:Hp} {s:Shared} {T:String} {x:V} {v:Value} (I:Inv X pn σ H s) (r:RelV x v) (ty:tyV X.K T x H) :
  s.TypeIs v T /\ ∀ a,v=.ref a->∃ ob,s.heap.get? a=some ob /\ ob.dict=none:=by
 cases x with
 | str z =>
  obtain ⟨t,rfl⟩:=r
  cases (show T = "str" from ty)
  exact ⟨typeIs_str s z t,λ_ e=>nomatch e⟩
 | int i =>
  obtain ⟨t,rfl⟩:=r
  cases (show T = "int" from ty)
  exact ⟨typeIs_int s i t,λ_ e=>nomatch e⟩
 | ref p =>
  cases r
  rcases ty with ⟨rfl,xs,hq⟩ | ⟨rfl,o,hk,hc,hd⟩ | ⟨rfl,hk⟩ | ⟨rfl,S,n,hk⟩
  ·obtain ⟨its,_,pl,_⟩:=I.list hq
   refine ⟨pl.isList.typeIs,λa e=>?_⟩
   cases e
   obtain ⟨o,n,e,c,hd,_⟩:=pl
   exact ⟨o,e,hd⟩
  ·refine ⟨⟨o,I.kIn p o hk,hc⟩,λa e=>?_⟩
   cases e
   exact ⟨o,I.kIn _ o hk,hd⟩
  ·have z:∃ o,s.heap.get? p=some o /\ o.ExactDict:=by
    rcases hk with ⟨kvs,hk⟩ | ⟨kvs,hk⟩
    ·obtain ⟨_,_,_,_,o,_,_,e,ex,_⟩:=I.hok p _ hk
     exact ⟨o,e,ex⟩
    ·obtain ⟨_,_,_,_,o,_,_,e,ex,_⟩:=I.hok p _ hk
     exact ⟨o,e,ex⟩
   obtain ⟨o,e,ex⟩:=z
   refine ⟨⟨o,e,ex.1⟩,λa e2=>?_⟩
   cases e2
   exact ⟨o,e,ex.2.1⟩
  ·obtain ⟨o,_,_,_,e,ex,_⟩:=I.hok p _ hk
   refine ⟨⟨o,e,ex.1⟩,λa e2=>?_⟩
   cases e2
   exact ⟨o,e,ex.2.1⟩
 | _=>exact False.elim ty
def tBM0 (K:W.Frag) (T:String) (r:V->List V->Hp->VK->Prop) (to:TE):TE:=λσ H Q=>to σ H λx H1=>tyV K T x H1 /\ r x [] H1 Q
def tBM (K:W.Frag) (T:String) (r:V->List V->Hp->VK->Prop) (to:TE) (t:TA):TE:=λσ H Q=>to σ H λx H1=>tyV K T x H1 /\ t σ H1 λxs H2=>r x xs H2 Q
variable {o e:Expr} {es:List Expr} {to:TE} {t:TA} {name:Str} {apos cpos:Pos} {T id:String} {r:V->List V->Hp->VK->Prop}
def Kl (pa:PlainAttrs T) (slot:Slot T name id) (hty:typeOf (.builtin id)=pure (.type "method_descriptor")) (hm:MtR X id r) (ho:PE X o to)
  (hbase:attributeBase o name X.env (eval o X.env)=eval o X.env:=by rfl) (hline:(apos.endLine == cpos.line)=true:=by rfl):PE X (.Call (.Attribute o name apos) [] [] cpos) (tBM0 X.K T r to):=by
 intro pn s σ H Q I h
 refine wpAny_Call_method0_late hbase hline (thn (ho pn s σ H _ I h) λv s1 ⟨x,H1,I1,r1,ty,q1⟩=>?_)
 obtain ⟨h1,h2⟩:=P7 I1 r1 ty
 exact ⟨T,id,pa,slot,hty,h1,h2,Calls.callWith_builtin rfl (PySem.evalArgs_none (hm pn s1 σ H1 x [] v [] Q I1 r1 .nil q1))⟩
def Km (pa:PlainAttrs T) (slot:Slot T name id) (hty:typeOf (.builtin id)=pure (.type "method_descriptor")) (hm:MtR X id r) (ho:PE X o to) (ha:PA X (e :: es) t)
  (hbase:attributeBase o name X.env (eval o X.env)=eval o X.env:=by rfl)
  (hfew:((backTo cpos (starEach (e :: es) X.env)).all (λx=>!x.1) && (backToKw cpos (keywordEach [] X.env)).all (λx=>x.1.isSome)
   && decide ((e :: es).length + ([]:List Keyword).length + (if ([]:List Keyword).isEmpty then 0 else 1) < 30))=true:=by rfl)
  (hline:(apos.endLine == cpos.line)=true:=by rfl) (hs:starEach (e :: es) X.env=(false,eval e X.env) :: starEach es X.env:=by rfl) (hplain:(backTo cpos (starEach es X.env)).any (·.1)=false:=by rfl) :
  PE X (.Call (.Attribute o name apos) (e :: es) [] cpos) (tBM X.K T r to t):=by
 intro pn s σ H Q I h
 refine wpAny_Call_method_late hbase hfew hline rfl (thn (ho pn s σ H _ I h) λv s1 ⟨x,H1,I1,r1,ty,q1⟩=>?_)
 obtain ⟨h1,h2⟩:=P7 I1 r1 ty
 refine ⟨T,id,pa,slot,hty,h1,h2,?_⟩
 have hA:=ha cpos pn s1 σ H1 _ I1 q1
 rw [hs] at hA ⊢
 refine Calls.callWith_builtin (by show (false || (backTo cpos (starEach es X.env)).any (·.1))=false; rw [hplain] <;> rfl) (Calls.evalArgs_plain ?_)
 exact thn hA λus s2 ⟨vs,H2,I2,r2,q2⟩=>hm pn s2 σ H2 x vs v us Q I2 r1 r2 q2
end
def MtM (X:Cx) (id:String) (r:V->List V->Hp->VK->Prop):Prop :=
 ∀ (pn:List (Addr × Obj)) (s:Shared) (σ:St) (H:Hp) (x:V) (xs:List V) (v:Value) (us:List Value) (Q:VK),Inv X pn σ H s->RelV x v->Vals xs us->r x xs H Q ->
  wpAny (model X.prog X.w) X.A (call (.builtin id) (v :: us)) (EP X pn σ Q) X.xe s
def Vals.one:∀ {x:V} {us:List Value},Vals [x] us->∃ u,us=[u] /\ RelV x u
 | _,_,.cons r .nil=>⟨_,rfl,r⟩
def Vals.rep {xs:List V} {us:List Value} (h:Vals xs us):∀ k:Nat,Vals (List.replicate k xs).flatten (List.replicate k us).flatten
 | 0=>.nil
 | k + 1=>by
  rw [List.replicate_succ,List.replicate_succ,List.flatten_cons,List.flatten_cons]
  exact Vals.append h (Vals.rep h k)
def cg (its:List Value):∀ (k:Nat) (acc:List Value),
  List.foldl (λx1 x2=>x1 ++ x2) acc.toArray (List.replicate k its.toArray)=(acc ++ (List.replicate k its).flatten).toArray
 | 0,acc=>by simp
 | k + 1,acc=>by
  have e:acc.toArray ++ its.toArray=(acc ++ its).toArray:=by simp
  have e2:(acc ++ its) ++ (List.replicate k its).flatten=acc ++ (List.replicate (k + 1) its).flatten:=by
   rw [List.replicate_succ,List.flatten_cons,List.append_assoc]
  rw [<- e2,<- cg its k (acc ++ its),<- e,List.replicate_succ,List.foldl_cons]
section
variable {X:Cx} {pn:List (Addr × Obj)} {σ:St} {H:Hp} {s:Shared} {l b:Addr} {xs ys zs:List V}
def Inv.lset {its its':List Value} {n:Nat} {f:Array Value->Array Value} {t':Nat} (I:Inv X pn σ H s) (hH:H l=some (.lst xs))
  (e:s.heap.get? l=some { cls:=.type "list", data:=.seq its.toArray n }) (hf:f its.toArray=its'.toArray) (hv:Vals ys its') (hz:ys.length <= sizeLine) :
  Inv X pn σ (upd H l (.lst ys)) { s with heap:=s.heap.update l (Obj.mapSeq f),toks:=t' }:=by
 have q:=PySem.IsL.update e f
 rw [hf] at q
 refine I.write (x:=l) (e:=l) (by rw [hH]; exact trivial) (.inl rfl) (λb' u hb hu=>(Heap.get?_update_other s.heap (Obj.mapSeq f) (Ne.symm hb)).trans hu) ⟨_,q⟩ ?_
 exact ⟨hz,its',_,hv,q⟩
def Inv.lnew {its:List Value} {t':Nat} (I:Inv X pn σ H s) (hv:Vals ys its) (hz:ys.length <= sizeLine) :
  Inv X pn σ (upd H s.heap.objs.size (.lst ys)) { s with heap:=s.heap.push { cls:=.type "list", data:=.seq its.toArray },toks:=t' } :=
 I.laid (λ_ _ q=>Heap.get?_push_of_some _ q) (Nat.le_refl _) ⟨hz,its,0,hv,Heap.get?_push_size _ rfl⟩
def Inv.fresh (I:Inv X pn σ H s):H s.heap.objs.size=none:=I.hok.fresh (Nat.le_refl _)
def Inv.lstM (I:Inv X pn σ H s) (hH:H l=some (.lst xs)):xs.length <= sizeLine /\ ∃ (its:List Value) (n:Nat),Vals xs its /\ xs.length=its.length /\ s.heap.get? l=some { cls:=.type "list", data:=.seq its.toArray n }:=by
 obtain ⟨z,its,n,r,e⟩:=I.hok l _ hH
 exact ⟨z,its,n,r,r.length,e⟩
def Rv {n:Nat} (h:n <= sizeLine):Builtin.List.listTooLong n=false:=by
 unfold Builtin.List.listTooLong
 exact decide_eq_false (by omega)
end
section
variable {X:Cx}
def Vs:V->List V->Hp->VK->Prop:=λx vs H Q=>∃ l xs y,x=.ref l /\ vs=[y] /\ H l=some (.lst xs) /\ xs.length < sizeLine /\ Q .non (upd H l (.lst (xs ++ [y])))
def fq:MtM X "list.append" Vs:=by
 intro pn s σ H x vs v us Q I rx rv h
 obtain ⟨l,xs,y,rfl,rfl,hH,hz,q⟩:=h
 cases rx
 obtain ⟨u,rfl,ru⟩:=rv.one
 obtain ⟨z,its,n,r,hl,e⟩:=I.lstM hH
 refine call_meets F.slot_list_append ⟨_,e,rfl⟩ F.entry_list_append (F.args_list_append_2 _ _) (PySem.list_append l its.toArray n u (by rw [List.size_toArray]; omega)) ⟨e,?_⟩
 refine ⟨.non,_,I.lset (its':=its ++ [u]) hH e (by simp) (r.append (.cons ru .nil)) ?_,rfl,q⟩
 rw [zLa,List.length_singleton]
 omega
def rCat:R2:=λx y H Q=>∃ l b xs zs,x=.ref l /\ y=.ref b /\ H l=some (.lst xs) /\ H b=some (.lst zs) /\ xs.length + zs.length <= sizeLine /\ ∀ p,H p=none->Q (.ref p) (upd H p (.lst (xs ++ zs)))
def Ku:OpR X (binaryOp .Add) rCat:=by
 intro pn s σ H x y v u Q I rx ry h
 obtain ⟨l,b,xs,zs,rfl,rfl,hH,hB,hz,q⟩:=h
 cases rx
 cases ry
 obtain ⟨z,its,n,r,hl,e⟩:=I.lstM hH
 obtain ⟨z2,its2,n2,r2,hl2,e2⟩:=I.lstM hB
 refine PySem.P.add_list e e2 ?_ (by rw [List.size_toArray,List.size_toArray]; omega)
 have ea:its.toArray ++ its2.toArray=(its ++ its2).toArray:=by simp
 rw [ea]
 exact ⟨.ref _,_,I.lnew (t':=s.toks) (r.append r2) (by rw [zLa]; omega),rfl,q _ I.fresh⟩
def rRep:R2:=λx y H Q=>∃ l k xs,x=.ref l /\ y=.int k /\ H l=some (.lst xs) /\ -(2 ^ 63) <= k /\ k < 2 ^ 63 /\ xs.length * k.toNat <= sizeLine /\
 ∀ p,H p=none->Q (.ref p) (upd H p (.lst (List.replicate k.toNat xs).flatten))
def Nu {α:Type} (xs:List α) (k:Nat):(List.replicate k xs).flatten.length=k * xs.length:=by
 induction k with
 | zero=>simp
 | succ k ih=>rw [List.replicate_succ,List.flatten_cons,zLa,ih,Nat.succ_mul,Nat.add_comm]
def Kp:OpR X (binaryOp .Mult) rRep:=by
 intro pn s σ H x y v u Q I rx ry h
 obtain ⟨l,k,xs,rfl,rfl,hH,h1,h2,hz,q⟩:=h
 cases rx
 obtain ⟨t,rfl⟩:=ry
 obtain ⟨z,its,n,r,hl,e⟩:=I.lstM hH
 have hlen:its.toArray.size * k.toNat <= sizeLine:=by rw [List.size_toArray,<- hl]; exact hz
 have hcap:¬ its.toArray.size * k.toNat > (2 ^ 63 - 1) / 8:=by
  have:(sizeLine:Nat) <= (2 ^ 63 - 1) / 8:=by decide
  omega
 have hfit:¬ (!Builtin.List.listFitsIndex k)=true:=by
  rw [fitsIndex_both h1 h2]
  exact Bool.false_ne_true
 have hlong:¬ Builtin.List.listTooLong (its.toArray.size * k.toNat)=true:=by
  rw [Rv hlen]
  exact Bool.false_ne_true
 have hnew:List.foldl (λx1 x2=>x1 ++ x2) #[] (List.replicate (if its.toArray.isEmpty=true then 0 else k.toNat) its.toArray)=(List.replicate k.toNat its).flatten.toArray:=by
  have f0:∀ m:Nat,List.foldl (λx1 x2=>x1 ++ x2) #[] (List.replicate m its.toArray)=(List.replicate m its).flatten.toArray:=λm=>by
   have:=cg its m []
   rw [List.nil_append] at this
   exact this
  rw [f0]
  cases its with
  | nil=>simp
  | cons a r'=>rw [if_neg (by simp)]
 refine wpAny_binaryOp_repeat_ref (T:="list") (U:="int") (by decide) ⟨_,e,rfl⟩ (λs'=>typeIs_int s' k t) noFill_list_mul F.fills_int_mul F.slot_int_rmul repeat_list F.slot_int_index.lookup
  (call_meets F.slot_int_rmul (typeIs_int s k t) F.entry_int_rmul (F.args_int_rmul_2 _ _) (int___rmul___int_list k t l its.toArray n)
   ⟨e,rfl,⟨_,e,rfl⟩,call_meets F.slot_list_mul ⟨_,e,rfl⟩ F.entry_list_mul (F.args_list_mul_2 _ _) (AutoListH.list___mul___list_int_3 l its.toArray n k t hfit hcap hlong) ⟨e,?_⟩⟩)
 rw [hnew]
 exact ⟨.ref _,_,I.lnew (t':=s.toks) (r.rep k.toNat) (by rw [Nu,Nat.mul_comm]; exact hz),rfl,q _ I.fresh⟩
end
end L2
namespace Att
open PySem PySem.W PySem.Calls PyProof.Rows
def rj {P:Params} {h:Heap}:∀ (ns:List Int) (vs:List Value),WellAll P h vs (ns.map WData.int)->IntsAre vs ns:=by
 intro ns
 induction ns with
 | nil =>
  intro vs w
  rw [List.map_nil] at w
  cases w
  exact .nil
 | cons n ns ih =>
  intro vs w
  rw [List.map_cons] at w
  cases w with
  | cons a b =>
   cases a
   exact .cons _ _ (ih _ b)
def Vj {l:OpenLaw} {n:Nat} (hn:l.most=some n) {P:Params} {h:Heap} {args:List WData} {vals:List Value}
  (hpre:l.row.toRowW.claim.pre args=true) (hwl:WellAll P h vals args) :
  ∃ a vs ns,vals=[Value.ref a] /\ args=[WData.list (ns.map WData.int)] /\ h.get? a=some { cls:=.type "list", data:=.seq vs.toArray } /\ IntsAre vs ns /\ ns.length <= n:=by
 have hsh:WShape.hasAll [] args [.list .int]=true:=(pre_splitW hpre).1
 have hc:l.pre.holds [] { args:=args }=true:=(pre_splitW hpre).2
 obtain ⟨d,r,rfl,h1,h2⟩:=hasAllW_cons hsh
 obtain rfl:=hasAllW_nil h2
 obtain ⟨xs,rfl,h3⟩:=hasW_list h1
 obtain ⟨ns,rfl⟩:=items_int h3
 have hlen:ns.length <= n:=by
  unfold OpenLaw.pre at hc
  have h4:(WTm.not (.lt (.lit (.int (n:Int))) (.len (.arg 0)))).holds [] { args:=[.list (ns.map .int)] }=true:=by
   have h4:=(holds_andW hc).1
   rw [hn] at h4
   exact h4
  have h5:=condW_of h4 (w_not (w_lt w_lit (w_len_list (w_arg rfl))))
  rw [zLm] at h5
  refine Nat.le_of_not_lt λq=>?_
  have q':(n:Int) < ((ns.length:Nat):Int):=by omega
  first
   | (rw [decide_eq_true q'] at h5; exact absurd h5 (by decide))
   | (simp at h5; omega)
 cases hwl with
 | cons w1 w2 =>
  cases w2
  cases w1 with
  | list ho hall=>exact ⟨_,_,ns,rfl,rfl,ho,rj ns _ hall,hlen⟩
def Vx (l:OpenLaw) (args:List WData):l.row.toRowW.claim.post args (.bool true) args=true :=
 postW_of (r:=l.row.toRowW) (X:=(true == true))
  (show WShape.has [] (.bool true) .bool=true by first | rfl | decide | simp [WShape.has,WShape.arms,WShape.armsAll])
  (show (WTm.eq .res (.lit (.bool true))).value [] { args:=args,res:=some (.bool true),after:=args }=some (.bool (true == true)) from w_eq_bool (w_res rfl) w_lit) rfl
def attach_call {l:OpenLaw} {n:Nat} {q:Program} {loose:List Str} {XP:(Str->Option Value)->Heap->Prop} {YP:World->Heap->Prop} {d:DefRec}
  (hn:l.most=some n) (hdf:d.params.defaults=[])
  (call:∀ (w:World) (s₀ s₁:Shared) (mg mb:Str->Option Value) (fa:Addr) (o:Obj) (pm cd doc:Value) (a:Addr) (vs:List Value) (ns:List Int),
   Ground q loose [] XP w s₀ mg mb s₁.heap->YP w s₁.heap ->
   s₁.heap.get? fa=some o->o.data=.func (docDef d.name d.params d.body d.scope pm cd doc)->s₁.heap.CodeRec cd d.name->mg d.name=some (.ref fa) ->
   s₁.heap.get? a=some { cls:=.type "list", data:=.seq vs.toArray }->IntsAre vs ns->ns.length <= n->s₁.gens=#[] ->
   codeAny (model l.prog w) callerA (.call (.ref fa) ⟨[.ref a],[]⟩) (λr s'=>r=.ok (.ret (.bool true)) /\ OldK s₁.heap s'.heap /\ s'.os=s₁.os /\ AllBare s'.gens) s₁) :
  WalkO q loose XP YP l.row.toRowW d [] (λf vs=>PySem.call f vs):=by
 intro w s₀ s₁ mg mb G Y fa o pm cd doc dV kV ho hd hcd hD hmg hg args vals as hpre hlay hrd hwl hlo
 obtain rfl:dV=.none:=Dflts.none hD hdf
 obtain rfl:kV=.none:=Dflts.noKw hD
 obtain ⟨a,vs,ns,rfl,rfl,hobj,hints,hlen⟩:=Vj hn hpre hwl
 refine enter_call (codeAny_mono (call w s₀ s₁ mg mb fa o pm cd doc a vs ns G Y ho (fd_plain hd) hcd hmg hobj hints hlen hg) λr s' hq=>?_)
 obtain ⟨rfl,h2,h3,h4⟩:=hq
 exact ⟨.inl ⟨.bool true,.bool true,[],rfl,λ_=>rfl,.bool true,Vx l _,λ_=>⟨List.Pairwise.nil,λ_ hm=>(nomatch hm)⟩⟩,h2,h3,h4⟩
end Att
namespace L2
open PySem PySem.Spec PyProof.Rows
def gp:∀ {vs:List Value} {ns:List Int},IntsAre vs ns->Vals (ns.map V.int) vs
 | _,_,.nil=>.nil
 | _,_,.cons n t h=>.cons ⟨t,rfl⟩ (gp h)
def Only (H:Hp):Prop:=∀ b,H b=none \/ ∃ o xs,H b=some (.frz o (.lst xs))
def Q7 {P:Program} {w:World} {K:W.Frag} {mg mb:Str->Option Value} {CX:CXT} {k:Nat} {fa a:Addr} {fd:FuncData} {x:Str} {sp:Sp} {s₁:Shared} {vs:List Value} {ns:List Int}
  (KX:K.In s₁.heap) (hns:s₁.heap.Ns mainGlobals mg) (hb:s₁.heap.Ns builtinsNs mb) (hbb:∀ x:Str,x ≠ "__name__"->mb x=bootBuiltins x) (hlim:s₁.heap.NoLimit) (hg:s₁.gens=#[])
  (ha:s₁.heap.get? a=some { cls:=.type "list", data:=.seq vs.toArray }) (hi:IntsAre vs ns) (hl:ns.length <= sizeLine) (hr:Room k callerA)
  (F:∀ base:Heap,K.In base->base.Ns mainGlobals mg->FnOk P w K mg base CX k fa fd [x] sp) (hbind:∀ (s:Shared) (u:Value),BindsTo s fd ⟨[u],[]⟩ [(x,u)])
  (hsp:∀ H:Hp,Only H->SqL K H a (ns.map V.int)->sp [.ref a] H (λv _=>v=.bl true) λ_ _ _=>False)
  (hCX:∀ H e s',CX [] H s₁ (λ_ _ _=>False) e s'->False) :
  codeAny (model P w) callerA (.call (.ref fa) ⟨[.ref a],[]⟩) (λr s'=>r=.ok (.ret (.bool true)) /\ OldK s₁.heap s'.heap /\ s'.os=s₁.os /\ AllBare s'.gens) s₁:=by
 have rv:=gp hi
 have lenV:=hi.length
 have core:∀ H:Hp,Only H->SqL K H a (ns.map V.int)->HOk P w H s₁.heap->(∀ b,H b ≠ none->b=a)->(H a ≠ none->K.lookup a=none) ->
   codeAny (model P w) callerA (.call (.ref fa) ⟨[.ref a],[]⟩) (λr s'=>r=.ok (.ret (.bool true)) /\ OldK s₁.heap s'.heap /\ s'.os=s₁.os /\ AllBare s'.gens) s₁:=by
  intro H hO hS hok hA hK
  have base_of:∀ {b:Addr} {o:Obj},s₁.heap.get? b=some o->H b=none->(hidT s₁.heap H).get? b=some o:=λe n=>Qi e n
  have noA:∀ {b:Addr} {o:Obj} {es:Array DictEntry} {ep:Nat},s₁.heap.get? b=some o->o.data=.dict es ep->H b=none:=λ{b o es ep} e d=>by
   cases q:H b with
   | none=>rfl
   | some u =>
    have e':b=a:=hA b (by rw [q]; simp)
    subst e'
    rw [ha] at e; cases e
    have d':Data.seq vs.toArray _=Data.dict es ep:=d
    cases d'
  have nsK:∀ {b:Addr} {m:Str->Option Value},s₁.heap.Ns b m->(hidT s₁.heap H).Ns b m:=λ{b m} ⟨o,es,ep,e,d,r⟩=>⟨o,es,ep,base_of e (noA e d),d,r⟩
  have hKb:K.In (hidT s₁.heap H):=λb o e=>base_of (KX b o e) (by
   cases q:H b with
   | none=>rfl
   | some u =>
    have e':b=a:=hA b (by rw [q]; simp)
    subst e'
    rw [hK (by rw [q]; simp)] at e; cases e)
  have hM:Mod K mg (hidT s₁.heap H):=⟨hKb,nsK hns,⟨mb,nsK hb,hbb⟩,let ⟨mc,h1,h2⟩:=hlim; ⟨mc,nsK h1,h2⟩⟩
  have e0:Env0 P w K mg (hidT s₁.heap H) callerA [] s₁ H:=⟨rfl,hM,λb o e=>Nl e,Nat.le_of_eq (T1 _ _),trivial,λb hb=>absurd (show b ∈ ([]:List Addr) from hb) (by simp),hok,.of_eq hg⟩
  refine codeAny_mono ((F _ hKb (nsK hns)).run callerA [] s₁ H ⟨[.ref a],[]⟩ [.ref a] [.ref a] _ _ hr e0 (hbind s₁ (.ref a)) (.cons rfl .nil) (hsp H hO hS)) λr s' h=>?_
  cases r with
  | error e=>exact (hCX H e s' h).elim
  | ok fl =>
   cases fl with
   | next=>exact False.elim h
   | brk=>exact False.elim h
   | cont=>exact False.elim h
   | ret u =>
    obtain ⟨v,H',os,bare,un,hok',r',q⟩:=h
    have q':v=.bl true:=q
    subst q'
    obtain rfl:u=Value.bool true:=r'
    refine ⟨rfl,OldK.of_keep λb o e=>?_,os,bare⟩
    cases q:H b with
    | none=>exact un.keep b o e q (by intro z; exact absurd (show b ∈ ([]:List Addr) from z) (by simp)) (by simp)
    | some u =>
     rcases hO b with z | ⟨ob,xs,z⟩
     ·rw [q] at z; cases z
     ·have z2:=un.frzs b ob _ z
      obtain ⟨e1,_⟩:=hok b _ z
      obtain ⟨e2,_⟩:=hok' b _ z2
      rw [e] at e1; cases e1
      exact e2
 cases hk:K.lookup a with
 | some o =>
  have e:=KX a o hk
  rw [ha] at e
  cases e
  refine core (λ_=>none) (λ_=>.inl rfl) (.inr ⟨_,vs.toArray,_,hk,rfl,rfl,rfl,by rw [List.size_toArray,lenV]; exact hl,by simpa using rv⟩) (λb u z=>by have z':(none:Option HO)=some u:=z; cases z') (λb z=>absurd rfl z) λz=>absurd rfl z
 | none =>
  refine core (λb=>if b=a then some (.frz { cls:=.type "list", data:=.seq vs.toArray } (.lst (ns.map V.int))) else none) (λb=>?_) (.inl (.inr ⟨{ cls:=.type "list", data:=.seq vs.toArray },if_pos rfl⟩)) (λb u z=>?_) (λb z=>?_) λ_=>hk
  ·by_cases hb:b=a
   ·exact .inr ⟨_,_,if_pos hb⟩
   ·exact .inl (if_neg hb)
  ·by_cases hb:b=a
   ·have z':=(if_pos hb).symm.trans z
    cases z'
    subst hb
    exact ⟨ha,by rw [zLm]; exact hl,vs,_,rv,ha⟩
   ·have z':=(if_neg hb).symm.trans z
    cases z'
  ·by_cases hb:b=a
   ·exact hb
   ·exact absurd (if_neg hb) z
abbrev KOf {K:W.Frag} {h:Heap} (_:K.In h):W.Frag:=K
def walk_of {l:W.OpenLaw} {n k:Nat} {q:Program} {loose:List Str} {XP:(Str->Option Value)->Heap->Prop} {YP:World->Heap->Prop} {d:DefRec} {K:Params->W.Frag} {CX:World->CXT} {sp:World->Sp} {x:Str}
  (hn:l.most=some n) (hn2:n <= sizeLine) (hdf:d.params.defaults=[]) (hr:Room k callerA)
  (hY:∀ (w:World) (h:Heap),YP w h->(K w.params).In h)
  (F:∀ (w:World) (mg:Str->Option Value) (fa:Addr) (h:Heap),(K w.params).In h->h.Ns mainGlobals mg->mg d.name=some (.ref fa) ->
   ∃ fd:FuncData,(∀ (s:Shared) (u:Value),BindsTo s fd ⟨[u],[]⟩ [(x,u)]) /\
    ∀ base:Heap,(K w.params).In base->base.Ns mainGlobals mg->FnOk l.prog w (K w.params) mg base (CX w) k fa fd [x] (sp w))
  (hsp:∀ (w:World) (H:Hp) (a:Addr) (ns:List Int),ns.length <= n->Only H->SqL (K w.params) H a (ns.map V.int)->sp w [.ref a] H (λv _=>v=.bl true) λ_ _ _=>False)
  (hCX:∀ (w:World) (H:Hp) (s:Shared) (e:Value) (s':Shared),CX w [] H s (λ_ _ _=>False) e s'->False) :
  W.WalkO q loose XP YP l.row.toRowW d [] (λf vs=>PySem.call f vs):=by
 refine Att.attach_call hn hdf λw s₀ s₁ mg mb fa o pm cd doc a vs ns G Y ho hd hcd hmg hobj hints hlen hg=>?_
 have KX:=hY w _ Y
 obtain ⟨fd,hb,hF⟩:=F w mg fa _ KX G.T.g hmg
 exact Q7 KX G.T.g G.T.b G.T.builtins G.T.nolimit hg hobj hints (Nat.le_trans hlen hn2) hr hF hb (λH hO hS=>hsp w H a ns hlen hO hS) λH e s'=>hCX w H s₁ e s'
end L2
namespace L2
open PySem PySem.Spec PyProof.Rows
abbrev CX0:CXT:=λ_ _ _ _ _ _=>False
abbrev E0:XK:=λ_ _ _=>False
def Ng {X:Cx}:X7 CX0 X E0:=λ_ _ _ _ _ _ _ h=>h.elim
structure Fun (K:W.Frag) (x qual:Str) (st:Stmt) (f:Addr) (fd:FuncData):Prop where
 ex:∃ (oc:Value) (od:Option Addr) (kV doc pm:Value) (an:Option Addr) (qZ ct:Value) (osl:Array (Option Value)),
  fd=W.fnOf x qual (zp st) (zm st) (zb st) .none kV doc pm an qZ ct /\ K.lookup f=some ⟨oc,od,.func fd,osl⟩ /\ W.codeIn K qZ qual=true
 kp:W.keepIn K (.ref f)=true
section
variable {P:Program} {w:World} {K:W.Frag} {mg:Str->Option Value} {base:Heap}
def Fun.ok {x qual:Str} {st:Stmt} {f:Addr} {fd:FuncData} {N ps:List Str} {k:Nat} {sp:Sp} (F:Fun K x qual st f fd) (S:zj N ps (zb st)) (len:∀ vs H Q E,sp vs H Q E->vs.length=ps.length)
  (qY:∀ (qZ:Value) (A:Around) (outer:List Env) (s:Shared) (H:Hp) (vs:List V) (Q:VK) (E:XK),Room k (A.deeper (envOfC qual (zb st) s.heap.objs.size f qZ))->sp vs H Q E ->
   ∃ t,PSs (cxOf CX0 P w K mg base N qual (zb st) f qZ A outer s H E).nox (zm st) t /\ t { nx:=λ_ H'=>Q .non H',rt:=Q } (start N vs) H):FnOk P w K mg base CX0 (k + 1) f fd ps sp:=by
 obtain ⟨oc,od,kV,doc,pm,an,qZ,ct,osl,rfl,lk,hcd⟩:=F.ex
 refine Js lk hcd S len λA outer s H vs Q E hr hsp=>?_
 obtain ⟨t,h,q⟩:=qY qZ A outer s H vs Q E hr hsp
 exact ⟨t,h.nox,q⟩
def Fun.binds {x qual:Str} {st:Stmt} {f:Addr} {fd:FuncData} {ps:List Str} (F:Fun K x qual st f fd)
  (h:∀ (kV doc pm:Value) (an:Option Addr) (qZ ct:Value) (us:List Value),us.length=ps.length->bindArgs (W.fnOf x qual (zp st) (zm st) (zb st) .none kV doc pm an qZ ct) ⟨us,[]⟩=pure (ps.zip us)):qo K fd ps []:=by
 obtain ⟨oc,od,kV,doc,pm,an,qZ,ct,osl,rfl,lk,hcd⟩:=F.ex
 exact .all (h kV doc pm an qZ ct)
def yj {x qual:Str} {st:Stmt} {f:Addr} {oc:Value} {od an:Option Addr} {osl:Array (Option Value)} {kV doc pm qZ ct:Value} (l:K.lookup f=some ⟨oc,od,.func (W.fnOf x qual (zp st) (zm st) (zb st) .none kV doc pm an qZ ct),osl⟩)
  (c:W.codeIn K qZ qual=true) (k:W.keepIn K (.ref f)=true):Fun K x qual st f (W.fnOf x qual (zp st) (zm st) (zb st) .none kV doc pm an qZ ct):=⟨⟨oc,od,kV,doc,pm,an,qZ,ct,osl,rfl,l,c⟩,k⟩
end
def iteF {A B:Prop} (h:B):if false=true then A else B:=by
 rw [if_neg Bool.false_ne_true]
 exact h
def iteT {A B:Prop} (h:A):if true=true then A else B:=by
 rw [if_pos rfl]
 exact h
def Same (H H':Hp):Prop:=∀ b o,H b=some o->H' b=some o
def Same.refl (H:Hp):Same H H:=λ_ _ h=>h
def Same.trans {H H1 H2:Hp} (a:Same H H1) (b:Same H1 H2):Same H H2:=λc o h=>b c o (a c o h)
def Same.free {H H':Hp} (e:Same H H') {l:Addr} (h:H' l=Option.none):H l=Option.none:=by
 cases q:H l with
 | none=>rfl
 | some o =>
  rw [e l o q] at h
  cases h
end L2
namespace L3
open PySem PySem.Spec L2
open PyProof.Rows hiding St
def T7 {α β:Type} {f:α->β->Sem (ForInStep β)} (R:List α->β->Prop) (h:∀ x l c,R (x :: l) c->∃ c',f x c=pure (.yield c') /\ R l c') :
  ∀ (l:List α) (c:β),R l c->∃ c',forIn l c f=pure c' /\ R [] c'
 | [],c,r=>⟨c,rfl,r⟩
 | x :: l,c,r=>by
  obtain ⟨c1,e,r1⟩:=h x l c r
  obtain ⟨c2,e2,r2⟩:=T7 R h l c1 r1
  exact ⟨c2,by rw [List.forIn_cons,e,pure_bind]; exact e2,r2⟩
def Zz {env:Env} {x:Str} {c:Addr} (h:env.cells.lookup x=some c):cellOf env x=pure c:=by
 unfold cellOf
 rw [h]
def j7 {scope:Scope} {env:Env} (h:∀ y ∈ scope.names,y.2=.free->∃ c,env.cells.lookup y.1=some c) :
  ∃ cl,closureFor scope env=pure cl /\ (∀ x c,cl.lookup x=some c->env.cells.lookup x=some c) /\ ∀ y ∈ scope.names,y.2=.free->∃ c,cl.lookup y.1=some c:=by
 let f:Str × NameKind->List (Str × Addr)->Sem (ForInStep (List (Str × Addr))):=λx r=>match x with
  | (name,kind)=>if (kind == .free)=true then (do let a <- cellOf env name; pure (.yield ((name,a) :: r))) else pure (.yield r)
 have q:=T7 (f:=f) (λrem cs=>(∀ x c,cs.lookup x=some c->env.cells.lookup x=some c) /\ (∀ y ∈ scope.names,y.2=.free->(∃ c,cs.lookup y.1=some c) \/ y ∈ rem) /\ ∀ y ∈ rem,y ∈ scope.names) ?_ scope.names []
  ⟨λx c e=>(by cases e),λy hy _=>.inr hy,λ_ hy=>hy⟩
 ·obtain ⟨cl,e,p1,p2,_⟩:=q
  refine ⟨cl,?_,p1,λy hy hf=>(p2 y hy hf).elim (λz=>z) λz=>(by cases z)⟩
  have e1:closureFor scope env=(forIn scope.names [] f >>= λr=>pure r):=rfl
  rw [e1,e,pure_bind]
 ·rintro ⟨n,k⟩ l cs ⟨p1,p2,p3⟩
  have hm:=p3 _ (List.mem_cons_self ..)
  by_cases hk:k=.free
  ·subst hk
   obtain ⟨c,hc⟩:=h _ hm rfl
   refine ⟨(n,c) :: cs,?_,λx c' e=>?_,λy hy hf=>?_,λy hy=>p3 y (List.mem_cons_of_mem _ hy)⟩
   ·show (if ((NameKind.free == NameKind.free)=true) then _ else _)=_
    rw [if_pos (by decide),Zz hc,pure_bind]
   ·rw [List.lookup_cons] at e
    cases hx:x == n with
    | true =>
     rw [hx] at e
     have ex:x=n:=eq_of_beq hx
     subst ex
     cases e
     exact hc
    | false =>
     rw [hx] at e
     exact p1 x c' e
   ·rcases p2 y hy hf with ⟨c',e⟩ | z
    ·refine .inl ?_
     rw [List.lookup_cons]
     cases hx:y.1 == n with
     | true=>exact ⟨c,rfl⟩
     | false=>exact ⟨c',e⟩
    ·rcases List.mem_cons.mp z with rfl | z
     ·exact .inl ⟨c,by rw [List.lookup_cons]; simp⟩
     ·exact .inr z
  ·refine ⟨cs,?_,p1,λy hy hf=>?_,λy hy=>p3 y (List.mem_cons_of_mem _ hy)⟩
   ·show (if ((k == NameKind.free)=true) then _ else _)=_
    rw [if_neg (by simpa using hk)]
   ·rcases p2 y hy hf with z | z
    ·exact .inl z
    ·rcases List.mem_cons.mp z with rfl | z
     ·exact absurd hf hk
     ·exact .inr z
def xj {env:Env}:∀ {names:List (Str × NameKind)} {x:Str},names.lookup x=some .free ->
  (names.map λ(n,k)=>if (k == NameKind.free && env.scope.kind == .function && env.kindOf n == some .cell) then (n,NameKind.cell) else (n,k)).lookup x=some .cell \/
  (names.map λ(n,k)=>if (k == NameKind.free && env.scope.kind == .function && env.kindOf n == some .cell) then (n,NameKind.cell) else (n,k)).lookup x=some .free
 | [],_,h=>by cases h
 | (n,k) :: r,x,h=>by
  have ih:=@xj env r x
  rw [List.map_cons]
  cases hx:x == n with
  | true =>
   rw [List.lookup_cons,hx] at h
   cases h
   by_cases hc:(NameKind.free == NameKind.free && env.scope.kind == .function && env.kindOf n == some .cell)=true
   ·refine .inl ?_
    show List.lookup x ((if (NameKind.free == NameKind.free && env.scope.kind == .function && env.kindOf n == some .cell)=true then (n,NameKind.cell) else (n,NameKind.free)) :: _)=_
    rw [if_pos hc,List.lookup_cons,hx]
   ·refine .inr ?_
    show List.lookup x ((if (NameKind.free == NameKind.free && env.scope.kind == .function && env.kindOf n == some .cell)=true then (n,NameKind.cell) else (n,NameKind.free)) :: _)=_
    rw [if_neg hc,List.lookup_cons,hx]
  | false =>
   rw [List.lookup_cons,hx] at h
   have e:∀ (b:Bool) (l:List (Str × NameKind)),List.lookup x ((if b=true then (n,NameKind.cell) else (n,k)) :: l)=l.lookup x:=λb l=>by
    cases b with
    | true=>rw [if_pos rfl,List.lookup_cons,hx]
    | false=>rw [if_neg Bool.false_ne_true,List.lookup_cons,hx]
   rcases ih h with q | q
   ·exact .inl ((e _ _).trans q)
   ·exact .inr ((e _ _).trans q)
def um {scope:Scope} {env:Env} (hnc:∀ y ∈ scope.names,y.2 ≠ .cell) {x:Str} {k:NameKind} (h:(relabel scope env).names.lookup x=some k) (hk:k=.cell \/ k=.free) :
  ∃ y ∈ scope.names,y.1=x /\ y.2=.free:=by
 have hm:=PySem.mem_of_lookup h
 obtain ⟨⟨n,k0⟩,hy,e⟩:=List.mem_map.mp hm
 refine ⟨(n,k0),hy,?_⟩
 have e':(if (k0 == NameKind.free && env.scope.kind == .function && env.kindOf n == some .cell)=true then (n,NameKind.cell) else (n,k0))=(x,k):=e
 by_cases hc:(k0 == NameKind.free && env.scope.kind == .function && env.kindOf n == some .cell)=true
 ·rw [if_pos hc] at e'
  cases e'
  refine ⟨rfl,?_⟩
  rw [Bool.and_eq_true,Bool.and_eq_true] at hc
  exact eq_of_beq hc.1.1
 ·rw [if_neg hc] at e'
  cases e'
  rcases hk with rfl | rfl
  ·exact absurd rfl (hnc _ hy)
  ·exact ⟨rfl,rfl⟩
abbrev yd (X:Cx) (N':List Str) (scope:Scope) (cl:List (Str × Addr)) (C:Addr) (fp:List Addr) (s₀:Shared) (H₀:Hp):Cx :=
 { X with N:=N',s₀:=s₀,H₀:=H₀,env:=compEnvC scope cl C X.env,outer:=X.stack,ex:=fp,fn:=λ_=>false,pn:=[],xe:=λ_ _=>False }
structure zt (psc scope:Scope) (T F:List Str):Prop where
 kind:scope.kind=.function
 nocell:∀ y ∈ scope.names,y.2 ≠ .cell
 loc:∀ y ∈ scope.names,y.2=.local->scope.names.lookup y.1=some .local
 fr:∀ y ∈ scope.names,y.2=.free->psc.names.lookup y.1=some .cell \/ psc.names.lookup y.1=some .free
 nd:(T ++ F).Nodup
 ffree:∀ x ∈ F,scope.names.lookup x=some .free
section
variable {X:Cx} {pn:List (Addr × Obj)} {σ:St} {H H':Hp} {s s':Shared} {scope:Scope} {T F:List Str} {cl:List (Str × Addr)} {C:Addr} {fp:List Addr} {js:List Nat}
def qk (I:Inv X pn σ H s) (S:zt X.env.scope scope T F):∀ y ∈ scope.names,y.2=.free->∃ c,X.env.cells.lookup y.1=some c:=λy hy hf=>I.ok.has y.1 (S.fr y hy hf)
def Nj (I:Inv X pn σ H s) (S:zt X.env.scope scope T F) (p1:∀ x c,cl.lookup x=some c->X.env.cells.lookup x=some c)
  (p2:∀ y ∈ scope.names,y.2=.free->∃ c,cl.lookup y.1=some c) (hC:s.heap.objs.size <= C) (hf:∀ b ∈ fp,FpOk X pn H b) (hfl:∀ b ∈ fp,b < s.heap.objs.size) :
  (yd X (T ++ F) scope cl C fp s H).Ok where
 mod:=I.ok.mod
 kind:=S.kind
 glob:=I.ok.glob
 blt:=I.ok.blt
 above:=hC
 inj:=λx y c hx hy=>I.ok.inj x y c (p1 x c hx) (p1 y c hy)
 has:=λx hx=>by
  have q:∃ y ∈ scope.names,y.1=x /\ y.2=.free:=by
   rcases hx with hx | hx
   ·exact um (env:=X.env) S.nocell (show (relabel scope X.env).names.lookup x=some .cell from hx) (.inl rfl)
   ·exact um (env:=X.env) S.nocell (show (relabel scope X.env).names.lookup x=some .free from hx) (.inr rfl)
  obtain ⟨y,hy,rfl,hf⟩:=q
  exact p2 y hy hf
 cab:=λx c h=>by cases h
 hd:=I.ok.hd
 frames:=I.ok.frames
 stk:=.inl rfl
 exf:=λb hb=>⟨Nat.ne_of_lt (Nat.lt_of_lt_of_le (hfl b hb) hC),λx c e=>(hf b hb).2.2.2.2.1 x c (p1 x c e)⟩
 bs:=I.bs
 bsz:=Nat.le_trans I.ok.bsz I.sz
 noex:=λb o e hb=>by
  rcases (hf b hb).2.2.2.1 with z | z
  ·exact I.ok.noex b o e z
  ·exact absurd (Nat.lt_of_lt_of_le (Heap.lt_size (I.ok.bs b o e).1) z) (Nat.lt_irrefl _)
 exfs:=λb hb z=>by
  rcases List.mem_cons.mp (I.stkSub b z) with q | q
  ·exact (hf b hb).2.1 q
  ·exact (hf b hb).2.2.1 q
 funs:=I.stack
 frf:=I.stkFree
def st0 (T:List Str) (js:List Nat) (σ:St):St:=List.replicate T.length none ++ js.map λj=>(σ[j]?).join
def ug {α β:Type} {R:α->β->Prop}:∀ {l:List α} {r:List β} {i:Nat} {b:β},Paired R l r->r[i]?=some b->∃ a,l[i]?=some a /\ R a b
 | _,_,_,_,.nil,e=>by simp at e
 | _,_,0,_,.cons h _,e=>by simp at e; subst e; exact ⟨_,rfl,h⟩
 | _,_,i + 1,b,.cons _ t,e=>by
  obtain ⟨a,q1,q2⟩:=ug (i:=i) (b:=b) t (by simpa using e)
  exact ⟨a,by simpa using q1,q2⟩
def Qg {h₁:Heap} {m:Str->Option Value} {t':Nat} (I:Inv X pn σ H s) (S:zt X.env.scope scope T F) (p1:∀ x c,cl.lookup x=some c->X.env.cells.lookup x=some c)
  (p2:∀ y ∈ scope.names,y.2=.free->∃ c,cl.lookup y.1=some c) (hjs:Paired (λx j=>X.N[j]?=some x) F js) (hC:s.heap.objs.size <= C) (hf:∀ b ∈ fp,FpOk X pn H b) (hfl:∀ b ∈ fp,b < s.heap.objs.size)
  (hn:h₁.Ns C m) (hk:∀ b o,s.heap.get? b=some o->h₁.get? b=some o):Inv (yd X (T ++ F) scope cl C fp s H) [] (st0 T js σ) H { s with heap:=h₁,toks:=t' }:=by
 refine ⟨Nj I S p1 p2 hC hf hfl,rfl,I.bare,Un.kept hk,⟨m,hn,λi x v h1 h2 h3=>?_⟩,λx c e=>?_,I.hok.fresh hC,λx c e=>I.freeC x c (p1 x c e),λp hp=>(by cases hp),I.hok.kept hk,?_⟩
 ·have hi:T.length <= i:=by
   rcases Nat.lt_or_ge i T.length with z | z
   ·exfalso
    unfold st0 at h2
    rw [List.getElem?_append_left (by simpa using z),List.getElem?_replicate] at h2
    split at h2 <;> cases h2
   ·exact z
  unfold st0 at h2
  rw [List.getElem?_append_right (by simpa using hi),List.getElem?_map,List.length_replicate] at h2
  cases ej:js[i - T.length]? with
  | none=>rw [ej] at h2; cases h2
  | some j =>
   rw [ej] at h2
   have hσ:(σ[j]?).join=some v:=Option.some.inj h2
   obtain ⟨x',hx',hX⟩:=ug hjs ej
   have h1':(T ++ F)[i]?=some x:=h1
   rw [List.getElem?_append_right hi,hx'] at h1'
   cases h1'
   have hσ':σ[j]?=some (some v):=by
    cases e:σ[j]? with
    | none=>rw [e] at hσ; cases hσ
    | some o=>rw [e] at hσ; cases hσ; rfl
   have hxF:x ∈ F:=List.mem_of_getElem? hx'
   have hfree:=S.ffree x hxF
   have hpsc:=S.fr _ (PySem.mem_of_lookup hfree) rfl
   obtain ⟨m0,_,look⟩:=I.loc
   obtain ⟨u,ru,lk⟩:=look j x v hX hσ' (.inr hpsc)
   refine ⟨u,ru,?_⟩
   rcases lk with ⟨k,_⟩ | ⟨_,c,hc,hcell⟩
   ·exfalso
    have k':X.env.scope.names.lookup x=some .local:=k
    rcases hpsc with z | z
    ·rw [k'] at z; cases z
    ·rw [k'] at z; cases z
   ·obtain ⟨c',hc'⟩:=p2 _ (PySem.mem_of_lookup hfree) rfl
    have e2:=p1 x c' hc'
    rw [hc] at e2
    cases e2
    refine .inr ⟨?_,c,hc',hcell.keeps hk⟩
    exact xj (env:=X.env) hfree
 ·obtain ⟨v,q⟩:=I.cell x c (p1 x c e)
  exact ⟨v,q.keeps hk⟩
 ·show (st0 T js σ).length=(T ++ F).length
  unfold st0
  rw [zLa,zLa,List.length_replicate,zLm,(Paired.length hjs)]
def Qh {N':List Str} {σ':St} (I:Inv X pn σ H s) (J:Inv (yd X N' scope cl C fp s H) [] σ' H' s') (hf:∀ b ∈ fp,FpOk X pn H b):Inv X pn σ H' s' :=
 I.call' (ch:=fp) (show s'.os=s.os from J.os) J.base J.hok J.bare λb hb=>⟨(hf b hb).2.2.2.1,(hf b hb).2.1,(hf b hb).2.2.2.2.1,(hf b hb).2.2.2.2.2⟩
end
section
variable {prog:Program} {w:World} {A:Around} {R:Result->Shared->Prop} {s:Shared}
def Wl {elt target iter:Expr} {ifs:List Expr} {scope:Scope} {pos:Pos} {it acc:Value} {env:Env} (I:Nat->Shared->Prop)
  (turn:∀ n s,I n s->wpAny (model prog w) A (pyNext it) (λr s₁=>match r with
   | none=>R (.ok .next) s₁
   | some v=>wpAny (model prog w) A (letOwnedTupleGo target it v) (λ_ s₂=>wpAny (model prog w) A (assign target env v) (λ_ s₃ =>
     wpAny (model prog w) A (forIn ifs true λc r=>if r=true then do let ok <- isTrue c env (eval c env); pure (ForInStep.yield ok) else pure (ForInStep.yield r)) (λok s₄ =>
      if ok=true then wpAny (model prog w) A (eval elt env) (λx s₅=>wpAny (model prog w) A (call (.builtin "list.append") [acc,x]) (λ_ s₆=>∃ m,m < n /\ I m s₆) (λ_ _=>False) s₅) (λ_ _=>False) s₄
      else ∃ m,m < n /\ I m s₄) (λ_ _=>False) s₃) (λ_ _=>False) s₂) (λ_ _=>False) s₁) (λ_ _=>False) s)
  (n:Nat) (h:I n s):codeAny (model prog w) A (.compLoop (.ListComp elt [⟨target,iter,ifs,0⟩] scope pos) 0 it acc env) R s:=by
 refine codeAny_loop rfl I (λn s hI=>?_) n h
 show wpAny _ A ((compTurn (.ListComp elt [⟨target,iter,ifs,0⟩] scope pos) 0 it acc env).onRaise (λx=>do noteFrame x env; theTreesLotGoes x)) _ _ s
 refine wpAny_noted (wpAny_noRaise ?_)
 rw [compTurn_list]
 refine wpAny_bind (wpAny_standAt (wpAny_bind (thn (turn n s hI) λr s₁ h₁=>?_)))
 cases r with
 | none=>exact wpAny_pure h₁
 | some v =>
  refine wpAny_bind (thn h₁ λ_ s₂ h₂=>wpAny_bind (thn h₂ λ_ s₃ h₃=>wpAny_bind (thn h₃ λok s₄ h₄=>?_)))
  cases ok with
  | false=>exact wpAny_pure ⟨rfl,h₄⟩
  | true=>exact wpAny_bind (wpAny_bind (thn h₄ λx s₅ h₅=>wpAny_bind (thn h₅ λ_ s₆ h₆=>wpAny_pure (wpAny_pure ⟨rfl,h₆⟩))))
end
def PIf (X:Cx) (ifs:List Expr) (t:TT):Prop :=
 ∀ (pn:List (Addr × Obj)) (s:Shared) (σ:St) (H:Hp) (Q:Bool->Hp->Prop),Inv X pn σ H s->t σ H Q ->
  wpAny (model X.prog X.w) X.A (forIn ifs true λc r=>if r=true then do let ok <- isTrue c X.env (eval c X.env); pure (ForInStep.yield ok) else pure (ForInStep.yield r)) (TP X pn σ Q) X.xe s
def tYes:TT:=λ_ H Q=>Q true H
def N6 {X:Cx}:PIf X [] tYes:=λ_ _ _ H _ I h=>wpAny_tests_nil ⟨H,I,h⟩
def yq (n:Nat) (σ σ':St):Prop:=σ'.length=σ.length /\ ∀ i,n <= i->σ'[i]?=σ[i]?
def yq.refl (n:Nat) (σ:St):yq n σ σ:=⟨rfl,λ_ _=>rfl⟩
def yq.trans {n:Nat} {a b c:St} (x:yq n a b) (y:yq n b c):yq n a c:=⟨y.1.trans x.1,λi h=>(y.2 i h).trans (x.2 i h)⟩
def yq.set {n i:Nat} {σ:St} {v:V} (h:i < n):yq n σ (σ.set i (some v)):=⟨by simp,λj hj=>by rw [List.getElem?_set_ne (by omega)]⟩
def bo (n:Nat) (g:TG):Prop:=∀ v σ H Q,g v σ H Q->g v σ H λσ' H'=>Q σ' H' /\ yq n σ σ'
def X9 (n:Nat) (g:TGs):Prop:=∀ vs σ H Q,g vs σ H Q->g vs σ H λσ' H'=>Q σ' H' /\ yq n σ σ'
def xn {n i:Nat} (h:i < n):bo n (dy i):=λv σ H Q q=>⟨q,yq.set h⟩
def Jq {n:Nat}:X9 n gNil:=λvs σ H Q q=>⟨q.1,q.2,yq.refl n σ⟩
def T4 {n:Nat} {t:TG} {u:TGs} (mono:∀ v σ H Q Q',(∀ σ' H',Q σ' H'->Q' σ' H')->t v σ H Q->t v σ H Q') (monos:∀ v σ H Q Q',(∀ σ' H',Q σ' H'->Q' σ' H')->u v σ H Q->u v σ H Q') (h1:bo n t) (h2:X9 n u):X9 n (W6 t u):=λvs σ H Q q=>by
 obtain ⟨v,r,e,q⟩:=q
 refine ⟨v,r,e,mono _ _ _ _ _ (λσ' H' z=>?_) (h1 v σ H _ q)⟩
 exact monos _ _ _ _ _ (λσ2 H2 y=>⟨y.1,z.2.trans y.2⟩) (h2 r σ' H' Q z.1)
def Jp {K:W.Frag} {n k:Nat} {t:TGs} (h:X9 n t):bo n (gTup K k t):=λv σ H Q q=>by
 obtain ⟨a,xs,e,hq,hl,q⟩:=q
 exact ⟨a,xs,e,hq,hl,h xs σ H Q q⟩
def Zm {i:Nat}:∀ v σ H (Q Q':St->Hp->Prop),(∀ σ' H',Q σ' H'->Q' σ' H')->dy i v σ H Q->dy i v σ H Q':=λ_ _ _ _ _ f q=>f _ _ q
def Pu:∀ v σ H (Q Q':St->Hp->Prop),(∀ σ' H',Q σ' H'->Q' σ' H')->gNil v σ H Q->gNil v σ H Q':=λ_ _ _ _ _ f q=>⟨q.1,f _ _ q.2⟩
def Mf {t:TG} {u:TGs} (mono:∀ v σ H Q Q',(∀ σ' H',Q σ' H'->Q' σ' H')->t v σ H Q->t v σ H Q') (monos:∀ v σ H Q Q',(∀ σ' H',Q σ' H'->Q' σ' H')->u v σ H Q->u v σ H Q') :
  ∀ v σ H (Q Q':St->Hp->Prop),(∀ σ' H',Q σ' H'->Q' σ' H')->W6 t u v σ H Q->W6 t u v σ H Q':=λvs σ H Q Q' f q=>by
 obtain ⟨v,r,e,q⟩:=q
 exact ⟨v,r,e,mono _ _ _ _ _ (λσ' H' z=>monos _ _ _ _ _ f z) q⟩
def Lc (J:It) (g:TG) (tc:TT) (te:TE) (σ0:St) (D:Addr) (Z:Hp->Prop) (H:Hp):Prop :=
 ∃ W:Nat->Nat->List V->Hp->Prop,(∃ m,W 0 m [] H) /\ ∀ i m ys H,W i m ys H->H D=some (.lst ys) /\ ((J.stop i H /\ Z H) \/ (J.go i H /\ ∃ N:List V->Hp->Prop,(∀ zs H',N zs H'->∃ m',m' < m /\ W (i + 1) m' zs H') /\ ∀ x H',J.yld i H x H' ->
  g x σ0 H' λσ2 H2=>tc σ2 H2 λb H3=>if b=true then te σ2 H3 λy H4=>H4 D=some (.lst ys) /\ ys.length < sizeLine /\ N (ys ++ [y]) (upd H4 D (.lst (ys ++ [y]))) else N ys H3))
def Of (wi:TI) (T:List Str) (js:List Nat) (g:TG) (tc:TT) (te:TE):TE:=λσ H Q=>wi σ H λJ H1=>∀ D,H1 D=none->Lc J g tc te (st0 T js σ) D (Q (.ref D)) (upd H1 D (.lst []))
section
variable {X:Cx} {pn:List (Addr × Obj)} {σ:St} {H2:Hp} {s2:Shared} {scope:Scope} {T F:List Str} {cl:List (Str × Addr)} {fp:List Addr} {js:List Nat} {tg iter elt:Expr} {ifs:List Expr} {pos:Pos}
 {g:TG} {tc:TT} {te:TE} {J:It} {it:Addr} {tn:Nat->Heap->Prop} {E:Value->Shared->Prop} {RR:Value->Addr->Result->Shared->Prop}
def j6 (hc:X.calm=true) (S:zt X.env.scope scope T F) (hjs:Paired (λx j=>X.N[j]?=some x) F js)
  (hg:∀ cl C fp s H,PG (yd X (T ++ F) scope cl C fp s H) tg g) (hk:bo T.length g)
  (ht:∀ cl C fp s H,PIf (yd X (T ++ F) scope cl C fp s H) ifs tc) (he:∀ cl C fp s H,PE (yd X (T ++ F) scope cl C fp s H) elt te)
  (p1:∀ x c,cl.lookup x=some c->X.env.cells.lookup x=some c) (p2:∀ y ∈ scope.names,y.2=.free->∃ c,cl.lookup y.1=some c)
  (I2:Inv X pn σ H2 s2) (Tn:Turn X.prog X.w X.K tg J fp it tn) (st2:tn 0 s2.heap) (f2:∀ b ∈ fp,FpOk X pn H2 b) (Z:Addr->Hp->Prop)
  (loop:∀ D,H2 D=none->Lc J g tc te (st0 T js σ) D (Z D) (upd H2 D (.lst [])))
  (hRR:∀ D C H' s' m',s'.heap.Ns C m'->FpOk X pn H' C->Inv X pn σ H' s'->Z D H'->RR (.ref D) C (.ok .next) s') :
  wpAny (model X.prog X.w) X.A (newList []) (λacc s₃=>wpAny (model X.prog X.w) X.A (newFunctionEnv scope X.env.globals cl [] X.env.qual none .none (some X.env)) (λcenv s₄ =>
   codeAny (model X.prog X.w) X.A (.compStart (.ListComp elt [⟨tg,iter,ifs,0⟩] scope pos) 0 (.ref it) acc { cenv with scope:=relabel scope X.env }) (RR acc cenv.locals) s₄) E s₃) E s2:=by
 refine wpAny_newObj_type (wpAny_newFunctionEnv S.nocell (by intro y hy; cases hy) (λh₁ hns hsb=>?_) S.kind)
 dsimp only at hns hsb ⊢
 have I3:Inv X pn σ (upd H2 s2.heap.objs.size (.lst [])) { s2 with heap:=s2.heap.push { cls:=.type "list", data:=.seq ([]:List Value).toArray } }:=I2.lnew (its:=[]) (t':=s2.toks) .nil (Nat.zero_le _)
 have hobj:∀ b ∈ fp,b < s2.heap.objs.size:=λb hb=>by
  obtain ⟨o,e,_⟩:=Tn.obj _ _ st2 b hb
  exact Heap.lt_size e
 have f3:∀ b ∈ fp,FpOk X pn (upd H2 s2.heap.objs.size (.lst [])) b:=λb hb=>⟨by rw [zi (Nat.ne_of_lt (hobj b hb))]; exact (f2 b hb).1,(f2 b hb).2⟩
 obtain ⟨W,⟨m0,w0⟩,turn⟩:=loop s2.heap.objs.size I2.fresh
 generalize hs3:({ s2 with heap:=s2.heap.push { cls:=.type "list", data:=.seq ([]:List Value).toArray } }:Shared)=s3 at I3
 have e3:s2.heap.push { cls:=.type "list", dict:=none,data:=.seq ([]:List Value).toArray }=s3.heap:=by rw [<- hs3]
 rw [e3] at hns hsb ⊢
 have sz3:s3.heap.objs.size=s2.heap.objs.size + 1:=by rw [<- e3,Heap.size_push]
 have hold:∀ b o,s3.heap.get? b=some o->h₁.get? b=some o:=λb o e=>hsb.extBut b o (Nat.ne_of_lt (Heap.lt_size e)) (Heap.get?_push_of_some _ e)
 have hobj3:∀ b ∈ fp,b < s3.heap.objs.size:=λb hb=>by rw [sz3]; exact Nat.lt_succ_of_lt (hobj b hb)
 have J0:Inv (yd X (T ++ F) scope cl s3.heap.objs.size fp s3 (upd H2 s2.heap.objs.size (.lst []))) [] (st0 T js σ) (upd H2 s2.heap.objs.size (.lst [])) { s3 with heap:=h₁,toks:=s2.toks + ([]:List (Str × Value)).length } :=
  Qg I3 S p1 p2 hjs (Nat.le_refl _) f3 hobj3 hns hold
 have stL:tn 0 h₁:=Tn.keep _ _ _ st2 λb _ o e=>hold b o (by rw [<- e3]; exact Heap.get?_push_of_some _ e)
 have es:({ s2 with heap:=h₁,toks:=s2.toks + ([]:List (Str × Value)).length }:Shared)={ s3 with heap:=h₁,toks:=s2.toks + ([]:List (Str × Value)).length }:=by rw [<- hs3]
 have main:codeAny (model X.prog X.w) X.A (.compLoop (.ListComp elt [⟨tg,iter,ifs,0⟩] scope pos) 0 (.ref it) (.ref s2.heap.objs.size) (compEnvC scope cl s3.heap.objs.size X.env)) (RR (.ref s2.heap.objs.size) s3.heap.objs.size)
   { s3 with heap:=h₁,toks:=s2.toks + ([]:List (Str × Value)).length }:=by
  have stat:∀ {H':Hp},(∀ b ∈ fp,H' b=none)->∀ b ∈ fp,FpOk (yd X (T ++ F) scope cl s3.heap.objs.size fp s3 (upd H2 s2.heap.objs.size (.lst []))) [] H' b:=λhn b hb =>
   ⟨hn b hb,Nat.ne_of_lt (hobj3 b hb),J0.ok.exfs b hb,.inl hb,(J0.ok.exf b hb).2,λp hp=>(by cases hp)⟩
  refine Wl (λn s'=>∃ i ys H',Inv (yd X (T ++ F) scope cl s3.heap.objs.size fp s3 (upd H2 s2.heap.objs.size (.lst []))) [] (st0 T js σ) H' s' /\ tn i s'.heap /\ (∀ b ∈ fp,H' b=none) /\ W i n ys H') ?_ m0
   ⟨0,[],_,J0,stL,λb hb=>(f3 b hb).1,w0⟩
  rintro n s4 ⟨i,ys,H4,I4,st4,fr4,w4⟩
  obtain ⟨hD,alt⟩:=turn i n ys H4 w4
  rcases alt with ⟨stop,z⟩ | ⟨go,N,hN,step⟩
  ·refine thn (Tn.done (yd X (T ++ F) scope cl s3.heap.objs.size fp s3 (upd H2 s2.heap.objs.size (.lst []))) rfl rfl rfl hc i [] s4 _ H4 (λ_ _=>False) I4 (stat fr4) st4 stop) λr s5 ⟨hr,I5⟩=>?_
   subst hr
   obtain ⟨m5,n5,_⟩:=I5.loc
   have fC:FpOk X pn H4 s3.heap.objs.size:=I2.fpOk (by rw [sz3]; exact Nat.le_succ _) I5.free
   exact hRR _ _ H4 s5 m5 n5 fC ((Qh I3 I5 f3)) z
  ·refine thn (Tn.item (yd X (T ++ F) scope cl s3.heap.objs.size fp s3 (upd H2 s2.heap.objs.size (.lst []))) rfl rfl rfl hc i [] s4 _ H4 (λ_ _=>False) I4 (stat fr4) st4 go) λr s5 ⟨u,hr,h5⟩=>?_
   subst hr
   refine thn h5 λ_ s6 ⟨x,H6,I6,r6,y6,st6,fr6⟩=>?_
   have I6':=I6.pinned (stat fr6) (Tn.obj _ _ st6)
   refine thn (hg _ _ _ _ _ _ s6 _ H6 x u _ I6' r6 (hk x _ H6 _ (step x H6 y6))) λ_ s7 ⟨σ7,H7,I7,q7,kp⟩=>?_
   refine thn (ht _ _ _ _ _ _ s7 σ7 H7 _ I7 q7) λok s8 ⟨H8,I8,q8⟩=>?_
   have again:∀ {s9:Shared} {H9:Hp},Inv (yd X (T ++ F) scope cl s3.heap.objs.size fp s3 (upd H2 s2.heap.objs.size (.lst []))) ([] ++ fh fp s6.heap) σ7 H9 s9->∀ {zs:List V},(∃ m',m' < n /\ W (i + 1) m' zs H9) ->
     ∃ m,m < n /\ ∃ i ys H',Inv (yd X (T ++ F) scope cl s3.heap.objs.size fp s3 (upd H2 s2.heap.objs.size (.lst []))) [] (st0 T js σ) H' s9 /\ tn i s9.heap /\ (∀ b ∈ fp,H' b=none) /\ W i m ys H':=λ{s9 H9} I9 {zs} q9=>by
    obtain ⟨m',hm,w9⟩:=q9
    have I9':=I9.unpinned
    refine ⟨m',hm,i + 1,zs,H9,I9'.weak kp.1.symm (λa v ea=>?_),Tn.keep _ _ _ st6 λb hb o e=>(I9.pin (b,o) (List.mem_append_right _ (List.mem_append_right _ (wv hb e)))).1,λb hb=>?_,w9⟩
    ·have ha:T.length <= a:=by
      rcases Nat.lt_or_ge a T.length with z | z
      ·exfalso
       unfold st0 at ea
       rw [List.getElem?_append_left (by simpa using z),List.getElem?_replicate] at ea
       split at ea <;> cases ea
      ·exact z
     rw [kp.2 a ha]
     exact ea
    ·obtain ⟨o,e,d⟩:=Tn.obj _ _ st6 b hb
     exact (I9.pin (b,o) (List.mem_append_right _ (List.mem_append_right _ (wv hb e)))).2.1
   cases ok with
   | false =>
    rw [if_neg Bool.false_ne_true] at q8 ⊢
    exact again I8 (hN _ _ q8)
   | true =>
    rw [if_pos rfl] at q8 ⊢
    refine thn (he _ _ _ _ _ _ s8 σ7 H8 _ I8 q8) λy s9 ⟨v9,H9,I9,r9,hD9,hl9,q9⟩=>?_
    refine thn (fq _ s9 σ7 H9 (.ref s2.heap.objs.size) [v9] (.ref s2.heap.objs.size) [y] (λ_ H10=>H10=upd H9 s2.heap.objs.size (.lst (ys ++ [v9]))) I9 rfl (.cons r9 .nil) ⟨_,_,_,rfl,rfl,hD9,hl9,rfl⟩) λ_ s10 ⟨_,H10,I10,_,e10⟩=>?_
    subst e10
    exact again I10 (hN _ _ q9)
 show codeAny _ _ _ _ ({ s2 with heap:=h₁,toks:=s2.toks + ([]:List (Str × Value)).length }:Shared)
 rw [es]
 exact codeAny_compStart_list main (Tn.self _ 0 _ _ _ stL main)
def Nb {wi:TI} (hc:X.calm=true) (hi:PI X tg iter wi) (S:zt X.env.scope scope T F) (hjs:Paired (λx j=>X.N[j]?=some x) F js)
  (hg:∀ cl C fp s H,PG (yd X (T ++ F) scope cl C fp s H) tg g) (hk:bo T.length g)
  (ht:∀ cl C fp s H,PIf (yd X (T ++ F) scope cl C fp s H) ifs tc) (he:∀ cl C fp s H,PE (yd X (T ++ F) scope cl C fp s H) elt te)
  (hs:∀ x,foldedSetIterable iter X.env x=pure x:=by intro _; rfl):PE X (.ListComp elt [⟨tg,iter,ifs,0⟩] scope pos) (Of wi T js g tc te):=by
 intro pn s σ H Q I h
 obtain ⟨cl,hcl,p1,p2⟩:=j7 (qk I S)
 rw [eval_ListComp]
 refine wpAny_comprehension_free (use:=none) rfl hs hcl S.kind S.loc (thn (hi pn s σ H _ I h) λv s1 h1=>thn h1 λitv s2 h2=>?_)
 obtain ⟨it,fp,tn,J,H2,e,I2,Tn,st2,f2,loop⟩:=h2
 subst e
 refine j6 (RR:=λacc C=>compPost (model X.prog X.w) X.A X.xe none (EP X pn σ Q) acc C) hc S hjs hg hk ht he p1 p2 I2 Tn st2 f2 (λD H'=>Q (.ref D) H') loop ?_
 intro D C H' s' m' hn fC I' z
 obtain ⟨f0,f1,f2,f3,f4,f5⟩:=fC
 exact ⟨m',hn,λh' sb=>⟨.ref D,H',I'.turned (t':=s'.toks) (λb o hb e=>(sb.2 b hb).trans e) f0 f1 f3 f4 f5,rfl,z⟩⟩
def Xs {wi:TI} {i:Nat} {y:Str} {py spos:Pos} (hc:X.calm=true) (hN:X.N.Nodup) (hy:X.N[i]?=some y) (hl:X.env.scope.names.lookup y=some .local \/ X.env.scope.names.lookup y=some .cell) (hi:PI X tg iter wi) (S:zt X.env.scope scope T F) (hjs:Paired (λx j=>X.N[j]?=some x) F js)
  (hg:∀ cl C fp s H,PG (yd X (T ++ F) scope cl C fp s H) tg g) (hk:bo T.length g)
  (ht:∀ cl C fp s H,PIf (yd X (T ++ F) scope cl C fp s H) ifs tc) (he:∀ cl C fp s H,PE (yd X (T ++ F) scope cl C fp s H) elt te)
  (hsw:swapsWith (.ListComp elt [⟨tg,iter,ifs,0⟩] scope pos) (some (.Name y py)) spos.line X.env=pure true:=by rfl)
  (hs:∀ x,foldedSetIterable iter X.env x=pure x:=by intro _; rfl) (hfn:X.fn y=true \/ X.env.scope.names.lookup y=some .local:=by first | exact .inl rfl | exact .inr rfl | assumption) :
  PS X (.Assign [.Name y py] (.ListComp elt [⟨tg,iter,ifs,0⟩] scope pos) spos) (λD σ H=>Of wi T js g tc te σ H λv H1=>D.nx (σ.set i (some v)) H1):=by
 intro pn s σ H D I h
 obtain ⟨cl,hcl,p1,p2⟩:=j7 (qk I S)
 rw [exec_Assign_Name_used _ _ _ _ hsw]
 refine wpAny_bind (wpAny_standAt (wpAny_bind ?_))
 show wpAny _ X.A (do let _ <- comprehension (.ListComp elt [⟨tg,iter,ifs,0⟩] scope pos) scope X.env _ (newList []) false (eval iter X.env) (some (assign (.Name y py) X.env))) _ _ s
 refine wpAny_bind (thn (wpAny_comprehension_free (use:=some (assign (.Name y py) X.env)) (Q:=λ_ s'=>SP X pn D .next s') rfl hs hcl S.kind S.loc (thn (hi pn s σ H _ I h) λv s1 h1=>thn h1 λitv s2 h2=>?_)) λ_ s' hq=>wpAny_pure (wpAny_pure hq))
 obtain ⟨it,fp,tn,J,H2,e,I2,Tn,st2,f2,loop⟩:=h2
 subst e
 refine j6 (RR:=λacc C=>compPost (model X.prog X.w) X.A X.xe (some (assign (.Name y py) X.env)) (λ_ s'=>SP X pn D .next s') acc C) hc S hjs hg hk ht he p1 p2 I2 Tn st2 f2 (λD0 H'=>D.nx (σ.set i (some (.ref D0))) H') loop ?_
 intro D0 C H' s' m' hn fC I' z
 obtain ⟨f0,f1,f2,f3,f4,f5⟩:=fC
 show wpAny _ X.A (assign (.Name y py) X.env (.ref D0)) _ _ s'
 refine wpAny_assign_Name (gx (v:=.ref D0) I' hN hy hl rfl (λs'' I'' ch=>?_) hfn)
 obtain ⟨a,sb,ha⟩:=ch
 have hCa:C ≠ a:=by
  rcases ha with rfl | ha
  ·exact f1
  ·exact λz=>f4 y a ha z.symm
 exact ⟨m',hn.sameBut sb hCa,λh' sb'=>⟨_,H',I''.turned (t':=s''.toks) (λb o hb e=>(sb'.2 b hb).trans e) f0 f1 f3 f4 f5,z⟩⟩
end
def Itv (n:Nat) (val:Nat->V->Prop):It:=⟨λi _=>i < n,λi H x H'=>H'=H /\ val i x,λi _=>i=n⟩
def Mt (x:Str) (i:Nat) (v:V):Prop:=∃ c,x.cps[i]?=some c /\ v=.str ⟨#[c]⟩
def So {P:Program} {w:World} {K:W.Frag} {tg:Expr} {it:Addr} {x:Str} {t:Tok} {T:String}
  (W:∀ A:Around,A.handled=none->Walks P w A it [it] [it] x.cps.size (SignAt x) (λi h=>h.IsStrIter it T x t i))
  (hs:∀ (A:Around) (i:Nat) (s:Shared) (Q:Value->Shared->Prop) (E:Value->Shared->Prop),s.heap.IsStrIter it T x t i->Q (.ref it) s->wpAny (model P w) A (pyIter (.ref it)) Q E s)
  (hT:["enumerate", "zip", "dict_itemiterator", "dict_reverseitemiterator", "odict_iterator", "itertools.zip_longest", "itertools.pairwise"].contains T=false) :
  Turn P w K tg (Itv x.cps.size (Mt x)) [it] it (λi h=>h.IsStrIter it T x t i) where
 mem:=by simp
 obj:=λi h st b hb=>by
  have e:b=it:=by simpa using hb
  subst e
  obtain ⟨o,e,c,d⟩:=st
  exact ⟨o,e,λv z=>by rw [d] at z; cases z⟩
 keep:=λi h h' st k=>let ⟨o,e,r⟩:=st; ⟨o,k it (by simp) o e,r⟩
 item:=by
  intro X hP hw hK hc i pn s σ H E I hf st hg
  subst hP hw hK
  obtain ⟨f0,f1,f2,f3,f4,f5⟩:=hf it (by simp)
  refine (W X.A (I.ok.hd hc)).item i s _ _ hg st λv h' tk hv st' kk=>?_
  obtain ⟨c,u,hx,rfl⟩:=hv
  have I1:Inv X pn σ H { s with heap:=h',toks:=tk }:=I.turned (λb o hb e=>kk b o (by simpa using hb) e) f0 f1 f3 f4 f5
  obtain ⟨o,e,c',d⟩:=id st'
  exact ⟨_,rfl,T3 (s:={ s with heap:=h',toks:=tk }) e c' d hT ⟨.str ⟨#[c]⟩,H,I1,⟨u,rfl⟩,⟨rfl,c,hx,rfl⟩,st',λb hb=>(hf b hb).1⟩⟩
 done:=by
  intro X hP hw hK hc i pn s σ H E I hf st hg
  subst hP hw hK
  obtain ⟨f0,f1,f2,f3,f4,f5⟩:=hf it (by simp)
  have e:i=x.cps.size:=hg
  subst e
  exact (W X.A (I.ok.hd hc)).done s _ _ st λh' tk kk=>⟨rfl,I.turned (λb o hb e=>kk b o (by simpa using hb) e) f0 f1 f3 f4 f5⟩
 self:=λA i s Q E st h=>hs A i s Q E st h
def Xe:V->Option Bool
 | .bl b=>some b
 | .int i=>some (i != 0)
 | .non=>some false
 | _=>none
def bu (ys:List V) (d:Bool) (i:Nat):Bool:=((ys[i]?).bind Xe).getD d
def bn (ys:List V) (h:∀ y ∈ ys,(Xe y).isSome=true):(List.range ys.length).all (bu ys true)=ys.all λy=>Xe y == some true:=by
 rw [Bool.eq_iff_iff,List.all_eq_true,List.all_eq_true]
 constructor
 ·intro q y hy
  obtain ⟨i,hi,e⟩:=List.getElem_of_mem hy
  have z:=q i (List.mem_range.mpr hi)
  unfold bu at z
  rw [List.getElem?_eq_getElem hi,Option.bind_some,e] at z
  obtain ⟨b,hb⟩:=Option.isSome_iff_exists.mp (h y hy)
  rw [hb] at z ⊢
  simpa using z
 ·intro q i hi
  have hi':=List.mem_range.mp hi
  have z:=q _ (List.getElem_mem hi')
  unfold bu
  rw [List.getElem?_eq_getElem hi',Option.bind_some,eq_of_beq z]
  rfl
def Y5 {P:Program} {w:World} {A:Around} {ys:List V} {its:List Value} (d:Bool) (r:Vals ys its) (h:∀ y ∈ ys,(Xe y).isSome=true):TruthOf P w A (λi v=>its.toArray[i]?=some v) (bu ys d):=by
 intro i v s Q E hP hQ
 obtain ⟨y,hy,ry⟩:=ug r (show its[i]?=some v by simpa using hP)
 unfold bu at hQ
 rw [hy,Option.bind_some] at hQ
 have hs:=h y (List.mem_of_getElem? hy)
 cases y with
 | bl b=>cases ry; exact wpAny_truthy_bool hQ
 | int k=>obtain ⟨t,rfl⟩:=ry; exact PySem.P.truthy_int hQ
 | non=>cases ry; exact truthy_none hQ
 | _=>cases hs
section
variable {X:Cx}
def d5 {s:Shared} {h':Heap} {o:Obj} (hk:∀ b x,b ∉ [s.heap.objs.size]->(s.heap.push o).get? b=some x->h'.get? b=some x):∀ b x,s.heap.get? b=some x->h'.get? b=some x :=
 λb x e=>hk b x (by simpa using Nat.ne_of_lt (Heap.lt_size e)) (Heap.get?_push_of_some _ e)
def rAll (K:W.Frag) (f:List V->Bool):List V->Hp->VK->Prop:=λxs H Q=>∃ p ys,xs=[.ref p] /\ (SqL K H p ys \/ SqT K H p ys) /\ (∀ y ∈ ys,(Xe y).isSome=true) /\ Q (.bl (f ys)) H
def ba (hc:X.calm=true):w5 X (.builtin "all") (rAll X.K λys=>ys.all λy=>Xe y == some true):=by
 intro pn s σ H xs us Q I r h
 obtain ⟨p,ys,rfl,hq,ht,q⟩:=h
 obtain ⟨u,rfl,rx⟩:=ux r
 cases rx
 rcases hq with hq | hq
 ·obtain ⟨its,rv,pl,hz⟩:=I.list hq
  have hlt:p < s.heap.objs.size:=by obtain ⟨_,e,_⟩:=pl.isList; exact Heap.lt_size e
  refine call_all_walk (wpAny_pyIter_list pl.isList ⟨s.heap.objs.size,[s.heap.objs.size,p],[s.heap.objs.size],its.toArray.size,_,_,bu ys true,rfl,Walks.list (A:=X.A.in1) (I.ok.hd hc) _ p (Nat.ne_of_lt hlt) its.toArray,
   ⟨⟨_,Heap.get?_push_size _ rfl,rfl,rfl⟩,pl.isList.push _⟩,Y5 true rv ht,λh' tk hk=>?_⟩)
  rw [List.size_toArray,<- rv.length,bn ys ht]
  exact ⟨.bl _,H,I.kept (d5 hk),rfl,q⟩
 ·obtain ⟨its,rv,pl,hz⟩:=I.tuple hq
  have hlt:p < s.heap.objs.size:=by obtain ⟨_,e,_⟩:=pl; exact Heap.lt_size e
  have pl':s.heap.IsTuple p its.toArray:=pl
  refine call_all_walk (wpAny_pyIter_tuple pl' ⟨s.heap.objs.size,[s.heap.objs.size,p],[s.heap.objs.size],its.toArray.size,_,_,bu ys true,rfl,Walks.tuple (A:=X.A.in1) (I.ok.hd hc) _ p (Nat.ne_of_lt hlt) its.toArray,
   ⟨⟨_,Heap.get?_push_size _ rfl,rfl,rfl⟩,pl'.at λo e=>Heap.get?_push_of_some _ e⟩,Y5 true rv ht,λh' tk hk=>?_⟩)
  rw [List.size_toArray,<- rv.length,bn ys ht]
  exact ⟨.bl _,H,I.kept (d5 hk),rfl,q⟩
end
end L3
local macro_rules | `(tactic| walk_at "o")=>`(tactic| first | exact Or.inl rfl | exact Or.inr rfl)
namespace DL
open PySem PySem.Spec L2 L3
open PyProof.Rows hiding St
inductive Cst where
 | int (i:Int) | str (x:Str) | tup (cs:List Cst)
mutual
def CRep (K:W.Frag):Cst->V->Prop
 | .int i,v=>v=.int i
 | .str x,v=>v=.str x
 | .tup cs,v=>∃ (a:Addr) (o:Obj) (its:Array Value) (n:Nat) (xs:List V),v=.ref a /\ K.lookup a=some o /\ o.cls=.type "tuple" /\ o.data=.seq its n /\ its.size <= sizeLine /\ Vals xs its.toList /\ Ws K cs xs
def Ws (K:W.Frag):List Cst->List V->Prop
 | [],xs=>xs=[]
 | c :: cs,xs=>∃ v r,xs=v :: r /\ CRep K c v /\ Ws K cs r
end
inductive D where
 | non | bl (b:Bool) | int (i:Int) | str (x:Str) | ty (n:String)
 | tup (ds:List D) | lst (ds:List D) | dk (ks:List Key) (ds:List D) | dt (ks:List (List Key)) (ds:List D)
  | scr (ns:List Int)
  | exc (C:Addr)
  | fd (m:Int)
  | dz (rs:List (List Int × Int))
 | cn (c:Cst)
  | ob (C:Addr) (ns:List Str) (ds:List D)
def Scr (K:W.Frag) (H:Hp) (a:Addr) (ns:List Int):Prop :=
 (∃ o,H a=some (.frz o (.lst (ns.map V.int)))) \/
  ∃ (o:Obj) (its:Array Value) (n:Nat),K.lookup a=some o /\ o.cls=.type "list" /\ o.dict=none /\ o.data=.seq its n /\ its.size <= sizeLine /\ Vals (ns.map V.int) its.toList
def Scr.seq {K:W.Frag} {H:Hp} {a:Addr} {ns:List Int} (h:Scr K H a ns):SqL K H a (ns.map V.int):=by
 rcases h with ⟨o,h⟩ | h
 ·exact .inl (.inr ⟨o,h⟩)
 ·exact .inr h
def dzV (rs:List (List Int × Int)):List (List Key × V):=rs.map λp=>(p.1.map Sum.inl,V.int p.2)
def Dz (H:Hp) (a:Addr) (rs:List (List Int × Int)):Prop:=(∃ o,H a=some (.frz o (.dT (dzV rs)))) /\ (rs.map Prod.fst).Nodup
def SqR (K:W.Frag) (H:Hp) (a:Addr) (xs:List V):Prop:=SqT K H a xs /\ H a=some (.tup xs)
def ExcO (a C:Addr):HO:=.ext λh=>∃ o,h.get? a=some o /\ o.cls=.ref C /\ W.notCls o=true
def wx (a:Addr) (m:Int):HO:=.ext λh=>(0 <= m /\ ∃ (its:Array Value) (n:Nat),h.get? a=some { cls:=.type "list", dict:=none,data:=.seq its n,slots:=#[] } /\ its.size <= 1000 /\ (m <= 0->1 <= its.size) /\ ∀ v ∈ its,∃ (i:Int) (t:Tok),v=.int i t /\ (0 < m->0 <= i /\ i < m)) \/
 (m < 0 /\ (a == sysModules)=false /\ ∃ (o:Obj) (es:Array DictEntry) (ep:Nat),h.get? a=some o /\ o.ExactDict /\ o.data=.dict es ep /\ (es.size:Int) = - m - 1)
mutual
def Rep (K:W.Frag) (H:Hp) (O:List Addr):D->V->Prop
 | .non,v=>v=.non
 | .bl b,v=>v=.bl b
 | .int i,v=>v=.int i
 | .str x,v=>v=.str x
 | .ty n,v=>v=.ty n
 | .cn c,v=>CRep K c v
 | .tup ds,v=>∃ a xs,v=.ref a /\ SqR K H a xs /\ Reps K H O ds xs
 | .lst ds,v=>∃ a xs,v=.ref a /\ H a=some (.lst xs) /\ a ∉ O /\ Reps K H O ds xs
 | .scr ns,v=>∃ a,v=.ref a /\ Scr K H a ns
 | .dz rs,v=>∃ a,v=.ref a /\ Dz H a rs
 | .exc C,v=>∃ a,v=.ref a /\ H a=some (ExcO a C) /\ a ∉ O
 | .fd m,v=>∃ a,v=.ref a /\ H a=some (wx a m) /\ a ∉ O
 | .dk ks ds,v=>∃ a xs,v=.ref a /\ H a=some (.dK (ks.zip xs)) /\ a ∉ O /\ ks.length=ds.length /\ ks.Nodup /\ Reps K H O ds xs
 | .dt ks ds,v=>∃ a xs,v=.ref a /\ H a=some (.dT (ks.zip xs)) /\ a ∉ O /\ ks.length=ds.length /\ ks.Nodup /\ Reps K H O ds xs
 | .ob C ns ds,v=>∃ a dx xs,v=.ref a /\ H a=some (.ins C dx (ns.zip xs)) /\ a ∉ O /\ ns.length=ds.length /\ ns.Nodup /\ Reps K H O ds xs
def Reps (K:W.Frag) (H:Hp) (O:List Addr):List D->List V->Prop
 | [],xs=>xs=[]
 | d :: ds,xs=>∃ v r,xs=v :: r /\ Rep K H O d v /\ Reps K H O ds r
end
structure Grow (O O':List Addr) (H H':Hp):Prop where
 keep:∀ b u,H b=some u->b ∉ O->H' b=some u /\ b ∉ O'
 tups:∀ b xs,H b=some (.tup xs)->H' b=some (.tup xs)
 frzs:∀ b o u,H b=some (.frz o u)->H' b=some (.frz o u)
def Grow.same {O:List Addr} {H H':Hp} (s:Same H H'):Grow O O H H':=⟨λb u h n=>⟨s b u h,n⟩,λb xs h=>s b _ h,λb o u h=>s b _ h⟩
def Grow.refl {O:List Addr} {H:Hp}:Grow O O H H:=Grow.same (Same.refl H)
def Grow.trans {O O' O'':List Addr} {H H' H'':Hp} (a:Grow O O' H H') (b:Grow O' O'' H' H''):Grow O O'' H H'' :=
 ⟨λc u h n=>let ⟨h',n'⟩:=a.keep c u h n; b.keep c u h' n',λc xs h=>b.tups c xs (a.tups c xs h),λc o u h=>b.frzs c o u (a.frzs c o u h)⟩
def je {K:W.Frag} {O O':List Addr} {H H':Hp} {a:Addr} {xs:List V} (g:Grow O O' H H') (h:SqT K H a xs):SqT K H' a xs:=by
 rcases h with (h | ⟨o,h⟩) | h
 ·exact .inl (.inl (g.tups _ _ h))
 ·exact .inl (.inr ⟨o,g.frzs _ _ _ h⟩)
 ·exact .inr h
def Y9 {K:W.Frag} {O O':List Addr} {H H':Hp} {a:Addr} {xs:List V} (g:Grow O O' H H') (h:SqR K H a xs):SqR K H' a xs:=⟨je g h.1,g.tups _ _ h.2⟩
def t8 {K:W.Frag} {O O':List Addr} {H H':Hp} {a:Addr} {ns:List Int} (g:Grow O O' H H') (h:Scr K H a ns):Scr K H' a ns:=by
 rcases h with ⟨o,h⟩ | h
 ·exact .inl ⟨o,g.frzs _ _ _ h⟩
 ·exact .inr h
def Tp {O O':List Addr} {H H':Hp} {a:Addr} {rs:List (List Int × Int)} (g:Grow O O' H H') (h:Dz H a rs):Dz H' a rs:=⟨let ⟨o,q⟩:=h.1; ⟨o,g.frzs _ _ _ q⟩,h.2⟩
mutual
def Rep.grow {K:W.Frag} {O O':List Addr} {H H':Hp} (g:Grow O O' H H'):∀ (d:D) (v:V),Rep K H O d v->Rep K H' O' d v
 | .non,_,h=>h
 | .bl _,_,h=>h
 | .int _,_,h=>h
 | .str _,_,h=>h
 | .ty _,_,h=>h
 | .cn _,_,h=>h
 | .tup ds,v,h=>by
  obtain ⟨a,xs,e,q,r⟩:=h
  exact ⟨a,xs,e,Y9 g q,Reps.grow g ds xs r⟩
 | .lst ds,v,h=>by
  obtain ⟨a,xs,e,q,n,r⟩:=h
  exact ⟨a,xs,e,(g.keep _ _ q n).1,(g.keep _ _ q n).2,Reps.grow g ds xs r⟩
 | .scr ns,v,h=>by
  obtain ⟨a,e,q⟩:=h
  exact ⟨a,e,t8 g q⟩
 | .dz rs,v,h=>by
  obtain ⟨a,e,q⟩:=h
  exact ⟨a,e,Tp g q⟩
 | .exc C,v,h=>by
  obtain ⟨a,e,q,n⟩:=h
  exact ⟨a,e,(g.keep _ _ q n).1,(g.keep _ _ q n).2⟩
 | .fd m,v,h=>by
  obtain ⟨a,e,q,n⟩:=h
  exact ⟨a,e,(g.keep _ _ q n).1,(g.keep _ _ q n).2⟩
 | .dk ks ds,v,h=>by
  obtain ⟨a,xs,e,q,n,l,nd,r⟩:=h
  exact ⟨a,xs,e,(g.keep _ _ q n).1,(g.keep _ _ q n).2,l,nd,Reps.grow g ds xs r⟩
 | .dt ks ds,v,h=>by
  obtain ⟨a,xs,e,q,n,l,nd,r⟩:=h
  exact ⟨a,xs,e,(g.keep _ _ q n).1,(g.keep _ _ q n).2,l,nd,Reps.grow g ds xs r⟩
 | .ob C ns ds,v,h=>by
  obtain ⟨a,dx,xs,e,q,n,l,nd,r⟩:=h
  exact ⟨a,dx,xs,e,(g.keep _ _ q n).1,(g.keep _ _ q n).2,l,nd,Reps.grow g ds xs r⟩
def Reps.grow {K:W.Frag} {O O':List Addr} {H H':Hp} (g:Grow O O' H H'):∀ (ds:List D) (xs:List V),Reps K H O ds xs->Reps K H' O' ds xs
 | [],_,h=>h
 | d :: ds,xs,h=>by
  obtain ⟨v,r,e,q,t⟩:=h
  exact ⟨v,r,e,Rep.grow g d v q,Reps.grow g ds r t⟩
end
mutual
def Rep.sub {K:W.Frag} {O O':List Addr} {H:Hp} (g:∀ a ∈ O',a ∈ O):∀ (d:D) (v:V),Rep K H O d v->Rep K H O' d v
 | .non,_,h=>h
 | .bl _,_,h=>h
 | .int _,_,h=>h
 | .str _,_,h=>h
 | .ty _,_,h=>h
 | .cn _,_,h=>h
 | .tup ds,v,h=>by
  obtain ⟨a,xs,e,q,r⟩:=h
  exact ⟨a,xs,e,q,Reps.sub g ds xs r⟩
 | .lst ds,v,h=>by
  obtain ⟨a,xs,e,q,n,r⟩:=h
  exact ⟨a,xs,e,q,λz=>n (g a z),Reps.sub g ds xs r⟩
 | .scr _,_,h=>h
 | .dz _,_,h=>h
 | .exc _,_,h=>by
  obtain ⟨a,e,q,n⟩:=h
  exact ⟨a,e,q,λz=>n (g a z)⟩
 | .fd _,_,h=>by
  obtain ⟨a,e,q,n⟩:=h
  exact ⟨a,e,q,λz=>n (g a z)⟩
 | .dk ks ds,v,h=>by
  obtain ⟨a,xs,e,q,n,l,nd,r⟩:=h
  exact ⟨a,xs,e,q,λz=>n (g a z),l,nd,Reps.sub g ds xs r⟩
 | .dt ks ds,v,h=>by
  obtain ⟨a,xs,e,q,n,l,nd,r⟩:=h
  exact ⟨a,xs,e,q,λz=>n (g a z),l,nd,Reps.sub g ds xs r⟩
 | .ob C ns ds,v,h=>by
  obtain ⟨a,dx,xs,e,q,n,l,nd,r⟩:=h
  exact ⟨a,dx,xs,e,q,λz=>n (g a z),l,nd,Reps.sub g ds xs r⟩
def Reps.sub {K:W.Frag} {O O':List Addr} {H:Hp} (g:∀ a ∈ O',a ∈ O):∀ (ds:List D) (xs:List V),Reps K H O ds xs->Reps K H O' ds xs
 | [],_,h=>h
 | d :: ds,xs,h=>by
  obtain ⟨v,r,e,q,t⟩:=h
  exact ⟨v,r,e,Rep.sub g d v q,Reps.sub g ds r t⟩
end
mutual
def pureD:D->Prop
 | .tup ds=>x6 ds
 | .lst _=>False
 | .dk _ _=>False
 | .dt _ _=>False
 | .ob _ _ _=>False
 | .scr _=>True
 | .dz _=>True
 | .exc _=>False
 | .fd _=>False
 | .non=>True
 | .bl _=>True
 | .int _=>True
 | .str _=>True
 | .ty _=>True
 | .cn _=>True
def x6:List D->Prop
 | []=>True
 | d :: ds=>pureD d /\ x6 ds
end
def yf:∀ {ds:List D},x6 ds ↔ ∀ d ∈ ds,pureD d
 | []=>by simp [x6]
 | d :: ds=>by
  rw [x6,yf]
  simp
mutual
def Rep.pure {K:W.Frag} {O O':List Addr} {H:Hp}:∀ (d:D) (v:V),pureD d->Rep K H O d v->Rep K H O' d v
 | .non,_,_,h=>h
 | .bl _,_,_,h=>h
 | .int _,_,_,h=>h
 | .str _,_,_,h=>h
 | .ty _,_,_,h=>h
 | .cn _,_,_,h=>h
 | .tup ds,v,p,h=>by
  obtain ⟨a,xs,e,q,r⟩:=h
  exact ⟨a,xs,e,q,Reps.pure ds xs p r⟩
 | .scr _,_,_,h=>h
 | .dz _,_,_,h=>h
 | .exc _,_,p,_=>p.elim
 | .fd _,_,p,_=>p.elim
 | .lst ds,v,p,h=>p.elim
 | .dk ks ds,v,p,h=>p.elim
 | .dt ks ds,v,p,h=>p.elim
 | .ob C ns ds,v,p,h=>p.elim
def Reps.pure {K:W.Frag} {O O':List Addr} {H:Hp}:∀ (ds:List D) (xs:List V),x6 ds->Reps K H O ds xs->Reps K H O' ds xs
 | [],_,_,h=>h
 | d :: ds,xs,p,h=>by
  obtain ⟨v,r,e,q,t⟩:=h
  exact ⟨v,r,e,Rep.pure d v p.1 q,Reps.pure ds r p.2 t⟩
end
mutual
def RepN (K:W.Frag) (H:Hp) (P:Addr->Prop):D->V->Prop
 | .non,v=>v=.non
 | .bl b,v=>v=.bl b
 | .int i,v=>v=.int i
 | .str x,v=>v=.str x
 | .ty n,v=>v=.ty n
 | .cn c,v=>CRep K c v
 | .tup ds,v=>∃ a xs,v=.ref a /\ SqR K H a xs /\ yg K H P ds xs
 | .lst ds,v=>∃ a xs,v=.ref a /\ H a=some (.lst xs) /\ P a /\ yg K H P ds xs
 | .scr ns,v=>∃ a,v=.ref a /\ Scr K H a ns
 | .dz rs,v=>∃ a,v=.ref a /\ Dz H a rs
 | .exc C,v=>∃ a,v=.ref a /\ H a=some (ExcO a C) /\ P a
 | .fd m,v=>∃ a,v=.ref a /\ H a=some (wx a m) /\ P a
 | .dk ks ds,v=>∃ a xs,v=.ref a /\ H a=some (.dK (ks.zip xs)) /\ P a /\ ks.length=ds.length /\ ks.Nodup /\ yg K H P ds xs
 | .dt ks ds,v=>∃ a xs,v=.ref a /\ H a=some (.dT (ks.zip xs)) /\ P a /\ ks.length=ds.length /\ ks.Nodup /\ yg K H P ds xs
 | .ob C ns ds,v=>∃ a dx xs,v=.ref a /\ H a=some (.ins C dx (ns.zip xs)) /\ P a /\ ns.length=ds.length /\ ns.Nodup /\ yg K H P ds xs
def yg (K:W.Frag) (H:Hp) (P:Addr->Prop):List D->List V->Prop
 | [],xs=>xs=[]
 | d :: ds,xs=>∃ v r,xs=v :: r /\ RepN K H P d v /\ yg K H P ds r
end
mutual
def RepN.to {K:W.Frag} {P P':Addr->Prop} {H H':Hp} (s:Same H H') (g:∀ a,P a->P' a):∀ (d:D) (v:V),RepN K H P d v->RepN K H' P' d v
 | .non,_,h=>h
 | .bl _,_,h=>h
 | .int _,_,h=>h
 | .str _,_,h=>h
 | .ty _,_,h=>h
 | .cn _,_,h=>h
 | .tup ds,v,h=>by
  obtain ⟨a,xs,e,q,r⟩:=h
  exact ⟨a,xs,e,Y9 (Grow.same (O:=[]) s) q,yg.to s g ds xs r⟩
 | .lst ds,v,h=>by
  obtain ⟨a,xs,e,q,n,r⟩:=h
  exact ⟨a,xs,e,s _ _ q,g a n,yg.to s g ds xs r⟩
 | .scr ns,v,h=>by
  obtain ⟨a,e,q⟩:=h
  exact ⟨a,e,t8 (Grow.same (O:=[]) s) q⟩
 | .dz rs,v,h=>by
  obtain ⟨a,e,q⟩:=h
  exact ⟨a,e,Tp (Grow.same (O:=[]) s) q⟩
 | .exc C,v,h=>by
  obtain ⟨a,e,q,n⟩:=h
  exact ⟨a,e,s _ _ q,g a n⟩
 | .fd m,v,h=>by
  obtain ⟨a,e,q,n⟩:=h
  exact ⟨a,e,s _ _ q,g a n⟩
 | .dk ks ds,v,h=>by
  obtain ⟨a,xs,e,q,n,l,nd,r⟩:=h
  exact ⟨a,xs,e,s _ _ q,g a n,l,nd,yg.to s g ds xs r⟩
 | .dt ks ds,v,h=>by
  obtain ⟨a,xs,e,q,n,l,nd,r⟩:=h
  exact ⟨a,xs,e,s _ _ q,g a n,l,nd,yg.to s g ds xs r⟩
 | .ob C ns ds,v,h=>by
  obtain ⟨a,dx,xs,e,q,n,l,nd,r⟩:=h
  exact ⟨a,dx,xs,e,s _ _ q,g a n,l,nd,yg.to s g ds xs r⟩
def yg.to {K:W.Frag} {P P':Addr->Prop} {H H':Hp} (s:Same H H') (g:∀ a,P a->P' a):∀ (ds:List D) (xs:List V),yg K H P ds xs->yg K H' P' ds xs
 | [],_,h=>h
 | d :: ds,xs,h=>by
  obtain ⟨v,r,e,q,t⟩:=h
  exact ⟨v,r,e,RepN.to s g d v q,yg.to s g ds r t⟩
end
mutual
def RepN.rep {K:W.Frag} {P:Addr->Prop} {H:Hp} {O:List Addr} (g:∀ a,P a->a ∉ O):∀ (d:D) (v:V),RepN K H P d v->Rep K H O d v
 | .non,_,h=>h
 | .bl _,_,h=>h
 | .int _,_,h=>h
 | .str _,_,h=>h
 | .ty _,_,h=>h
 | .cn _,_,h=>h
 | .tup ds,v,h=>by
  obtain ⟨a,xs,e,q,r⟩:=h
  exact ⟨a,xs,e,q,yg.reps g ds xs r⟩
 | .lst ds,v,h=>by
  obtain ⟨a,xs,e,q,n,r⟩:=h
  exact ⟨a,xs,e,q,g a n,yg.reps g ds xs r⟩
 | .scr _,_,h=>h
 | .dz _,_,h=>h
 | .exc C,v,h=>by
  obtain ⟨a,e,q,n⟩:=h
  exact ⟨a,e,q,g a n⟩
 | .fd m,v,h=>by
  obtain ⟨a,e,q,n⟩:=h
  exact ⟨a,e,q,g a n⟩
 | .dk ks ds,v,h=>by
  obtain ⟨a,xs,e,q,n,l,nd,r⟩:=h
  exact ⟨a,xs,e,q,g a n,l,nd,yg.reps g ds xs r⟩
 | .dt ks ds,v,h=>by
  obtain ⟨a,xs,e,q,n,l,nd,r⟩:=h
  exact ⟨a,xs,e,q,g a n,l,nd,yg.reps g ds xs r⟩
 | .ob C ns ds,v,h=>by
  obtain ⟨a,dx,xs,e,q,n,l,nd,r⟩:=h
  exact ⟨a,dx,xs,e,q,g a n,l,nd,yg.reps g ds xs r⟩
def yg.reps {K:W.Frag} {P:Addr->Prop} {H:Hp} {O:List Addr} (g:∀ a,P a->a ∉ O):∀ (ds:List D) (xs:List V),yg K H P ds xs->Reps K H O ds xs
 | [],_,h=>h
 | d :: ds,xs,h=>by
  obtain ⟨v,r,e,q,t⟩:=h
  exact ⟨v,r,e,RepN.rep g d v q,yg.reps g ds r t⟩
end
mutual
def Rep.toN {K:W.Frag} {P:Addr->Prop} {O:List Addr} {H:Hp}:∀ (d:D) (v:V),pureD d->Rep K H O d v->RepN K H P d v
 | .non,_,_,h=>h
 | .bl _,_,_,h=>h
 | .int _,_,_,h=>h
 | .str _,_,_,h=>h
 | .ty _,_,_,h=>h
 | .cn _,_,_,h=>h
 | .tup ds,v,p,h=>by
  obtain ⟨a,xs,e,q,r⟩:=h
  exact ⟨a,xs,e,q,Reps.toN ds xs p r⟩
 | .scr _,_,_,h=>h
 | .dz _,_,_,h=>h
 | .exc _,_,p,_=>p.elim
 | .fd _,_,p,_=>p.elim
 | .lst ds,v,p,h=>p.elim
 | .dk ks ds,v,p,h=>p.elim
 | .dt ks ds,v,p,h=>p.elim
 | .ob C ns ds,v,p,h=>p.elim
def Reps.toN {K:W.Frag} {P:Addr->Prop} {O:List Addr} {H:Hp}:∀ (ds:List D) (xs:List V),x6 ds->Reps K H O ds xs->yg K H P ds xs
 | [],_,_,h=>h
 | d :: ds,xs,p,h=>by
  obtain ⟨v,r,e,q,t⟩:=h
  exact ⟨v,r,e,Rep.toN d v p.1 q,Reps.toN ds r p.2 t⟩
end
def yg.append {K:W.Frag} {P:Addr->Prop} {H:Hp}:∀ {ds es:List D} {xs ys:List V},yg K H P ds xs->yg K H P es ys->yg K H P (ds ++ es) (xs ++ ys)
 | [],es,xs,ys,h,h'=>by cases h; exact h'
 | d :: ds,es,xs,ys,h,h'=>by
  obtain ⟨v,r,rfl,q,t⟩:=h
  exact ⟨v,r ++ ys,rfl,q,yg.append t h'⟩
def yg.length {K:W.Frag} {P:Addr->Prop} {H:Hp} {ds:List D} {xs:List V} (h:yg K H P ds xs):xs.length=ds.length:=by
 induction ds generalizing xs with
 | nil=>cases (show xs=[] from h); rfl
 | cons d ds ih =>
  obtain ⟨v,r,rfl,_,t⟩:=h
  simp [ih t]
section
variable {K:W.Frag} {H:Hp} {O:List Addr}
def Reps.length:∀ {ds:List D} {xs:List V},Reps K H O ds xs->xs.length=ds.length
 | [],_,h=>by cases h; rfl
 | d :: ds,xs,h=>by
  obtain ⟨v,r,e,_,t⟩:=h
  subst e
  simp [Reps.length t]
def Reps.get:∀ {ds:List D} {xs:List V} {i:Nat} {d:D},Reps K H O ds xs->ds[i]?=some d->∃ v,xs[i]?=some v /\ Rep K H O d v
 | [],_,_,_,_,e=>by simp at e
 | d :: ds,xs,0,d',h,e=>by
  obtain ⟨v,r,rfl,q,_⟩:=h
  simp at e
  subst e
  exact ⟨v,rfl,q⟩
 | d :: ds,xs,i + 1,d',h,e=>by
  obtain ⟨v,r,rfl,_,t⟩:=h
  obtain ⟨v',e',q'⟩:=Reps.get (i:=i) t (by simpa using e)
  exact ⟨v',by simpa using e',q'⟩
def Reps.at:∀ {ds:List D} {xs:List V} {i:Nat} {v:V},Reps K H O ds xs->xs[i]?=some v->∃ d,ds[i]?=some d /\ Rep K H O d v:=λ{ds xs i v} h e=>by
 have hl:=h.length
 have hi:=(List.getElem?_eq_some_iff.mp e).1
 have hd:ds[i]?=some (ds[i]'(by omega)):=by simp [show i < ds.length by omega]
 obtain ⟨v',e',q⟩:=h.get hd
 rw [e] at e'
 cases e'
 exact ⟨_,hd,q⟩
def Reps.append:∀ {ds es:List D} {xs ys:List V},Reps K H O ds xs->Reps K H O es ys->Reps K H O (ds ++ es) (xs ++ ys)
 | [],es,xs,ys,h,h'=>by cases h; exact h'
 | d :: ds,es,xs,ys,h,h'=>by
  obtain ⟨v,r,rfl,q,t⟩:=h
  exact ⟨v,r ++ ys,rfl,q,Reps.append t h'⟩
def Reps.one {d:D} {v:V} (h:Rep K H O d v):Reps K H O [d] [v]:=⟨v,[],rfl,h,rfl⟩
def Reps.take:∀ {ds:List D} {xs:List V} (n:Nat),Reps K H O ds xs->Reps K H O (ds.take n) (xs.take n)
 | _,_,0,_=>rfl
 | [],_,n + 1,h=>by cases h; rfl
 | d :: ds,xs,n + 1,h=>by
  obtain ⟨v,r,rfl,q,t⟩:=h
  exact ⟨v,r.take n,rfl,q,Reps.take n t⟩
def Reps.drop:∀ {ds:List D} {xs:List V} (n:Nat),Reps K H O ds xs->Reps K H O (ds.drop n) (xs.drop n)
 | _,_,0,h=>h
 | [],_,n + 1,h=>by cases h; rfl
 | d :: ds,xs,n + 1,h=>by
  obtain ⟨v,r,rfl,q,t⟩:=h
  exact Reps.drop n t
def Reps.set:∀ {ds:List D} {xs:List V} (n:Nat) {d:D} {v:V},Rep K H O d v->Reps K H O ds xs->Reps K H O (ds.set n d) (xs.set n v)
 | [],_,_,_,_,_,h=>by cases h; rfl
 | d :: ds,xs,0,d',v',q',h=>by
  obtain ⟨v,r,rfl,q,t⟩:=h
  exact ⟨v',r,rfl,q',t⟩
 | d :: ds,xs,n + 1,d',v',q',h=>by
  obtain ⟨v,r,rfl,q,t⟩:=h
  exact ⟨v,r.set n v',rfl,q,Reps.set n q' t⟩
def Reps.ints:∀ (ns:List Int),Reps K H O (ns.map D.int) (ns.map V.int)
 | []=>rfl
 | n :: ns=>⟨_,_,rfl,rfl,Reps.ints ns⟩
def Reps.rep {ds:List D} {xs:List V} (h:Reps K H O ds xs):∀ k:Nat,Reps K H O (List.replicate k ds).flatten (List.replicate k xs).flatten
 | 0=>rfl
 | k + 1=>by
  rw [List.replicate_succ,List.replicate_succ,List.flatten_cons,List.flatten_cons]
  exact h.append (Reps.rep h k)
end
def View (K:W.Frag) (H:Hp) (O:List Addr) (d:D) (v:V):Prop:=match d with
 | .lst ds=>∃ a xs,v=.ref a /\ H a=some (.lst xs) /\ Reps K H O ds xs
 | .dk ks ds=>∃ a xs,v=.ref a /\ H a=some (.dK (ks.zip xs)) /\ ks.length=ds.length /\ ks.Nodup /\ Reps K H O ds xs
 | .dt ks ds=>∃ a xs,v=.ref a /\ H a=some (.dT (ks.zip xs)) /\ ks.length=ds.length /\ ks.Nodup /\ Reps K H O ds xs
 | .fd m=>∃ a,v=.ref a /\ H a=some (wx a m)
 | d=>Rep K H O d v
def Con (K:W.Frag) (H:Hp) (O:List Addr) (d:D) (a:Addr):Prop:=match d with
 | .lst ds=>∃ xs,H a=some (.lst xs) /\ Reps K H O ds xs
 | .dk ks ds=>∃ xs,H a=some (.dK (ks.zip xs)) /\ ks.length=ds.length /\ ks.Nodup /\ Reps K H O ds xs
 | .dt ks ds=>∃ xs,H a=some (.dT (ks.zip xs)) /\ ks.length=ds.length /\ ks.Nodup /\ Reps K H O ds xs
 | .fd m=>H a=some (wx a m)
 | _=>False
def Rep.view {K:W.Frag} {H:Hp} {O:List Addr} {d:D} {v:V} (h:Rep K H O d v):View K H O d v:=by
 cases d with
 | lst ds=>obtain ⟨a,xs,e,q,_,r⟩:=h; exact ⟨a,xs,e,q,r⟩
 | dk ks ds=>obtain ⟨a,xs,e,q,_,r⟩:=h; exact ⟨a,xs,e,q,r⟩
 | dt ks ds=>obtain ⟨a,xs,e,q,_,r⟩:=h; exact ⟨a,xs,e,q,r⟩
 | fd m=>obtain ⟨a,e,q,_⟩:=h; exact ⟨a,e,q⟩
 | _=>exact h
def Con.view {K:W.Frag} {H:Hp} {O:List Addr} {d:D} {a:Addr} (h:Con K H O d a):View K H O d (.ref a):=by
 cases d with
 | lst ds=>obtain ⟨xs,q,r⟩:=h; exact ⟨a,xs,rfl,q,r⟩
 | dk ks ds=>obtain ⟨xs,q,r⟩:=h; exact ⟨a,xs,rfl,q,r⟩
 | dt ks ds=>obtain ⟨xs,q,r⟩:=h; exact ⟨a,xs,rfl,q,r⟩
 | fd m=>exact ⟨a,rfl,h⟩
 | _=>exact h.elim
def Con.rep {K:W.Frag} {H:Hp} {O:List Addr} {d:D} {a:Addr} (h:Con K H O d a) (n:a ∉ O):Rep K H O d (.ref a):=by
 cases d with
 | lst ds=>obtain ⟨xs,q,r⟩:=h; exact ⟨a,xs,rfl,q,n,r⟩
 | dk ks ds=>obtain ⟨xs,q,r⟩:=h; exact ⟨a,xs,rfl,q,n,r⟩
 | dt ks ds=>obtain ⟨xs,q,r⟩:=h; exact ⟨a,xs,rfl,q,n,r⟩
 | fd m=>exact ⟨a,rfl,h,n⟩
 | _=>exact h.elim
def Con.same {K:W.Frag} {H H':Hp} {O:List Addr} {d:D} {a:Addr} (h:Con K H O d a) (s:Same H H'):Con K H' O d a:=by
 cases d with
 | lst ds=>obtain ⟨xs,q,r⟩:=h; exact ⟨xs,s _ _ q,Reps.grow (Grow.same s) _ _ r⟩
 | dk ks ds=>obtain ⟨xs,q,l,n,r⟩:=h; exact ⟨xs,s _ _ q,l,n,Reps.grow (Grow.same s) _ _ r⟩
 | dt ks ds=>obtain ⟨xs,q,l,n,r⟩:=h; exact ⟨xs,s _ _ q,l,n,Reps.grow (Grow.same s) _ _ r⟩
 | fd m=>exact s _ _ h
 | _=>exact h.elim
def Con.sub {K:W.Frag} {H:Hp} {O O':List Addr} {d:D} {a:Addr} (h:Con K H O d a) (g:∀ a ∈ O',a ∈ O):Con K H O' d a:=by
 cases d with
 | lst ds=>obtain ⟨xs,q,r⟩:=h; exact ⟨xs,q,Reps.sub g _ _ r⟩
 | dk ks ds=>obtain ⟨xs,q,l,n,r⟩:=h; exact ⟨xs,q,l,n,Reps.sub g _ _ r⟩
 | dt ks ds=>obtain ⟨xs,q,l,n,r⟩:=h; exact ⟨xs,q,l,n,Reps.sub g _ _ r⟩
 | fd m=>exact h
 | _=>exact h.elim
def View.sub {K:W.Frag} {H:Hp} {O O':List Addr} {d:D} {v:V} (h:View K H O d v) (g:∀ a ∈ O',a ∈ O):View K H O' d v:=by
 cases d with
 | lst ds=>obtain ⟨a,xs,e,q,r⟩:=h; exact ⟨a,xs,e,q,Reps.sub g _ _ r⟩
 | dk ks ds=>obtain ⟨a,xs,e,q,l,n,r⟩:=h; exact ⟨a,xs,e,q,l,n,Reps.sub g _ _ r⟩
 | dt ks ds=>obtain ⟨a,xs,e,q,l,n,r⟩:=h; exact ⟨a,xs,e,q,l,n,Reps.sub g _ _ r⟩
 | fd m=>exact h
 | _=>exact Rep.sub g _ _ h
def View.rep0 {K:W.Frag} {H:Hp} {O:List Addr} {d:D} {v:V} (h:View K H O d v):Rep K H [] d v:=by
 have h:=h.sub (O':=[]) (λ_ z=>nomatch z)
 cases d with
 | lst ds=>obtain ⟨a,xs,e,q,r⟩:=h; exact ⟨a,xs,e,q,by simp,r⟩
 | dk ks ds=>obtain ⟨a,xs,e,q,l,n,r⟩:=h; exact ⟨a,xs,e,q,by simp,l,n,r⟩
 | dt ks ds=>obtain ⟨a,xs,e,q,l,n,r⟩:=h; exact ⟨a,xs,e,q,by simp,l,n,r⟩
 | fd m=>obtain ⟨a,e,q⟩:=h; exact ⟨a,e,q,by simp⟩
 | _=>exact h
inductive Kd where | val | own | fre | new
 deriving DecidableEq
structure EV where
 k:Kd
 d:D
abbrev DE:=List (Option EV)
abbrev dv (d:D):EV:=⟨.val,d⟩
abbrev df (d:D):EV:=⟨.fre,d⟩
abbrev dO (d:D):EV:=⟨.own,d⟩
def RV (K:W.Frag) (H0 H:Hp) (O:List Addr) (r:EV) (v:V):Prop:=match r.k with
 | .val=>Rep K H O r.d v
 | .own=>∃ a,v=.ref a /\ a ∈ O /\ Con K H O r.d a
 | .fre=>∃ a,v=.ref a /\ H0 a=none /\ a ∉ O /\ Con K H (a :: O) r.d a
 | .new=>RepN K H (λa=>a ∉ O /\ H0 a=none) r.d v
section
variable {K:W.Frag} {H0 H1 H H':Hp} {O:List Addr} {r:EV} {v:V}
def RV.val {d:D} (h:Rep K H O d v):RV K H0 H O (dv d) v:=h
def RV.same (h:RV K H0 H O r v) (s:Same H H'):RV K H0 H' O r v:=by
 obtain ⟨k,d⟩:=r
 cases k with
 | val=>exact Rep.grow (Grow.same s) _ _ h
 | own=>obtain ⟨a,e,m,c⟩:=h; exact ⟨a,e,m,c.same s⟩
 | fre=>obtain ⟨a,e,m,n,c⟩:=h; exact ⟨a,e,m,n,c.same s⟩
 | new=>exact RepN.to s (λ_ z=>z) _ _ h
def RV.start (h:RV K H0 H O r v) (s:Same H1 H0):RV K H1 H O r v:=by
 obtain ⟨k,d⟩:=r
 cases k with
 | val=>exact h
 | own=>exact h
 | fre=>obtain ⟨a,e,m,n,c⟩:=h; exact ⟨a,e,s.free m,n,c⟩
 | new=>exact RepN.to (Same.refl H) (λa z=>⟨z.1,s.free z.2⟩) _ _ h
def RV.view (h:RV K H0 H O r v):View K H O r.d v:=by
 obtain ⟨k,d⟩:=r
 cases k with
 | val=>exact Rep.view h
 | own=>obtain ⟨a,e,m,c⟩:=h; subst e; exact c.view
 | fre=>obtain ⟨a,e,m,n,c⟩:=h; subst e; exact (c.sub λb hb=>List.mem_cons_of_mem _ hb).view
 | new=>exact (RepN.rep (λa z=>z.1) _ _ h).view
def RV.solid (h:RV K H0 H O r v) (hk:r.k ≠ .own):Rep K H O r.d v:=by
 obtain ⟨k,d⟩:=r
 cases k with
 | val=>exact h
 | own=>exact absurd rfl hk
 | fre=>obtain ⟨a,e,m,n,c⟩:=h; subst e; exact (c.sub λb hb=>List.mem_cons_of_mem _ hb).rep n
 | new=>exact RepN.rep (λa z=>z.1) _ _ h
end
structure REnv (K:W.Frag) (H₀ H:Hp) (σ:St) (ρ:DE) (o:List (Nat × Addr)):Prop where
 same:Same H₀ H
 fresh:∀ p ∈ o,H₀ p.2=none
 trk:∀ p ∈ o,∃ u,H p.2=some u
 mtb:∀ p ∈ o,(∀ xs,H p.2 ≠ some (.tup xs)) /\ ∀ ob u,H p.2 ≠ some (.frz ob u)
 nda:(o.map Prod.snd).Nodup
 slots:∀ i r,ρ[i]?=some (some r)->∃ v,σ[i]?=some (some v) /\ ((r.k=.val /\ Rep K H (o.map Prod.snd) r.d v) \/ (r.k=.own /\ ∃ a,v=.ref a /\ (i,a) ∈ o /\ Con K H (o.map Prod.snd) r.d a))
 len:σ.length=ρ.length
section
variable {K:W.Frag} {H₀ H H':Hp} {σ:St} {ρ:DE} {o:List (Nat × Addr)}
def REnv.to (R:REnv K H₀ H σ ρ o) (s:Same H H'):REnv K H₀ H' σ ρ o where
 same:=R.same.trans s
 fresh:=R.fresh
 trk:=λp hp=>let ⟨u,e⟩:=R.trk p hp; ⟨u,s _ _ e⟩
 mtb:=λp hp=>by
  obtain ⟨u,e⟩:=R.trk p hp
  obtain ⟨m1,m2⟩:=R.mtb p hp
  refine ⟨λxs z=>?_,λob w z=>?_⟩
  ·rw [s _ _ e] at z; rw [<- e] at z; exact m1 xs z
  ·rw [s _ _ e] at z; rw [<- e] at z; exact m2 ob w z
 nda:=R.nda
 slots:=λi r e=>by
  obtain ⟨v,ev,h⟩:=R.slots i r e
  refine ⟨v,ev,?_⟩
  rcases h with ⟨k,h⟩ | ⟨k,a,e1,m,c⟩
  ·exact .inl ⟨k,Rep.grow (Grow.same s) _ _ h⟩
  ·exact .inr ⟨k,a,e1,m,c.same s⟩
 len:=R.len
def REnv.ofree (R:REnv K H₀ H σ ρ o) {a:Addr} (h:H a=none):a ∉ o.map Prod.snd:=λz=>by
 obtain ⟨p,hp,e⟩:=List.mem_map.mp z
 obtain ⟨u,q⟩:=R.trk p hp
 rw [e,h] at q
 cases q
end
abbrev TD:=DE->(EV->Prop)->Prop
abbrev TDb:=DE->(Bool->Prop)->Prop
abbrev TDs:=DE->(List EV->Prop)->Prop
structure DZ where
 nx:DE->Prop
 rt:EV->Prop
 bk:DE->Prop:=λ_=>False
 ct:DE->Prop:=λ_=>False
abbrev TDS:=DE->DZ->Prop
def RVs (K:W.Frag) (H0 H:Hp) (O:List Addr):List EV->List V->Prop
 | [],vs=>vs=[]
 | r :: rs,vs=>∃ v ws,vs=v :: ws /\ RV K H0 H O r v /\ RVs K H0 H O rs ws
def RVs.same {K:W.Frag} {H0 H H':Hp} {O:List Addr} (s:Same H H'):∀ {rs:List EV} {vs:List V},RVs K H0 H O rs vs->RVs K H0 H' O rs vs
 | [],_,h=>h
 | r :: rs,vs,h=>by
  obtain ⟨v,ws,e,q,t⟩:=h
  exact ⟨v,ws,e,q.same s,t.same s⟩
def RVs.start {K:W.Frag} {H0 H1 H:Hp} {O:List Addr} (s:Same H1 H0):∀ {rs:List EV} {vs:List V},RVs K H0 H O rs vs->RVs K H1 H O rs vs
 | [],_,h=>h
 | r :: rs,vs,h=>by
  obtain ⟨v,ws,e,q,t⟩:=h
  exact ⟨v,ws,e,q.start s,t.start s⟩
def RVs.reps {K:W.Frag} {H0 H:Hp} {O:List Addr}:∀ {rs:List EV} {vs:List V},RVs K H0 H O rs vs->(∀ r ∈ rs,r.k ≠ .own)->Reps K H O (rs.map EV.d) vs
 | [],_,h,_=>h
 | r :: rs,vs,h,n=>by
  obtain ⟨v,ws,e,q,t⟩:=h
  exact ⟨v,ws,e,q.solid (n r (List.mem_cons_self ..)),t.reps λr' h'=>n r' (List.mem_cons_of_mem _ h')⟩
def RVs.reps0 {K:W.Frag} {H0 H:Hp} {O:List Addr}:∀ {rs:List EV} {vs:List V},RVs K H0 H O rs vs->Reps K H [] (rs.map EV.d) vs
 | [],_,h=>h
 | r :: rs,vs,h=>by
  obtain ⟨v,ws,e,q,t⟩:=h
  exact ⟨v,ws,e,q.view.rep0,t.reps0⟩
def v7 (K:W.Frag) (H₀:Hp) (t:TD):TE:=λσ H Q=>∃ ρ o,REnv K H₀ H σ ρ o /\ ∃ φ,t ρ φ /\ ∀ v r H',Same H H'->RV K H H' (o.map Prod.snd) r v->φ r->Q v H'
def jm (K:W.Frag) (H₀:Hp) (t:TDb):TT:=λσ H Q=>∃ ρ o,REnv K H₀ H σ ρ o /\ ∃ φ,t ρ φ /\ ∀ b H',Same H H'->φ b->Q b H'
def Nt (K:W.Frag) (H₀:Hp) (t:TDs):TA:=λσ H Q=>∃ ρ o,REnv K H₀ H σ ρ o /\ ∃ φ,t ρ φ /\ ∀ vs rs H',Same H H'->RVs K H H' (o.map Prod.snd) rs vs->φ rs->Q vs H'
def Uq (K:W.Frag) (H₀:Hp) (t:TDS):TS:=λD σ H=>∃ ρ o,REnv K H₀ H σ ρ o /\ ∃ Z,t ρ Z /\
 (∀ ρ' σ' H' o',Grow (o.map Prod.snd) (o'.map Prod.snd) H H'->REnv K H₀ H' σ' ρ' o'->Z.nx ρ'->D.nx σ' H') /\
 (∀ ρ' σ' H' o',Grow (o.map Prod.snd) (o'.map Prod.snd) H H'->REnv K H₀ H' σ' ρ' o'->Z.bk ρ'->D.bk σ' H') /\
 (∀ ρ' σ' H' o',Grow (o.map Prod.snd) (o'.map Prod.snd) H H'->REnv K H₀ H' σ' ρ' o'->Z.ct ρ'->D.ct σ' H') /\
 (∀ v r H',Same H₀ H'->RV K H₀ H' [] r v->Z.rt r->D.rt v H')
def ED (G:Hp->Prop) (X:Cx) (e:Expr) (t:TD):Prop:=∀ H₀:{H:Hp // G H},PE X e (v7 X.K H₀.1 t)
def ET (G:Hp->Prop) (X:Cx) (e:Expr) (t:TDb):Prop:=∀ H₀:{H:Hp // G H},PT X e (jm X.K H₀.1 t)
def EW (G:Hp->Prop) (X:Cx) (e:Expr) (t:TDb):Prop:=∀ H₀:{H:Hp // G H},PW X e (jm X.K H₀.1 t)
def EA (G:Hp->Prop) (X:Cx) (es:List Expr) (t:TDs):Prop:=∀ H₀:{H:Hp // G H},PA X es (Nt X.K H₀.1 t)
def SD (G:Hp->Prop) (X:Cx) (st:Stmt) (t:TDS):Prop:=∀ H₀:{H:Hp // G H},PS X st (Uq X.K H₀.1 t)
def SDs (G:Hp->Prop) (X:Cx) (st:List Stmt) (t:TDS):Prop:=∀ H₀:{H:Hp // G H},PSs X st (Uq X.K H₀.1 t)
def impE {X:Cx} {e:Expr} {t t':TE} (h:PE X e t) (i:∀ σ H Q,t' σ H Q->t σ H Q):PE X e t':=λpn s σ H Q I q=>h pn s σ H Q I (i σ H Q q)
def impT {X:Cx} {e:Expr} {t t':TT} (h:PT X e t) (i:∀ σ H Q,t' σ H Q->t σ H Q):PT X e t':=λpn s σ H Q I q=>h pn s σ H Q I (i σ H Q q)
def impW {X:Cx} {e:Expr} {t t':TT} (h:PW X e t) (i:∀ σ H Q,t' σ H Q->t σ H Q):PW X e t':=λwh pn s σ H Q I q=>h wh pn s σ H Q I (i σ H Q q)
def impA {X:Cx} {es:List Expr} {t t':TA} (h:PA X es t) (i:∀ σ H Q,t' σ H Q->t σ H Q):PA X es t':=λpos pn s σ H Q I q=>h pos pn s σ H Q I (i σ H Q q)
def impS {X:Cx} {st:Stmt} {t t':TS} (h:PS X st t) (i:∀ D σ H,t' D σ H->t D σ H):PS X st t':=λpn s σ H D I q=>h pn s σ H D I (i D σ H q)
def Jn {X:Cx} {st:List Stmt} {t t':TS} (h:PSs X st t) (i:∀ D σ H,t' D σ H->t D σ H):PSs X st t':=λpn s σ H D I q=>h pn s σ H D I (i D σ H q)
end DL
namespace DL
open PySem PySem.Spec L2 L3
open PyProof.Rows hiding St
variable {Γ:Hp->Prop}
def slot:DE->Nat->Option EV
 | [],_=>none
 | x :: _,0=>x
 | _ :: r,i + 1=>slot r i
def yc:∀ {ρ:DE} {i:Nat} {r:EV},slot ρ i=some r->ρ[i]?=some (some r)
 | [],_,_,h=>by cases h
 | x :: _,0,_,h=>by cases h; rfl
 | _ :: l,i + 1,r,h=>by rw [List.getElem?_cons_succ]; exact yc (ρ:=l) h
def ww (i:Nat):TD:=λρ φ=>match slot ρ i with
 | some r=>φ r
 | none=>False
def dC (d:D):TD:=λ_ φ=>φ (dv d)
section
variable {X:Cx} {a b c e:Expr} {ta tb tc te:TD} {pos:Pos}
def z9 (i:Nat) {x:Str} (hN:X.N[i]?=some x:=by rfl) (hv:Vis X.env.scope x:=by first | exact Or.inl rfl | exact Or.inr (Or.inl rfl) | exact Or.inr (Or.inr rfl)) (hd:(x == ("__debug__" : Str))=false:=by decide)
  (hcd:(x == ("__classdict__" : Str))=false:=by decide):ED Γ X (.Name x pos) (ww i):=λH₀=>impE (wf hN hv hd hcd) λσ H Q h=>by
 obtain ⟨ρ,o,R,φ,hφ,k⟩:=h
 cases e:slot ρ i with
 | none =>
  simp only [ww,e] at hφ
 | some r =>
  simp only [ww,e] at hφ
  obtain ⟨v,ev,h⟩:=R.slots i r (yc e)
  refine ⟨v,ev,k v r H (Same.refl H) ?_ hφ⟩
  obtain ⟨kd,d⟩:=r
  rcases h with ⟨rfl,h⟩ | ⟨rfl,a,e1,m,c⟩
  ·exact h
  ·exact ⟨a,e1,List.mem_map.mpr ⟨_,m,rfl⟩,c⟩
def ed_c {x:Expr} {v:V} {d:D} (h:PE X x (tC v)) (hr:∀ H O,Rep X.K H O d v):ED Γ X x (dC d):=λH₀=>impE h λσ H Q h=>by
 obtain ⟨ρ,o,R,φ,hφ,k⟩:=h
 exact k v (dv d) H (Same.refl H) (hr H _) hφ
def zc {i:Int} {j pos}:ED Γ X (.Constant (.int i) j pos) (dC (.int i)):=ed_c Kj λ_ _=>rfl
def Qu {b:Bool} {j pos}:ED Γ X (.Constant (.bool b) j pos) (dC (.bl b)):=ed_c G9 λ_ _=>rfl
def u6 {j pos}:ED Γ X (.Constant .none j pos) (dC .non):=ed_c Kh λ_ _=>rfl
def yk {x:Str} {j pos}:ED Γ X (.Constant (.str x) j pos) (dC (.str x)):=ed_c Kc λ_ _=>rfl
structure GC (K:W.Frag) (mg:Str->Option Value) (x:Str) (d:D):Prop where
 ex:∃ u v,mg x=some u /\ RelV v u /\ ∀ H O,Rep K H O d v
def vd {x:Str} {d:D} (G:GC X.K X.mg x d) (hg:Gl X x:=by rfl) (hd:(x == ("__debug__" : Str))=false:=by decide):ED Γ X (.Name x pos) (dC d):=by
 obtain ⟨u,v,hm,r,h⟩:=G.ex
 exact ed_c (N8 hg hm r hd) h
def Jy {x:Str} {n:String} (hm:X.mg x=none) (hv:bootBuiltins x=some (.type n)) (hg:Gl X x:=by rfl) (hn:x ≠ "__name__":=by decide) (hd:(x == ("__debug__" : Str))=false:=by decide):ED Γ X (.Name x pos) (dC (.ty n)) :=
 ed_c (Nd hg hm hv (v:=.ty n) rfl hn hd) λ_ _=>rfl
def uk (K:W.Frag) (rr:R2) (s:D->D->(EV->Prop)->Prop):Prop :=
 ∀ (H:Hp) (O:List Addr) (x y:D) (vx vy:V) (φ:EV->Prop) (Q:VK),(∀ a,H a=none->a ∉ O)->View K H O x vx->View K H O y vy->s x y φ ->
  (∀ v r H',Same H H'->RV K H H' O r v->φ r->Q v H')->rr vx vy H Q
def d2 (s:D->D->(EV->Prop)->Prop) (ta tb:TD):TD:=λρ φ=>ta ρ λx=>tb ρ λy=>s x.d y.d φ
def Q6 {rr:R2} {s:D->D->(EV->Prop)->Prop} {H₀:Hp} (hl:uk X.K rr s):∀ σ H Q,v7 X.K H₀ (d2 s ta tb) σ H Q->tOp rr (v7 X.K H₀ ta) (v7 X.K H₀ tb) σ H Q:=λσ H Q h=>by
 obtain ⟨ρ,o,R,φ,hφ,k⟩:=h
 refine ⟨ρ,o,R,_,hφ,λv1 r1 H1 s1 rv1 h1=>⟨ρ,o,R.to s1,_,h1,λv2 r2 H2 s2 rv2 h2=>?_⟩⟩
 exact hl H2 _ r1.d r2.d v1 v2 φ Q (λa e=>R.ofree ((s1.trans s2).free e)) (rv1.same s2).view rv2.view h2 λv r H' s3 rv h=>k v r H' (s1.trans (s2.trans s3)) (rv.start (s1.trans s2)) h
def j4 {op:Operator} {rr:R2} {s:D->D->(EV->Prop)->Prop} (ho:OpR X (binaryOp op) rr) (hl:uk X.K rr s) (ha:ED Γ X a ta) (hb:ED Γ X b tb):ED Γ X (.BinOp a op b pos) (d2 s ta tb):=λH₀ =>
 impE (Ke ho (ha H₀) (hb H₀)) (Q6 hl)
def X0 {op:CmpOp} {rr:R2} {s:D->D->(EV->Prop)->Prop} (ho:OpR X (compareOp op) rr) (hl:uk X.K rr s) (ha:ED Γ X a ta) (hb:ED Γ X b tb) (hm:behindInMarks op b=false):ED Γ X (.Compare a [op] [b] pos) (d2 s ta tb):=λH₀ =>
 impE (Nc ho (ha H₀) (hb H₀) hm) (Q6 hl)
def Nh:OpR X (binaryOp .Mult) (rI IntMulOk λi j=>.int (i * j)):=opI λ_ _ _ _ _ _ _ hc q=>PyProof.Rows.mul_int q hc
def FdOk (i j:Int):Prop:=j ≠ 0 /\ j.natAbs.log2 < 9000
def Rt:OpR X (binaryOp .FloorDiv) (rI FdOk λi j=>.int (i.fdiv j)):=opI λ_ _ _ _ _ _ _ hc q=>floordiv_int hc.1 q (.inl (PyProof.noPylong_of_log2 hc.2))
def sI (C:Int->Int->Prop) (g:Int->Int->D):D->D->(EV->Prop)->Prop:=λx y φ=>match x,y with
 | .int i,.int j=>C i j /\ φ (dv (g i j))
 | _,_=>False
def Um {K:W.Frag} {C:Int->Int->Prop} {g:Int->Int->D} {gv:Int->Int->V} (hg:∀ i j H O,Rep K H O (g i j) (gv i j)):uk K (rI C gv) (sI C g):=by
 intro H O x y vx vy φ Q ho hx hy h k
 unfold sI at h
 split at h
 ·exact ⟨_,_,hx,hy,h.1,k _ _ H (Same.refl H) (by exact hg _ _ H O) h.2⟩
 ·exact h.elim
def sI0 (g:Int->Int->D):D->D->(EV->Prop)->Prop:=λx y φ=>match x,y with
 | .int i,.int j=>φ (dv (g i j))
 | _,_=>False
def Z5 {K:W.Frag} {g:Int->Int->D} {gv:Int->Int->V} (hg:∀ i j H O,Rep K H O (g i j) (gv i j)):uk K (rI0 gv) (sI0 g):=by
 intro H O x y vx vy φ Q ho hx hy h k
 unfold sI0 at h
 split at h
 ·exact ⟨_,_,hx,hy,k _ _ H (Same.refl H) (by exact hg _ _ H O) h⟩
 ·exact h.elim
abbrev sSub:=sI0 λi j=>.int (i - j)
abbrev sFd:=sI FdOk λi j=>.int (i.fdiv j)
abbrev sMod:=sI (λ_ j=>j ≠ 0) λi j=>.int (i.fmod j)
abbrev sPow:=sI CPow λi j=>.int (i ^ j.toNat)
abbrev sLt:=sI0 λi j=>.bl (decide (i < j))
abbrev sGe:=sI0 λi j=>.bl (decide (j <= i))
def Ti (ha:ED Γ X a ta) (hb:ED Γ X b tb):ED Γ X (.BinOp a .Sub b pos) (d2 sSub ta tb):=j4 Ko (Z5 λ_ _ _ _=>rfl) ha hb
def xq (ha:ED Γ X a ta) (hb:ED Γ X b tb):ED Γ X (.BinOp a .FloorDiv b pos) (d2 sFd ta tb):=j4 Rt (Um λ_ _ _ _=>rfl) ha hb
def zr (ha:ED Γ X a ta) (hb:ED Γ X b tb):ED Γ X (.BinOp a .Mod b pos) (d2 sMod ta tb):=j4 Ni (Um λ_ _ _ _=>rfl) ha hb
def j3 (ha:ED Γ X a ta) (hb:ED Γ X b tb):ED Γ X (.BinOp a .Pow b pos) (d2 sPow ta tb):=j4 Kq (Um λ_ _ _ _=>rfl) ha hb
def Ha (ha:ED Γ X a ta) (hb:ED Γ X b tb):ED Γ X (.Compare a [.GtE] [b] pos) (d2 sGe ta tb):=X0 Gb (Z5 λ_ _ _ _=>rfl) ha hb (ra _)
def sAdd:D->D->(EV->Prop)->Prop:=λx y φ=>match x,y with
 | .int i,.int j=>φ (dv (.int (i + j)))
 | .str p,.str q=>p.length + q.length <= sizeLine /\ φ (dv (.str (p ++ q)))
 | .lst p,.lst q=>p.length + q.length <= sizeLine /\ φ (df (.lst (p ++ q)))
 | .tup p,.tup q=>p ≠ [] /\ q ≠ [] /\ p.length + q.length <= sizeLine /\ φ (dv (.tup (p ++ q)))
 | _,_=>False
def zo {H:Hp} {p:Addr} (h:H p=none) (o:HO):Same H (upd H p o):=λb u q=>by rw [zi (zf q h)]; exact q
def R8 {K:W.Frag} {H:Hp} {O:List Addr} {p:Addr} {o:HO} {ds:List D} {xs:List V} (hp:H p=none) (r:Reps K H O ds xs):Reps K (upd H p o) O ds xs:=Reps.grow (Grow.same (zo hp o)) _ _ r
def jx {H:Hp} {O:List Addr} {p:Addr} {o:HO} (hp:H p=none):Grow O (p :: O) H (upd H p o) :=
 ⟨λb u h n=>⟨zo hp o b u h,λz=>(List.mem_cons.mp z).elim (λe=>zf h hp e) n⟩,λb xs h=>zo hp o b _ h,λb ob u h=>zo hp o b _ h⟩
def fg {K:W.Frag} {H:Hp} {O:List Addr} {p:Addr} {ds:List D} {xs:List V} (ho:∀ a,H a=none->a ∉ O) (hp:H p=none) (r:Reps K H O ds xs):RV K H (upd H p (.lst xs)) O (df (.lst ds)) (.ref p) :=
 ⟨p,rfl,hp,ho p hp,xs,zg,Reps.grow (jx hp) _ _ r⟩
def fc {K:W.Frag} {H:Hp} {O:List Addr} {p:Addr} {ds:List D} {xs:List V} (hp:H p=none) (r:Reps K H O ds xs):RV K H (upd H p (.tup xs)) O (dv (.tup ds)) (.ref p) :=
 ⟨p,xs,rfl,⟨SqT.of zg,zg⟩,R8 hp r⟩
def Q5:uk X.K (λx y H Q=>rI0 (λi j=>.int (i + j)) x y H Q \/ (∃ i j,x=.str i /\ y=.str j /\ i.length + j.length <= sizeLine /\ Q (.str (i ++ j)) H) \/ rCat x y H Q \/ K2 X.K x y H Q) sAdd:=by
 intro H O x y vx vy φ Q ho hx hy h k
 unfold sAdd at h
 split at h
 ·exact .inl ⟨_,_,hx,hy,k _ _ H (Same.refl H) (by exact rfl) h⟩
 ·exact .inr (.inl ⟨_,_,hx,hy,h.1,k _ _ H (Same.refl H) (by exact rfl) h.2⟩)
 ·obtain ⟨a1,xs,rfl,q1,r1⟩:=hx
  obtain ⟨a2,ys,rfl,q2,r2⟩:=hy
  refine .inr (.inr (.inl ⟨a1,a2,xs,ys,rfl,rfl,q1,q2,by rw [r1.length,r2.length]; exact h.1,λp hp=>?_⟩))
  exact k _ _ _ (zo hp _) (fg ho hp (r1.append r2)) h.2
 ·obtain ⟨n1,n2,hz,hp⟩:=h
  obtain ⟨a1,xs,rfl,q1,r1⟩:=hx
  obtain ⟨a2,ys,rfl,q2,r2⟩:=hy
  refine .inr (.inr (.inr ⟨a1,a2,xs,ys,rfl,rfl,q1.1,q2.1,?_,by rw [r1.length,r2.length]; exact hz,λz=>?_,λ_ p hpn=>?_⟩))
  ·intro z
   have e:=r1.length
   rw [z] at e
   exact n1 (List.eq_nil_of_length_eq_zero e.symm)
  ·exfalso
   have e:=r2.length
   rw [z] at e
   exact n2 (List.eq_nil_of_length_eq_zero e.symm)
  ·exact k _ _ _ (zo hpn _) (fc hpn (r1.append r2)) hp
 ·exact h.elim
def yp (ha:ED Γ X a ta) (hb:ED Γ X b tb):ED Γ X (.BinOp a .Add b pos) (d2 sAdd ta tb):=j4 (Kv.or (Xw.or (Ku.or U5))) Q5 ha hb
def sMul:D->D->(EV->Prop)->Prop:=λx y φ=>match x,y with
 | .int i,.int j=>IntMulOk i j /\ φ (dv (.int (i * j)))
 | .lst p,.int k=>-(2 ^ 63) <= k /\ k < 2 ^ 63 /\ p.length * k.toNat <= sizeLine /\ φ (df (.lst (List.replicate k.toNat p).flatten))
 | _,_=>False
end
mutual
def eqD:D->D->Bool
 | .non,.non=>true
 | .bl a,.bl b=>a == b
 | .bl a,.int b=>(if a then 1 else 0) == b
 | .int a,.bl b=>a == (if b then 1 else 0)
 | .int a,.int b=>a == b
 | .str a,.str b=>a == b
 | .tup a,.tup b=>eqDs a b
 | .lst a,.lst b=>eqDs a b
 | _,_=>false
def eqDs:List D->List D->Bool
 | [],[]=>true
 | a :: as,b :: bs=>eqD a b && eqDs as bs
 | _,_=>false
end
def okD:Nat->D->Prop
 | 0,d=>match d with
  | .non=>True
  | .bl _=>True
  | .int _=>True
  | .str _=>True
  | _=>False
 | n + 1,d=>match d with
  | .non=>True
  | .bl _=>True
  | .int _=>True
  | .str _=>True
  | .tup ds=>∀ x ∈ ds,okD n x
  | .lst ds=>∀ x ∈ ds,okD n x
  | _=>False
def u5:∀ {ds es:List D},eqDs ds es=true ↔ ds.length=es.length /\ ∀ (j:Nat) (x y:D),ds[j]?=some x->es[j]?=some y->eqD x y=true
 | [],[]=>by simp [eqDs]
 | [],y :: es=>by simp [eqDs]
 | x :: ds,[]=>by simp [eqDs]
 | x :: ds,y :: es=>by
  rw [eqDs,Bool.and_eq_true,u5]
  constructor
  ·rintro ⟨h,hl,q⟩
   refine ⟨by simp [hl],λj a b ha hb=>?_⟩
   cases j with
   | zero=>simp at ha hb; subst ha hb; exact h
   | succ j=>exact q j a b (by simpa using ha) (by simpa using hb)
  ·rintro ⟨hl,q⟩
   exact ⟨q 0 x y rfl rfl,by simpa using hl,λj a b ha hb=>q (j + 1) a b (by simpa using ha) (by simpa using hb)⟩
def uj (ds es:List D):eqDs ds es=((List.range (min ds.length es.length)).all (λj=>eqD (ds.getD j .non) (es.getD j .non)) && ds.length == es.length):=by
 rw [Bool.eq_iff_iff,u5,Bool.and_eq_true,List.all_eq_true]
 constructor
 ·rintro ⟨hl,q⟩
  refine ⟨λj hj=>?_,by simp [hl]⟩
  have hj':=List.mem_range.mp hj
  have h1:j < ds.length:=by omega
  have h2:j < es.length:=by omega
  have e1:ds[j]?=some ds[j]:=by simp [h1]
  have e2:es[j]?=some es[j]:=by simp [h2]
  have:=q j _ _ e1 e2
  simpa [List.getD,e1,e2] using this
 ·rintro ⟨q,hl⟩
  have hl':ds.length=es.length:=by simpa using hl
  refine ⟨hl',λj x y hx hy=>?_⟩
  have h1:=(List.getElem?_eq_some_iff.mp hx).1
  have:=q j (List.mem_range.mpr (by omega))
  simpa [List.getD,hx,hy] using this
def Yx:∀ (n:Nat) (d:D),okD n d->eqD d d=true:=by
 intro n
 induction n with
 | zero=>intro d h; cases d <;> first | exact h.elim | simp [eqD]
 | succ n ih =>
  intro d h
  cases d with
  | tup ds =>
   show eqDs ds ds=true
   refine u5.mpr ⟨rfl,λj x y hx hy=>?_⟩
   rw [hx] at hy
   cases hy
   exact ih x (h x (List.mem_of_getElem? hx))
  | lst ds =>
   show eqDs ds ds=true
   refine u5.mpr ⟨rfl,λj x y hx hy=>?_⟩
   rw [hx] at hy
   cases hy
   exact ih x (h x (List.mem_of_getElem? hx))
  | dk _ _=>exact h.elim
  | dt _ _=>exact h.elim
  | ty _=>exact h.elim
  | cn _=>exact h.elim
  | scr _=>exact h.elim
  | dz _=>exact h.elim
  | exc _=>exact h.elim
  | fd _=>exact h.elim
  | ob _ _ _=>exact h.elim
  | _=>simp [eqD]
section
variable {X:Cx} {pn:List (Addr × Obj)} {σ:St} {H:Hp} {s:Shared}
def Rep.inj (I:Inv X pn σ H s):∀ (n:Nat) (d e:D) (v:V),okD n d->okD n e->Rep X.K H [] d v->Rep X.K H [] e v->d=e:=by
 intro n
 induction n with
 | zero =>
  intro d e v hd he h1 h2
  cases d <;> first | exact hd.elim | (cases e <;> first | exact he.elim | (have z:=(show v=_ from h1).symm.trans (show v=_ from h2); first | rfl | (injection z with z; rw [z]) | cases z))
 | succ n ih =>
  have lists:∀ (ds es:List D) (xs:List V),(∀ x ∈ ds,okD n x)->(∀ x ∈ es,okD n x)->Reps X.K H [] ds xs->Reps X.K H [] es xs->ds=es:=by
   intro ds
   induction ds with
   | nil =>
    intro es xs _ _ r1 r2
    have:=r1.length
    have h2:=r2.length
    rw [this] at h2
    exact (List.eq_nil_of_length_eq_zero h2.symm).symm
   | cons d ds ih2 =>
    intro es xs h1 h2 r1 r2
    obtain ⟨v,r,rfl,q,t⟩:=r1
    cases es with
    | nil=>cases r2
    | cons e es =>
     obtain ⟨v',r',e1,q',t'⟩:=r2
     cases e1
     rw [ih d e v (h1 d (List.mem_cons_self ..)) (h2 e (List.mem_cons_self ..)) q q',ih2 es r (λx hx=>h1 x (List.mem_cons_of_mem _ hx)) (λx hx=>h2 x (List.mem_cons_of_mem _ hx)) t t']
  intro d e v hd he h1 h2
  have noTL:∀ (a:Addr) (xs ys:List V),SqT X.K H a xs->H a=some (.lst ys)->False:=λa xs ys q1 q2=>by
   obtain ⟨its,_,p1,_⟩:=I.tuple q1
   obtain ⟨its2,_,p2,_⟩:=I.list (SqL.of q2)
   exact SeqAt.ne_of_list_tuple p2.isList (show s.heap.IsTuple a its.toArray from p1) rfl
  cases d with
  | tup ds =>
   obtain ⟨a,xs,rfl,q1,r1⟩:=h1
   cases e with
   | tup es =>
    obtain ⟨a',ys,e1,q2,r2⟩:=h2
    cases e1
    have:=I.tuple_inj q1.1 q2.1
    subst this
    rw [lists ds es xs hd he r1 r2]
   | lst es =>
    obtain ⟨a',ys,e1,q2,_,r2⟩:=h2
    cases e1
    exact (noTL _ _ _ q1.1 q2).elim
   | dk _ _=>exact he.elim
   | dt _ _=>exact he.elim
   | scr _=>exact he.elim
   | dz _=>exact he.elim
   | exc _=>exact he.elim
   | fd _=>exact he.elim
   | ob _ _ _=>exact he.elim
   | ty _=>exact he.elim
   | cn _=>exact he.elim
   | _=>cases (show V.ref a=_ from h2)
  | lst ds =>
   obtain ⟨a,xs,rfl,q1,_,r1⟩:=h1
   cases e with
   | tup es =>
    obtain ⟨a',ys,e1,q2,r2⟩:=h2
    cases e1
    exact (noTL _ _ _ q2.1 q1).elim
   | lst es =>
    obtain ⟨a',ys,e1,q2,_,r2⟩:=h2
    cases e1
    have:=I.list_inj (SqL.of q1) (SqL.of q2)
    subst this
    rw [lists ds es xs hd he r1 r2]
   | dk _ _=>exact he.elim
   | dt _ _=>exact he.elim
   | scr _=>exact he.elim
   | dz _=>exact he.elim
   | exc _=>exact he.elim
   | fd _=>exact he.elim
   | ob _ _ _=>exact he.elim
   | ty _=>exact he.elim
   | cn _=>exact he.elim
   | _=>cases (show V.ref a=_ from h2)
  | dk _ _=>exact hd.elim
  | dt _ _=>exact hd.elim
  | scr _=>exact hd.elim
  | dz _=>exact hd.elim
  | exc _=>exact hd.elim
  | fd _=>exact hd.elim
  | ob _ _ _=>exact hd.elim
  | ty _=>exact hd.elim
  | cn _=>exact hd.elim
  | non =>
   cases e with
   | tup es=>obtain ⟨a',ys,e1,_⟩:=h2; cases (show v=_ from h1); cases e1
   | lst es=>obtain ⟨a',ys,e1,_⟩:=h2; cases (show v=_ from h1); cases e1
   | dk _ _=>exact he.elim
   | dt _ _=>exact he.elim
   | scr _=>exact he.elim
   | dz _=>exact he.elim
   | exc _=>exact he.elim
   | fd _=>exact he.elim
   | ob _ _ _=>exact he.elim
   | ty _=>exact he.elim
   | cn _=>exact he.elim
   | non=>rfl
   | _=>cases (show v=_ from h1); cases (show V.non=_ from h2)
  | bl b =>
   cases e with
   | tup es=>obtain ⟨a',ys,e1,_⟩:=h2; cases (show v=_ from h1); cases e1
   | lst es=>obtain ⟨a',ys,e1,_⟩:=h2; cases (show v=_ from h1); cases e1
   | dk _ _=>exact he.elim
   | dt _ _=>exact he.elim
   | scr _=>exact he.elim
   | dz _=>exact he.elim
   | exc _=>exact he.elim
   | fd _=>exact he.elim
   | ob _ _ _=>exact he.elim
   | ty _=>exact he.elim
   | cn _=>exact he.elim
   | _=>cases (show v=_ from h1); cases (show V.bl b=_ from h2) <;> rfl
  | int b =>
   cases e with
   | tup es=>obtain ⟨a',ys,e1,_⟩:=h2; cases (show v=_ from h1); cases e1
   | lst es=>obtain ⟨a',ys,e1,_⟩:=h2; cases (show v=_ from h1); cases e1
   | dk _ _=>exact he.elim
   | dt _ _=>exact he.elim
   | scr _=>exact he.elim
   | dz _=>exact he.elim
   | exc _=>exact he.elim
   | fd _=>exact he.elim
   | ob _ _ _=>exact he.elim
   | ty _=>exact he.elim
   | cn _=>exact he.elim
   | _=>cases (show v=_ from h1); cases (show V.int b=_ from h2) <;> rfl
  | str b =>
   cases e with
   | tup es=>obtain ⟨a',ys,e1,_⟩:=h2; cases (show v=_ from h1); cases e1
   | lst es=>obtain ⟨a',ys,e1,_⟩:=h2; cases (show v=_ from h1); cases e1
   | dk _ _=>exact he.elim
   | dt _ _=>exact he.elim
   | scr _=>exact he.elim
   | dz _=>exact he.elim
   | exc _=>exact he.elim
   | fd _=>exact he.elim
   | ob _ _ _=>exact he.elim
   | ty _=>exact he.elim
   | cn _=>exact he.elim
   | _=>cases (show v=_ from h1); cases (show V.str b=_ from h2) <;> rfl
inductive Sh (K:W.Frag) (H:Hp) (s:Shared):D->Value->Prop where
 | non:Sh K H s .non .none
 | bl (b:Bool):Sh K H s (.bl b) (.bool b)
 | int (i:Int) (t:Tok):Sh K H s (.int i) (.int i t)
 | str (x:Str) (t:Tok):Sh K H s (.str x) (.str x t)
 | tup {a:Addr} {ds:List D} {xs:List V} {its:List Value} (p:s.heap.IsTuple a its.toArray) (r:Vals xs its) (q:Reps K H [] ds xs):Sh K H s (.tup ds) (.ref a)
 | lst {a:Addr} {ds:List D} {xs:List V} {its:List Value} (p:s.heap.IsList a its.toArray) (r:Vals xs its) (q:Reps K H [] ds xs):Sh K H s (.lst ds) (.ref a)
def uy (I:Inv X pn σ H s) {n:Nat} {d:D} {x:V} {u:Value} (hd:okD n d) (h:Rep X.K H [] d x) (r:RelV x u):Sh X.K H s d u:=by
 cases d with
 | non=>cases (show x=_ from h); cases r; exact .non
 | bl b=>cases (show x=_ from h); cases r; exact .bl b
 | int b=>cases (show x=_ from h); obtain ⟨t,rfl⟩:=r; exact .int b t
 | str b=>cases (show x=_ from h); obtain ⟨t,rfl⟩:=r; exact .str b t
 | ty _=>cases n <;> exact hd.elim
 | cn _=>cases n <;> exact hd.elim
 | dk _ _=>cases n <;> exact hd.elim
 | dt _ _=>cases n <;> exact hd.elim
 | scr _=>cases n <;> exact hd.elim
 | dz _=>cases n <;> exact hd.elim
 | exc _=>cases n <;> exact hd.elim
 | fd _=>cases n <;> exact hd.elim
 | ob _ _ _=>cases n <;> exact hd.elim
 | tup ds =>
  obtain ⟨a,xs,rfl,q,t⟩:=h
  cases r
  obtain ⟨its,rv,p,_⟩:=I.tuple q.1
  exact .tup (show s.heap.IsTuple a its.toArray from p) rv t
 | lst ds =>
  obtain ⟨a,xs,rfl,q,_,t⟩:=h
  cases r
  obtain ⟨its,rv,p,_⟩:=I.list (SqL.of q)
  exact .lst p.isList rv t
def qc (I:Inv X pn σ H s):∀ (n:Nat) (d e:D) (x y:V) (u v:Value) (A:Around),okD n d->okD n e->Rep X.K H [] d x->Rep X.K H [] e y->RelV x u->RelV y v->A.units + n < cLine ->
  SeqAt.RcAt A s u v (eqD d e) /\ SeqAt.RcNeAt A s u v (!eqD d e) /\ SeqAt.EqAt A s u v (eqD d e):=by
 intro n
 induction n with
 | zero =>
  intro d e x y u v A hd he h1 h2 r1 r2 hu
  have hu':A.units < cLine:=by omega
  cases uy I hd h1 r1 with
  | tup=>exact hd.elim
  | lst=>exact hd.elim
  | non =>
   cases uy I he h2 r2 with
   | non=>exact ⟨SeqAt.RcAt.none_none,SeqAt.RcNeAt.none_none,SeqAt.EqAt.same _⟩
   | bl b=>exact ⟨SeqAt.RcAt.none_bool b,SeqAt.RcNeAt.none_bool b,SeqAt.EqAt.none_bool b⟩
   | int i t=>exact ⟨SeqAt.RcAt.none_int i t,SeqAt.RcNeAt.none_int i t,SeqAt.EqAt.none_int i t⟩
   | str i t=>exact ⟨SeqAt.RcAt.none_str i t,SeqAt.RcNeAt.none_str i t,SeqAt.EqAt.none_str i t⟩
   | tup=>exact he.elim
   | lst=>exact he.elim
  | bl a =>
   cases uy I he h2 r2 with
   | non=>exact ⟨SeqAt.RcAt.bool_none a,SeqAt.RcNeAt.bool_none a,SeqAt.EqAt.bool_none a⟩
   | bl b=>exact ⟨SeqAt.RcAt.bool_bool a b,SeqAt.RcNeAt.bool_bool a b,SeqAt.EqAt.bool_bool a b⟩
   | int i t=>exact ⟨SeqAt.RcAt.bool_int a i t,SeqAt.RcNeAt.bool_int a i t,SeqAt.EqAt.bool_int a i t⟩
   | str i t=>exact ⟨SeqAt.RcAt.bool_str a i t,SeqAt.RcNeAt.bool_str a i t,SeqAt.EqAt.bool_str a i t⟩
   | tup=>exact he.elim
   | lst=>exact he.elim
  | int a t =>
   cases uy I he h2 r2 with
   | non=>exact ⟨SeqAt.RcAt.int_none a t,SeqAt.RcNeAt.int_none a t,SeqAt.EqAt.int_none a t⟩
   | bl b=>exact ⟨SeqAt.RcAt.int_bool a t b,SeqAt.RcNeAt.int_bool a t b,SeqAt.EqAt.int_bool a t b⟩
   | int i t'=>exact ⟨SeqAt.RcAt.int_int a t i t',SeqAt.RcNeAt.int_int a t i t',SeqAt.EqAt.int_int a t i t'⟩
   | str i t'=>exact ⟨SeqAt.RcAt.int_str a t i t',SeqAt.RcNeAt.int_str a t i t',SeqAt.EqAt.int_str a t i t'⟩
   | tup=>exact he.elim
   | lst=>exact he.elim
  | str a t =>
   cases uy I he h2 r2 with
   | non=>exact ⟨SeqAt.RcAt.str_none a t,SeqAt.RcNeAt.str_none a t,SeqAt.EqAt.str_none a t⟩
   | bl b=>exact ⟨SeqAt.RcAt.str_bool a t b,SeqAt.RcNeAt.str_bool a t b,SeqAt.EqAt.str_bool a t b⟩
   | int i t'=>exact ⟨SeqAt.RcAt.str_int a t i t',SeqAt.RcNeAt.str_int a t i t',SeqAt.EqAt.str_int a t i t'⟩
   | str i t'=>exact ⟨SeqAt.RcAt.str_str a t i t',SeqAt.RcNeAt.str_str a t i t',SeqAt.EqAt.str_str a t i t'⟩
   | tup=>exact he.elim
   | lst=>exact he.elim
 | succ n ih =>
  intro d e x y u v A hd he h1 h2 r1 r2 hu
  have hu':A.units < cLine:=by omega
  have hin:A.in1.units + n < cLine:=by
   have:A.in1.units=A.units + 1:=rfl
   omega
  have refs:∀ {l b:Addr} {k:Bool},u=.ref l->v=.ref b->k=eqD d e->SeqAt.RcAt A s (.ref l) (.ref b) k->SeqAt.EqAt A s (.ref l) (.ref b) k:=λ{l b k} e1 e2 ek h=>by
   by_cases hlb:l=b
   ·subst hlb
    have hv:x=y:=by
     have z1:x=.ref l:=by
      cases x <;> subst e1 <;> first | (have:=(show Value.ref l=Value.ref _ from r1); cases this; rfl) | (obtain ⟨t,z⟩:=r1; cases z) | cases r1
     have z2:y=.ref l:=by
      cases y <;> subst e2 <;> first | (have:=(show Value.ref l=Value.ref _ from r2); cases this; rfl) | (obtain ⟨t,z⟩:=r2; cases z) | cases r2
     rw [z1,z2]
    subst hv
    have hde:=Rep.inj I (n + 1) d e x hd he h1 h2
    subst hde
    rw [ek,Yx (n + 1) d hd]
    exact SeqAt.EqAt.same _
   ·exact SeqAt.EqAt.of_refs hlb h
  have items:∀ {ds es:List D} {xs ys:List V} {its its2:List Value},(∀ z ∈ ds,okD n z)->(∀ z ∈ es,okD n z)->Reps X.K H [] ds xs->Reps X.K H [] es ys->Vals xs its->Vals ys its2 ->
    ∀ j (h1:j < its.toArray.size) (h2:j < its2.toArray.size),SeqAt.EqAt A.in1 s its.toArray[j] its2.toArray[j] (eqD (ds.getD j .non) (es.getD j .non)):=λ{ds es xs ys its its2} o1 o2 q1 q2 w1 w2 j h1 h2=>by
   have l1:=w1.length
   have l2:=w2.length
   have k1:=q1.length
   have k2:=q2.length
   have g1:j < ds.length:=by simp at h1; omega
   have g2:j < es.length:=by simp at h2; omega
   have e1:ds[j]?=some ds[j]:=by simp [g1]
   have e2:es[j]?=some es[j]:=by simp [g2]
   obtain ⟨x',ex,rx⟩:=q1.get e1
   obtain ⟨y',ey,ry⟩:=q2.get e2
   obtain ⟨u',eu,ru⟩:=w1.get ex
   obtain ⟨v',ev,rv⟩:=w2.get ey
   have f1:its.toArray[j]=u':=by
    have:=(List.getElem?_eq_some_iff.mp eu).2
    simpa using this
   have f2:its2.toArray[j]=v':=by
    have:=(List.getElem?_eq_some_iff.mp ev).2
    simpa using this
   rw [f1,f2,show ds.getD j .non=ds[j] by simp [List.getD,e1],show es.getD j .non=es[j] by simp [List.getD,e2]]
   exact (ih ds[j] es[j] x' y' u' v' A.in1 (o1 _ (List.getElem_mem g1)) (o2 _ (List.getElem_mem g2)) rx ry ru rv hin).2.2
  cases uy I hd h1 r1 with
  | non =>
   cases uy I he h2 r2 with
   | non=>exact ⟨SeqAt.RcAt.none_none,SeqAt.RcNeAt.none_none,SeqAt.EqAt.same _⟩
   | bl b=>exact ⟨SeqAt.RcAt.none_bool b,SeqAt.RcNeAt.none_bool b,SeqAt.EqAt.none_bool b⟩
   | int i t=>exact ⟨SeqAt.RcAt.none_int i t,SeqAt.RcNeAt.none_int i t,SeqAt.EqAt.none_int i t⟩
   | str i t=>exact ⟨SeqAt.RcAt.none_str i t,SeqAt.RcNeAt.none_str i t,SeqAt.EqAt.none_str i t⟩
   | tup p _ _=>exact ⟨SeqAt.RcAt.none_tuple p hu',SeqAt.RcNeAt.none_tuple p hu',SeqAt.EqAt.none_tuple p hu'⟩
   | lst p _ _=>exact ⟨SeqAt.RcAt.none_list p hu',SeqAt.RcNeAt.none_list p hu',SeqAt.EqAt.none_list p hu'⟩
  | bl a =>
   cases uy I he h2 r2 with
   | non=>exact ⟨SeqAt.RcAt.bool_none a,SeqAt.RcNeAt.bool_none a,SeqAt.EqAt.bool_none a⟩
   | bl b=>exact ⟨SeqAt.RcAt.bool_bool a b,SeqAt.RcNeAt.bool_bool a b,SeqAt.EqAt.bool_bool a b⟩
   | int i t=>exact ⟨SeqAt.RcAt.bool_int a i t,SeqAt.RcNeAt.bool_int a i t,SeqAt.EqAt.bool_int a i t⟩
   | str i t=>exact ⟨SeqAt.RcAt.bool_str a i t,SeqAt.RcNeAt.bool_str a i t,SeqAt.EqAt.bool_str a i t⟩
   | tup p _ _=>exact ⟨SeqAt.RcAt.bool_tuple a p hu',SeqAt.RcNeAt.bool_tuple a p hu',SeqAt.EqAt.bool_tuple a p hu'⟩
   | lst p _ _=>exact ⟨SeqAt.RcAt.bool_list a p hu',SeqAt.RcNeAt.bool_list a p hu',SeqAt.EqAt.bool_list a p hu'⟩
  | int a t =>
   cases uy I he h2 r2 with
   | non=>exact ⟨SeqAt.RcAt.int_none a t,SeqAt.RcNeAt.int_none a t,SeqAt.EqAt.int_none a t⟩
   | bl b=>exact ⟨SeqAt.RcAt.int_bool a t b,SeqAt.RcNeAt.int_bool a t b,SeqAt.EqAt.int_bool a t b⟩
   | int i t'=>exact ⟨SeqAt.RcAt.int_int a t i t',SeqAt.RcNeAt.int_int a t i t',SeqAt.EqAt.int_int a t i t'⟩
   | str i t'=>exact ⟨SeqAt.RcAt.int_str a t i t',SeqAt.RcNeAt.int_str a t i t',SeqAt.EqAt.int_str a t i t'⟩
   | tup p _ _=>exact ⟨SeqAt.RcAt.int_tuple a t p hu',SeqAt.RcNeAt.int_tuple a t p hu',SeqAt.EqAt.int_tuple a t p hu'⟩
   | lst p _ _=>exact ⟨SeqAt.RcAt.int_list a t p hu',SeqAt.RcNeAt.int_list a t p hu',SeqAt.EqAt.int_list a t p hu'⟩
  | str a t =>
   cases uy I he h2 r2 with
   | non=>exact ⟨SeqAt.RcAt.str_none a t,SeqAt.RcNeAt.str_none a t,SeqAt.EqAt.str_none a t⟩
   | bl b=>exact ⟨SeqAt.RcAt.str_bool a t b,SeqAt.RcNeAt.str_bool a t b,SeqAt.EqAt.str_bool a t b⟩
   | int i t'=>exact ⟨SeqAt.RcAt.str_int a t i t',SeqAt.RcNeAt.str_int a t i t',SeqAt.EqAt.str_int a t i t'⟩
   | str i t'=>exact ⟨SeqAt.RcAt.str_str a t i t',SeqAt.RcNeAt.str_str a t i t',SeqAt.EqAt.str_str a t i t'⟩
   | tup p _ _=>exact ⟨SeqAt.RcAt.str_tuple a t p hu',SeqAt.RcNeAt.str_tuple a t p hu',SeqAt.EqAt.str_tuple a t p hu'⟩
   | lst p _ _=>exact ⟨SeqAt.RcAt.str_list a t p hu',SeqAt.RcNeAt.str_list a t p hu',SeqAt.EqAt.str_list a t p hu'⟩
  | @tup l ds xs its p r q =>
   cases uy I he h2 r2 with
   | non=>exact ⟨SeqAt.RcAt.tuple_none p hu',SeqAt.RcNeAt.tuple_none p hu',SeqAt.EqAt.tuple_none p hu'⟩
   | bl b=>exact ⟨SeqAt.RcAt.tuple_bool b p hu',SeqAt.RcNeAt.tuple_bool b p hu',SeqAt.EqAt.tuple_bool b p hu'⟩
   | int i t=>exact ⟨SeqAt.RcAt.tuple_int i t p hu',SeqAt.RcNeAt.tuple_int i t p hu',SeqAt.EqAt.tuple_int i t p hu'⟩
   | str i t=>exact ⟨SeqAt.RcAt.tuple_str i t p hu',SeqAt.RcNeAt.tuple_str i t p hu',SeqAt.EqAt.tuple_str i t p hu'⟩
   | lst p2 _ _=>exact ⟨SeqAt.RcAt.tuple_list p p2 hu',SeqAt.RcNeAt.tuple_list p p2 hu',SeqAt.EqAt.tuple_list p p2 hu'⟩
   | @tup b es ys its2 p2 r' q' =>
    have e1:its.toArray.size=ds.length:=by rw [List.size_toArray,<- r.length,q.length]
    have e2:its2.toArray.size=es.length:=by rw [List.size_toArray,<- r'.length,q'.length]
    have ek:eqD (.tup ds) (.tup es)=((List.range (min its.toArray.size its2.toArray.size)).all (λj=>eqD (ds.getD j .non) (es.getD j .non)) && its.toArray.size == its2.toArray.size):=by
     rw [e1,e2]
     exact uj ds es
    rw [ek]
    have hrc:=SeqAt.RcAt.tuples p p2 hu' (items hd he q q' r r')
    exact ⟨hrc,SeqAt.RcNeAt.tuples p p2 hu' (items hd he q q' r r'),refs rfl rfl ek.symm hrc⟩
  | @lst l ds xs its p r q =>
   cases uy I he h2 r2 with
   | non=>exact ⟨SeqAt.RcAt.list_none p hu',SeqAt.RcNeAt.list_none p hu',SeqAt.EqAt.list_none p hu'⟩
   | bl b=>exact ⟨SeqAt.RcAt.list_bool b p hu',SeqAt.RcNeAt.list_bool b p hu',SeqAt.EqAt.list_bool b p hu'⟩
   | int i t=>exact ⟨SeqAt.RcAt.list_int i t p hu',SeqAt.RcNeAt.list_int i t p hu',SeqAt.EqAt.list_int i t p hu'⟩
   | str i t=>exact ⟨SeqAt.RcAt.list_str i t p hu',SeqAt.RcNeAt.list_str i t p hu',SeqAt.EqAt.list_str i t p hu'⟩
   | tup p2 _ _=>exact ⟨SeqAt.RcAt.list_tuple p p2 hu',SeqAt.RcNeAt.list_tuple p p2 hu',SeqAt.EqAt.list_tuple p p2 hu'⟩
   | @lst b es ys its2 p2 r' q' =>
    have e1:its.toArray.size=ds.length:=by rw [List.size_toArray,<- r.length,q.length]
    have e2:its2.toArray.size=es.length:=by rw [List.size_toArray,<- r'.length,q'.length]
    by_cases hsz:its.toArray.size=its2.toArray.size
    ·have ek:eqD (.lst ds) (.lst es)=(List.range its.toArray.size).all (λj=>eqD (ds.getD j .non) (es.getD j .non)):=by
      show eqDs ds es=_
      rw [uj,<- e1,<- e2,<- hsz]
      simp
     rw [ek]
     have hrc:=SeqAt.RcAt.lists p p2 hsz hu' (items hd he q q' r r')
     exact ⟨hrc,SeqAt.RcNeAt.lists p p2 hsz hu' (items hd he q q' r r'),refs rfl rfl ek.symm hrc⟩
    ·have ek:eqD (.lst ds) (.lst es)=false:=by
      show eqDs ds es=_
      have hb:(its.toArray.size == its2.toArray.size)=false:=beq_eq_false_iff_ne.mpr hsz
      rw [uj,<- e1,<- e2,hb,Bool.and_false]
     rw [ek]
     have hne:(its.toArray.size != its2.toArray.size)=true:=by simpa using hsz
     have hrc:=SeqAt.RcAt.lists_lengths p p2 hne hu'
     exact ⟨hrc,SeqAt.RcNeAt.lists_lengths p p2 hne hu',refs rfl rfl ek.symm hrc⟩
end
section
variable {X:Cx} {a b:Expr} {ta tb:TD} {pos:Pos}
def rEqD (K:W.Frag) (neg:Bool):R2:=λx y H Q=>∃ d e,Rep K H [] d x /\ Rep K H [] e y /\ okD 40 d /\ okD 40 e /\ Q (.bl (if neg then !eqD d e else eqD d e)) H
def Pl (hu:X.A.units + 64 < cLine):OpR X (compareOp .Eq) (rEqD X.K false):=by
 intro pn s σ H x y v u Q I rx ry h
 obtain ⟨d,e,h1,h2,o1,o2,q⟩:=h
 exact (qc I 40 d e x y v u X.A o1 o2 h1 h2 rx ry (by omega)).1 X.prog X.w X.xe _ ⟨.bl _,H,I,rfl,q⟩
def Kr (hu:X.A.units + 64 < cLine):OpR X (compareOp .NotEq) (rEqD X.K true):=by
 intro pn s σ H x y v u Q I rx ry h
 obtain ⟨d,e,h1,h2,o1,o2,q⟩:=h
 exact (qc I 40 d e x y v u X.A o1 o2 h1 h2 rx ry (by omega)).2.1 X.prog X.w X.xe _ ⟨.bl _,H,I,rfl,q⟩
def sEq:D->D->(EV->Prop)->Prop:=λx y φ=>okD 40 x /\ okD 40 y /\ φ (dv (.bl (eqD x y)))
def sNe:D->D->(EV->Prop)->Prop:=λx y φ=>okD 40 x /\ okD 40 y /\ φ (dv (.bl (!eqD x y)))
def Gm (hu:X.A.units + 64 < cLine) (ha:ED Γ X a ta) (hb:ED Γ X b tb):ED Γ X (.Compare a [.Eq] [b] pos) (d2 sEq ta tb) :=
 X0 (Pl hu) (λH O x y vx vy φ Q ho hx hy h k=>⟨x,y,hx.rep0,hy.rep0,h.1,h.2.1,k _ _ H (Same.refl H) (by exact rfl) h.2.2⟩) ha hb (ra _)
end
section
variable {X:Cx} {a b c e:Expr} {es:List Expr} {ta tb tc te:TD} {t:TDs} {pos:Pos}
def Q0:uk X.K (λx y H Q=>rI IntMulOk (λi j=>.int (i * j)) x y H Q \/ rRep x y H Q) sMul:=by
 intro H O x y vx vy φ Q ho hx hy h k
 unfold sMul at h
 split at h
 ·exact .inl ⟨_,_,hx,hy,h.1,k _ _ H (Same.refl H) (by exact rfl) h.2⟩
 ·obtain ⟨h1,h2,h3,h4⟩:=h
  obtain ⟨a1,xs,rfl,q1,r1⟩:=hx
  refine .inr ⟨a1,_,xs,rfl,hy,q1,h1,h2,by rw [r1.length]; exact h3,λp hp=>?_⟩
  exact k _ _ _ (zo hp _) (fg ho hp (r1.rep _)) h4
 ·exact h.elim
def u7 (ha:ED Γ X a ta) (hb:ED Γ X b tb):ED Γ X (.BinOp a .Mult b pos) (d2 sMul ta tb):=j4 (Nh.or Kp) Q0 ha hb
def sNeg:D->(EV->Prop)->Prop:=λx φ=>match x with
 | .int i=>φ (dv (.int (-i)))
 | _=>False
def d1 (s:D->(EV->Prop)->Prop) (ta:TD):TD:=λρ φ=>ta ρ λx=>s x.d φ
def Yy (ha:ED Γ X a ta):ED Γ X (.UnaryOp .USub a pos) (d1 sNeg ta):=λH₀=>impE (G7 Mv (ha H₀)) λσ H Q h=>by
 obtain ⟨ρ,o,R,φ,hφ,k⟩:=h
 refine ⟨ρ,o,R,_,hφ,λv1 r1 H1 s1 rv1 h1=>?_⟩
 obtain ⟨kd,d⟩:=r1
 have hv:=rv1.view
 cases d with
 | int i=>exact ⟨i,hv,k _ _ H1 s1 (by exact rfl) h1⟩
 | _=>exact h1.elim
def truD:D->Option Bool
 | .non=>some false
 | .bl b=>some b
 | .int i=>some (i != 0)
 | .str x=>if x.length <= sizeLine then some ((x.length:Int) != 0) else none
 | .lst ds=>some (!ds.isEmpty)
 | .scr ns=>some (!ns.isEmpty)
 | .dz _=>none
 | .tup ds=>some (!ds.isEmpty)
 | .dk _ ds=>some (!ds.isEmpty)
 | .dt _ _=>none
 | .ty _=>none
 | .cn _=>none
 | .exc _=>none
 | .fd _=>none
 | .ob _ _ _=>none
def uv {K:W.Frag} {H:Hp} {O:List Addr} {ds:List D} {xs:List V} (r:Reps K H O ds xs):xs.isEmpty=ds.isEmpty:=by
 have:=r.length
 cases xs <;> cases ds <;> simp_all
def Sq {K:W.Frag} {H:Hp} {O:List Addr} {d:D} {v:V} {b:Bool} (h:View K H O d v) (e:truD d=some b):TruV K v H b:=by
 cases d with
 | non=>cases (show v=_ from h); cases e; rfl
 | bl i=>cases (show v=_ from h); cases e; rfl
 | int i=>cases (show v=_ from h); cases e; rfl
 | str x =>
  cases (show v=_ from h)
  have e':(if x.length <= sizeLine then some ((x.length:Int) != 0) else none)=some b:=e
  split at e'
  ·rename_i hz
   cases e'
   exact ⟨hz,rfl⟩
  ·cases e'
 | ty _=>cases e
 | cn _=>cases e
 | exc _=>cases e
 | fd _=>cases e
 | ob _ _ _=>cases e
 | lst ds =>
  obtain ⟨a,xs,rfl,q,r⟩:=h
  cases e
  exact .inl ⟨xs,SqL.of q,by rw [uv r]⟩
 | scr ns =>
  obtain ⟨a,rfl,q⟩:=h
  cases e
  exact .inl ⟨_,q.seq,by cases ns <;> rfl⟩
 | dz _=>cases e
 | tup ds =>
  obtain ⟨a,xs,rfl,q,r⟩:=h
  cases e
  exact .inr (.inl ⟨xs,q.1,by rw [uv r]⟩)
 | dk ks ds =>
  obtain ⟨a,xs,rfl,q,l,_,r⟩:=h
  cases e
  refine .inr (.inr ⟨_,q,?_⟩)
  have:=r.length
  cases ks <;> cases ds <;> cases xs <;> simp_all
 | dt ks ds=>cases e
def tTru (t:TD):TDb:=λρ φ=>t ρ λr=>match truD r.d with
 | some b=>φ b
 | none=>False
def qb (h:ED Γ X a ta) (he:∀ whole,isTrue a X.env whole=(do let v <- whole; standAt a.pos; holding [v] (truthy v)):=by intro _; rfl):ET Γ X a (tTru ta):=λH₀=>impT (Ri (h H₀) he) λσ H Q q=>by
 obtain ⟨ρ,o,R,φ,hφ,k⟩:=q
 refine ⟨ρ,o,R,_,hφ,λv1 r1 H1 s1 rv1 h1=>?_⟩
 cases e:truD r1.d with
 | none=>simp only [e] at h1
 | some b =>
  simp only [e] at h1
  exact ⟨b,Sq rv1.view e,k b H1 s1 h1⟩
def tBo (t:TD):TDb:=λρ φ=>t ρ λr=>match r.d with
 | .bl b=>φ b
 | _=>False
def cw {op:CmpOp} {rr:R2} {s:D->D->(EV->Prop)->Prop} (ho:OpR X (compareOp op) rr) (hl:uk X.K rr s) (ha:ED Γ X a ta) (hb:ED Γ X b tb) (hm:behindInMarks op b=false):ET Γ X (.Compare a [op] [b] pos) (tBo (d2 s ta tb)):=λH₀ =>
 impT (N1 ho (ha H₀) (hb H₀) hm) λσ H Q h=>by
  obtain ⟨ρ,o,R,φ,hφ,k⟩:=h
  refine Q6 (ta:=ta) (tb:=tb) (H₀:=H₀.1) hl σ H _ ⟨ρ,o,R,_,hφ,λv r H' s1 rv h1=>?_⟩
  obtain ⟨kd,d⟩:=r
  cases d with
  | bl b=>exact ⟨b,rv.view,k b H' s1 h1⟩
  | _=>exact h1.elim
def Gj (ha:ED Γ X a ta) (hb:ED Γ X b tb):ET Γ X (.Compare a [.Lt] [b] pos) (tBo (d2 sLt ta tb)):=cw Ga (Z5 λ_ _ _ _=>rfl) ha hb (ra _)
def wj (hu:X.A.units + 64 < cLine) (ha:ED Γ X a ta) (hb:ED Γ X b tb):ET Γ X (.Compare a [.Eq] [b] pos) (tBo (d2 sEq ta tb)) :=
 cw (Pl hu) (λH O x y vx vy φ Q ho hx hy h k=>⟨x,y,hx.rep0,hy.rep0,h.1,h.2.1,k _ _ H (Same.refl H) (by exact rfl) h.2.2⟩) ha hb (ra _)
def Ql (hu:X.A.units + 64 < cLine) (ha:ED Γ X a ta) (hb:ED Γ X b tb):ET Γ X (.Compare a [.NotEq] [b] pos) (tBo (d2 sNe ta tb)) :=
 cw (Kr hu) (λH O x y vx vy φ Q ho hx hy h k=>⟨x,y,hx.rep0,hy.rep0,h.1,h.2.1,k _ _ H (Same.refl H) (by exact rfl) h.2.2⟩) ha hb (ra _)
def M7:D->Bool
 | .non=>true
 | _=>false
def sIs:D->D->(EV->Prop)->Prop:=λx y φ=>match y with
 | .non=>φ (dv (.bl (M7 x)))
 | _=>False
def Sl {K:W.Frag} {H:Hp} {O:List Addr} {d:D} {v:V} (h:View K H O d v):decide (v=.non)=M7 d:=by
 cases d with
 | tup ds=>obtain ⟨a,xs,rfl,_⟩:=h; rfl
 | lst ds=>obtain ⟨a,xs,rfl,_⟩:=h; rfl
 | scr ns=>obtain ⟨a,rfl,_⟩:=h; rfl
 | dz _=>obtain ⟨a,rfl,_⟩:=h; rfl
 | exc _=>obtain ⟨a,rfl,_⟩:=h; rfl
 | fd _=>obtain ⟨a,rfl,_⟩:=h; rfl
 | ob _ _ _=>obtain ⟨a,dx,xs,rfl,_⟩:=h; rfl
 | dk ks ds=>obtain ⟨a,xs,rfl,_⟩:=h; rfl
 | dt ks ds=>obtain ⟨a,xs,rfl,_⟩:=h; rfl
 | cn c =>
  cases c with
  | int i=>cases (show v=_ from h); rfl
  | str x=>cases (show v=_ from h); rfl
  | tup cs=>obtain ⟨a,o,its,n,xs,rfl,_⟩:=(show CRep K (.tup cs) v from h); rfl
 | _=>cases (show v=_ from h); rfl
def Nr {K:W.Frag}:uk K (λx y H Q=>y=.non /\ Q (.bl (decide (x=.non))) H) sIs:=by
 intro H O x y vx vy φ Q ho hx hy h k
 unfold sIs at h
 split at h
 ·refine ⟨hy,?_⟩
  rw [Sl hx]
  exact k _ _ H (Same.refl H) (by exact rfl) h
 ·exact h.elim
def Ju (ha:ED Γ X a ta) (hb:ED Γ X b tb):ET Γ X (.Compare a [.Is] [b] pos) (tBo (d2 sIs ta tb)):=cw Ks Nr ha hb (ra _)
variable {tA tB':TDb} {rest:List Expr}
def bOr (t u:TDb):TDb:=λρ φ=>t ρ λc=>(c=true->φ true) /\ (c=false->u ρ φ)
def bNot (t:TDb):TDb:=λρ φ=>t ρ λc=>φ (!c)
def cv (ha:ET Γ X a tA):EW Γ X (.BoolOp .Or [a] pos) tA:=λH₀=>K3 (ha H₀)
def Td (ha:ET Γ X a tA) (hb:EW Γ X (.BoolOp .Or (b :: rest) pos) tB'):EW Γ X (.BoolOp .Or (a :: b :: rest) pos) (bOr tA tB'):=λH₀=>impW (G4 (ha H₀) (hb H₀)) λσ H Q h=>by
 obtain ⟨ρ,o,R,φ,hφ,k⟩:=h
 refine ⟨ρ,o,R,_,hφ,λc H1 s1 h1=>?_⟩
 cases c with
 | true=>exact iteT (k true H1 s1 (h1.1 rfl))
 | false=>exact iteF ⟨ρ,o,R.to s1,φ,h1.2 rfl,λb H2 s2 q=>k b H2 (s1.trans s2) q⟩
def EW.et (h:EW Γ X a tA):ET Γ X a tA:=λH₀=>PW.pt (h H₀)
def j0 (ha:ET Γ X a tA):ET Γ X (.UnaryOp .Not a pos) (bNot tA):=λH₀=>impT (K5 (ha H₀)) λσ H Q h=>by
 obtain ⟨ρ,o,R,φ,hφ,k⟩:=h
 exact ⟨ρ,o,R,_,hφ,λc H1 s1 h1=>k _ H1 s1 h1⟩
def vAnd (ta tb:TD):TD:=λρ φ=>ta ρ λx=>match x.d with
 | .bl c=>(c=true->tb ρ φ) /\ (c=false->φ (dv (.bl false)))
 | _=>False
def vNot (ta:TD):TD:=λρ φ=>ta ρ λx=>match x.d with
 | .bl c=>φ (dv (.bl (!c)))
 | _=>False
def qf {op} (h:ED Γ X a ta):ED Γ X (.BoolOp op [a] pos) ta:=λH₀=>Kf (h H₀)
def xy (ha:ED Γ X a ta) (hb:ED Γ X (.BoolOp .And (b :: rest) pos) tb):ED Γ X (.BoolOp .And (a :: b :: rest) pos) (vAnd ta tb):=λH₀=>impE (Kn (ha H₀) (hb H₀)) λσ H Q h=>by
 obtain ⟨ρ,o,R,φ,hφ,k⟩:=h
 refine ⟨ρ,o,R,_,hφ,λv r H1 s1 rv h1=>?_⟩
 obtain ⟨kd,d⟩:=r
 cases d with
 | bl c =>
  refine ⟨c,rv.view,?_⟩
  cases c with
  | true=>exact iteT ⟨ρ,o,R.to s1,φ,h1.1 rfl,λv2 r2 H2 s2 rv2 q=>k v2 r2 H2 (s1.trans s2) (rv2.start s1) q⟩
  | false=>exact iteF (k _ _ H1 s1 (by exact rfl) (h1.2 rfl))
 | _=>exact h1.elim
def v5 (ha:ED Γ X a ta):ED Γ X (.UnaryOp .Not a pos) (vNot ta):=λH₀=>impE (Kg (ha H₀)) λσ H Q h=>by
 obtain ⟨ρ,o,R,φ,hφ,k⟩:=h
 refine ⟨ρ,o,R,_,hφ,λv r H1 s1 rv h1=>?_⟩
 obtain ⟨kd,d⟩:=r
 cases d with
 | bl c=>exact ⟨c,rv.view,k _ _ H1 s1 (by exact rfl) h1⟩
 | _=>exact h1.elim
def vIf (t:TDb) (ta tb:TD):TD:=λρ φ=>t ρ λc=>(c=true->ta ρ φ) /\ (c=false->tb ρ φ)
def Yz (hc:ET Γ X c tA) (ha:ED Γ X a ta) (hb:ED Γ X b tb):ED Γ X (.IfExp c a b pos) (vIf tA ta tb):=λH₀=>impE (Rn (hc H₀) (ha H₀) (hb H₀)) λσ H Q h=>by
 obtain ⟨ρ,o,R,φ,hφ,k⟩:=h
 refine ⟨ρ,o,R,_,hφ,λc H1 s1 h1=>?_⟩
 cases c with
 | true=>exact iteT ⟨ρ,o,R.to s1,φ,h1.1 rfl,λv2 r2 H2 s2 rv2 q=>k v2 r2 H2 (s1.trans s2) (rv2.start s1) q⟩
 | false=>exact iteF ⟨ρ,o,R.to s1,φ,h1.2 rfl,λv2 r2 H2 s2 rv2 q=>k v2 r2 H2 (s1.trans s2) (rv2.start s1) q⟩
def aNil:TDs:=λ_ φ=>φ []
def wk (te:TD) (t:TDs):TDs:=λρ φ=>te ρ λr=>t ρ λrs=>φ (r :: rs)
def zd:EA Γ X [] aNil:=λH₀=>impA uq λσ H Q h=>by
 obtain ⟨ρ,o,R,φ,hφ,k⟩:=h
 exact k [] [] H (Same.refl H) (by exact rfl) hφ
def za (ha:ED Γ X e te) (hr:EA Γ X es t) (hs:starEach (e :: es) X.env=(false,eval e X.env) :: starEach es X.env:=by rfl):EA Γ X (e :: es) (wk te t):=λH₀=>impA (xi (ha H₀) (hr H₀) hs) λσ H Q h=>by
 obtain ⟨ρ,o,R,φ,hφ,k⟩:=h
 refine ⟨ρ,o,R,_,hφ,λv r H1 s1 rv h1=>⟨ρ,o,R.to s1,_,h1,λvs rs H2 s2 rvs h2=>?_⟩⟩
 exact k (v :: vs) (r :: rs) H2 (s1.trans s2) ⟨v,vs,rfl,rv.same s2,rvs.start s1⟩ h2
def kf:List EV->Bool
 | []=>true
 | r :: rs=>(match r.k with | .own=>false | _=>true) && kf rs
def uc:∀ {rs:List EV},kf rs=true->∀ r ∈ rs,r.k ≠ .own
 | [],_=>λr h=>nomatch h
 | ⟨k,d⟩ :: rs,h=>λr hr=>by
  rw [kf,Bool.and_eq_true] at h
  rcases List.mem_cons.mp hr with rfl | hr
  ·intro z
   have z':k=.own:=z
   subst z'
   exact absurd h.1 (by simp)
  ·exact uc h.2 r hr
def dTup (t:TDs):TD:=λρ φ=>t ρ λrs=>kf rs=true /\ Nat.ble rs.length 1000=true /\ φ (dv (.tup (rs.map EV.d)))
def dLst (t:TDs):TD:=λρ φ=>t ρ λrs=>kf rs=true /\ Nat.ble rs.length 1000=true /\ φ (df (.lst (rs.map EV.d)))
def jo {n:Nat} (h:Nat.ble n 1000=true):n <= sizeLine:=Nat.le_trans (Nat.le_of_ble_eq_true h) (by decide)
def RVs.length {K:W.Frag} {H0 H:Hp} {O:List Addr}:∀ {rs:List EV} {vs:List V},RVs K H0 H O rs vs->vs.length=rs.length
 | [],_,h=>by cases h; rfl
 | r :: rs,vs,h=>by
  obtain ⟨v,ws,rfl,_,t⟩:=h
  simp [RVs.length t]
def v4 {x1} (h:EA Γ X es t):ED Γ X (.Tuple es x1 pos) (dTup t):=λH₀=>impE (U0 (h H₀)) λσ H Q q=>by
 obtain ⟨ρ,o,R,φ,hφ,k⟩:=q
 refine ⟨ρ,o,R,_,hφ,λvs rs H1 s1 rvs h1=>⟨by rw [rvs.length]; exact jo h1.2.1,λp hp=>?_⟩⟩
 exact k _ _ _ (s1.trans (zo hp _)) (RV.start (fc hp (rvs.reps (uc h1.1))) s1) h1.2.2
def yt (h:EA Γ X es t):ED Γ X (.List es pos) (dLst t):=λH₀=>impE (Ki (h H₀)) λσ H Q q=>by
 obtain ⟨ρ,o,R,φ,hφ,k⟩:=q
 refine ⟨ρ,o,R,_,hφ,λvs rs H1 s1 rvs h1=>⟨by rw [rvs.length]; exact jo h1.2.1,λp hp=>?_⟩⟩
 exact k _ _ _ (s1.trans (zo hp _)) (RV.start (fg (λa e=>R.ofree (s1.free e)) hp (rvs.reps (uc h1.1))) s1) h1.2.2
def sIx:D->D->(EV->Prop)->Prop:=λx y φ=>match x,y with
 | .lst ds,.int i=>match atI ds i with
  | some d=>φ (dv d)
  | none=>False
 | .tup ds,.int i=>match atI ds i with
  | some d=>φ (dv d)
  | none=>False
 | .scr ns,.int i=>match atI ns i with
  | some n=>φ (dv (.int n))
  | none=>False
 | .str z,.int i=>z.length <= sizeLine /\ match atI z.cps.toList i with
  | some c=>φ (dv (.str ⟨#[c]⟩))
  | none=>False
 | _,_=>False
def X5 {K:W.Frag} {H:Hp} {O:List Addr} {ds:List D} {xs:List V} {i:Int} {d:D} (r:Reps K H O ds xs) (h:atI ds i=some d):∃ v,atI xs i=some v /\ Rep K H O d v:=by
 unfold atI at h ⊢
 rw [r.length]
 cases e:ixN ds.length i with
 | none=>rw [e] at h; cases h
 | some j =>
  rw [e] at h
  exact r.get h
def Nq:uk X.K (rIx X.K) sIx:=by
 intro H O x y vx vy φ Q ho hx hy h k
 unfold sIx at h
 split at h
 ·obtain ⟨a,xs,rfl,q,r⟩:=hx
  split at h
  ·rename_i d e
   obtain ⟨v,ev,rv⟩:=X5 r e
   exact .inl ⟨a,xs,_,v,rfl,hy,SqL.of q,ev,k _ _ H (Same.refl H) (RV.val rv) h⟩
  ·exact h.elim
 ·obtain ⟨a,xs,rfl,q,r⟩:=hx
  split at h
  ·rename_i d e
   obtain ⟨v,ev,rv⟩:=X5 r e
   exact .inr (.inl ⟨a,xs,_,v,rfl,hy,q.1,ev,k _ _ H (Same.refl H) (RV.val rv) h⟩)
  ·exact h.elim
 ·obtain ⟨a,rfl,q⟩:=hx
  split at h
  ·rename_i n e
   refine .inl ⟨a,_,_,.int n,rfl,hy,q.seq,?_,k _ _ H (Same.refl H) (by exact rfl) h⟩
   unfold atI at e ⊢
   rw [zLm]
   cases e2:ixN _ _ with
   | none=>rw [e2] at e; cases e
   | some j =>
    rw [e2] at e
    exact (List.getElem?_map ..).trans (congrArg (Option.map V.int) e)
  ·exact h.elim
 ·obtain ⟨hz,h⟩:=h
  split at h
  ·rename_i c e
   exact .inr (.inr ⟨_,_,c,hx,hy,hz,e,k _ _ H (Same.refl H) (by exact rfl) h⟩)
  ·exact h.elim
 ·exact h.elim
abbrev TDo:=DE->(Option Int->Prop)->Prop
def Ge (K:W.Frag) (H₀:Hp) (t:TDo):TO:=λσ H Q=>∃ ρ o,REnv K H₀ H σ ρ o /\ ∃ φ,t ρ φ /\ ∀ b H',Same H H'->φ b->Q b H'
def EO (G:Hp->Prop) (X:Cx) (e:Option Expr) (t:TDo):Prop:=∀ H₀:{H:Hp // G H},PO X e (Ge X.K H₀.1 t)
def J2:TDo:=λ_ φ=>φ none
def J1 (t:TD):TDo:=λρ φ=>t ρ λr=>match r.d with
 | .int i=>φ (some i)
 | _=>False
def impO {e:Option Expr} {t t':TO} (h:PO X e t) (i:∀ σ H Q,t' σ H Q->t σ H Q):PO X e t':=λpn s σ H Q I q=>h pn s σ H Q I (i σ H Q q)
def Mi:EO Γ X none J2:=λH₀=>impO N5 λσ H Q h=>by
 obtain ⟨ρ,o,R,φ,hφ,k⟩:=h
 exact k none H (Same.refl H) hφ
def Zu (h:ED Γ X e te):EO Γ X (some e) (J1 te):=λH₀=>impO (N4 (h H₀)) λσ H Q q=>by
 obtain ⟨ρ,o,R,φ,hφ,k⟩:=q
 refine ⟨ρ,o,R,_,hφ,λv r H1 s1 rv h1=>?_⟩
 obtain ⟨kd,d⟩:=r
 cases d with
 | int i=>exact ⟨i,rv.view,k _ H1 s1 h1⟩
 | _=>exact h1.elim
def cutD (xs:List D) (lo hi:Option Int):List D:=(xs.drop (HT.sIx xs.length 0 lo)).take (HT.sIx xs.length xs.length hi - HT.sIx xs.length 0 lo)
def t9 {K:W.Frag} {H:Hp} {O:List Addr} {ds:List D} {xs:List V} (r:Reps K H O ds xs) (lo hi:Option Int):Reps K H O (cutD ds lo hi) (cutV xs lo hi):=by
 unfold cutD cutV
 rw [r.length]
 exact (r.drop _).take _
def sSl:D->Option Int->Option Int->(EV->Prop)->Prop:=λx lo hi φ=>match x with
 | .lst ds=>φ (df (.lst (cutD ds lo hi)))
 | .scr ns=>φ (df (.lst (cutD (ns.map D.int) lo hi)))
 | .tup ds=>¬ (HT.sIx ds.length 0 lo=0 /\ HT.sIx ds.length ds.length hi=ds.length) /\ φ (dv (.tup (cutD ds lo hi)))
 | _=>False
def dSl (te:TD) (tl th:TDo):TD:=λρ φ=>te ρ λx=>tl ρ λl=>th ρ λu=>sSl x.d l u φ
def Qo {lo hi:Option Expr} {tl th:TDo} {p2:Pos} (he:ED Γ X e te) (hl:EO Γ X lo tl) (hu:EO Γ X hi th):ED Γ X (.Subscript e (.Slice lo hi none p2) pos) (dSl te tl th):=λH₀ =>
 impE (Yl (Oh.or Pc) (he H₀) (hl H₀) (hu H₀)) λσ H Q q=>by
  obtain ⟨ρ,o,R,φ,hφ,k⟩:=q
  refine ⟨ρ,o,R,_,hφ,λv r H1 s1 rv h1=>⟨ρ,o,R.to s1,_,h1,λl H2 s2 h2=>⟨ρ,o,R.to (s1.trans s2),_,h2,λu H3 s3 h3=>?_⟩⟩⟩
  have s12:=s1.trans s2
  have s13:=s12.trans s3
  have vw:=(rv.same (s2.trans s3)).view
  obtain ⟨kd,d⟩:=r
  cases d with
  | lst ds =>
   obtain ⟨a,xs,rfl,q,r⟩:=vw
   refine .inl ⟨a,xs,rfl,SqL.of q,λp hp=>?_⟩
   exact k _ _ _ (s13.trans (zo hp _)) (RV.start (fg (λa e=>R.ofree (s13.free e)) hp (t9 r l u)) s13) h3
  | scr ns =>
   obtain ⟨a,rfl,q⟩:=vw
   refine .inl ⟨a,_,rfl,q.seq,λp hp=>?_⟩
   exact k _ _ _ (s13.trans (zo hp _)) (RV.start (fg (λa e=>R.ofree (s13.free e)) hp (t9 (Reps.ints ns) l u)) s13) h3
  | tup ds =>
   obtain ⟨a,xs,rfl,q,r⟩:=vw
   refine .inr ⟨a,xs,rfl,q.1,by rw [r.length]; exact h3.1,λp hp=>?_⟩
   exact k _ _ _ (s13.trans (zo hp _)) (RV.start (fc hp (t9 r l u)) s13) h3.2
  | _=>exact h3.elim
end
def xw (r:EV):Prop:=match r.k with
 | .val=>pureD r.d
 | .own=>False
 | .fre=>match r.d with
  | .lst ds=>x6 ds
  | .dk _ ds=>x6 ds
  | .dt _ ds=>x6 ds
  | _=>False
 | .new=>True
def RV.lift {K:W.Frag} {H0 H:Hp} {O:List Addr} {r:EV} {v:V} (h:RV K H0 H [] r v) (p:xw r) (ho:∀ a,H0 a=none->a ∉ O):RV K H0 H O r v:=by
 obtain ⟨k,d⟩:=r
 cases k with
 | val=>exact Rep.pure _ _ p h
 | own=>exact p.elim
 | fre =>
  obtain ⟨a,e,m,n,c⟩:=h
  refine ⟨a,e,m,ho a m,?_⟩
  cases d with
  | lst ds=>obtain ⟨xs,q,r⟩:=c; exact ⟨xs,q,Reps.pure _ _ p r⟩
  | dk ks ds=>obtain ⟨xs,q,l,nd,r⟩:=c; exact ⟨xs,q,l,nd,Reps.pure _ _ p r⟩
  | dt ks ds=>obtain ⟨xs,q,l,nd,r⟩:=c; exact ⟨xs,q,l,nd,Reps.pure _ _ p r⟩
  | fd m=>exact c
  | _=>exact c.elim
 | new=>exact RepN.to (Same.refl H) (λa z=>⟨ho a z.2,z.2⟩) _ _ h
abbrev FT:=List D->(EV->Prop)->Prop
def spD (K:W.Frag) (n:Nat) (T:FT):Sp:=λvs H Q _=>∃ ds φ,ds.length=n /\ Reps K H [] ds vs /\ T ds φ /\ ∀ v r H',Same H H'->RV K H H' [] r v->xw r->φ r->Q v H'
structure FD (P:Program) (w:World) (K:W.Frag) (mg:Str->Option Value) (base:Heap) (k:Nat) (x:Str) (ps:List Str) (T:FT):Prop where
 ex:∃ f fd,FnOk P w K mg base CX0 k f fd ps (spD K ps.length T) /\ qo K fd ps [] /\ W.keepIn K (.ref f)=true /\ mg x=some (.ref f)
def Wj (n:Nat) (T:FT) (t:TDs):TD:=λρ φ=>t ρ λrs=>Nat.beq rs.length n=true /\ T (rs.map EV.d) φ
section
variable {X:Cx} {x:Str} {ps:List Str} {T:FT} {k:Nat} {e:Expr} {es:List Expr} {t:TDs} {p pos:Pos}
def Up {H₀:Hp}:∀ σ H Q,v7 X.K H₀ (Wj ps.length T t) σ H Q->bv (spD X.K ps.length T) [] E0 (Nt X.K H₀ t) σ H Q:=λσ H Q q=>by
 obtain ⟨ρ,o,R,φ,hφ,kk⟩:=q
 refine ⟨ρ,o,R,_,hφ,λvs rs H1 s1 rvs h1=>?_⟩
 show spD X.K ps.length T (vs ++ []) H1 Q E0
 rw [List.append_nil]
 refine ⟨rs.map EV.d,φ,by rw [zLm]; exact Nat.eq_of_beq_eq_true h1.1,rvs.reps0,h1.2,λv r H2 s2 rv pr h2=>?_⟩
 exact kk v r H2 (s1.trans s2) (RV.start (rv.lift pr λa e=>R.ofree (s1.free e)) s1) h2
def zk (F:FD X.prog X.w X.K X.mg X.base k x ps T) (hr:Room k X.A) (ha:EA Γ X (e :: es) t) (hg:Gl X x:=by rfl) (hdb:(x == ("__debug__" : Str))=false:=by decide)
  (he:starEach (e :: es) X.env=(false,eval e X.env) :: starEach es X.env:=by rfl) (hpl:(backTo pos (starEach es X.env)).any (·.1)=false:=by rfl):ED Γ X (.Call (.Name x p) (e :: es) [] pos) (Wj ps.length T t):=λH₀=>by
 obtain ⟨f,fd,ok,b,kp,m⟩:=F.ex
 exact impE (U2 ok hr hg m kp b .nil Ng (ha H₀) hdb he hpl) Up
def h9 (F:FD X.prog X.w X.K X.mg X.base k x ps T) (hr:Room k X.A) (hg:Gl X x:=by rfl) (hdb:(x == ("__debug__" : Str))=false:=by decide):ED Γ X (.Call (.Name x p) [] [] pos) (Wj ps.length T aNil):=λH₀=>by
 obtain ⟨f,fd,ok,b,kp,m⟩:=F.ex
 refine impE (Rr ok hr hg m kp b .nil Ng hdb) λσ H Q q=>?_
 obtain ⟨ρ,o,R,φ,hφ,kk⟩:=q
 refine ⟨[],φ,Nat.eq_of_beq_eq_true hφ.1,rfl,hφ.2,λv r H2 s2 rv pr h2=>?_⟩
 exact kk v r H2 s2 (rv.lift pr λa e=>R.ofree e) h2
def Ms (K:W.Frag) (H:Hp) (O:List Addr):List D->List V->Prop
 | [],vs=>vs=[]
 | d :: ds,vs=>∃ v ws,vs=v :: ws /\ View K H O d v /\ Ms K H O ds ws
def RVs.views {K:W.Frag} {H0 H:Hp} {O:List Addr}:∀ {rs:List EV} {vs:List V},RVs K H0 H O rs vs->Ms K H O (rs.map EV.d) vs
 | [],_,h=>h
 | r :: rs,vs,h=>by
  obtain ⟨v,ws,e,q,t⟩:=h
  exact ⟨v,ws,e,q.view,t.views⟩
def Sb (K:W.Frag) (r:List V->Hp->VK->Prop) (s:FT):Prop :=
 ∀ (H:Hp) (O:List Addr) (ds:List D) (vs:List V) (φ:EV->Prop) (Q:VK),(∀ a,H a=none->a ∉ O)->Ms K H O ds vs->s ds φ->(∀ v r H',Same H H'->RV K H H' O r v->φ r->Q v H')->r vs H Q
def dCB (s:FT) (t:TDs):TD:=λρ φ=>t ρ λrs=>s (rs.map EV.d) φ
def Uo {r:List V->Hp->VK->Prop} {s:FT} (hl:Sb X.K r s) {H₀:Hp}:∀ σ H Q,v7 X.K H₀ (dCB s t) σ H Q->tCB r (Nt X.K H₀ t) σ H Q:=λσ H Q q=>by
 obtain ⟨ρ,o,R,φ,hφ,kk⟩:=q
 refine ⟨ρ,o,R,_,hφ,λvs rs H1 s1 rvs h1=>?_⟩
 exact hl H1 _ _ vs φ Q (λa e=>R.ofree (s1.free e)) rvs.views h1 λv r H2 s2 rv h2=>kk v r H2 (s1.trans s2) (rv.start s1) h2
def wa {id:String} {r:List V->Hp->VK->Prop} {s:FT} (hc:w5 X (.builtin id) r) (hl:Sb X.K r s) (hm:X.mg x=none) (hv:bootBuiltins x=some (.builtin id)) (ha:EA Γ X (e :: es) t) (hg:Gl X x:=by rfl) (hn:x ≠ "__name__":=by decide) (hdb:(x == ("__debug__" : Str))=false:=by decide)
  (he:starEach (e :: es) X.env=(false,eval e X.env) :: starEach es X.env:=by rfl) (hpl:(backTo pos (starEach es X.env)).any (·.1)=false:=by rfl):ED Γ X (.Call (.Name x p) (e :: es) [] pos) (dCB s t):=λH₀ =>
 impE (jj hc hg hm hv (ha H₀) hn hdb he hpl) (Uo hl)
def u9 {T:String} {r:List V->Hp->VK->Prop} {s:FT} (hc:w5 X (.type T) r) (hl:Sb X.K r s) (hm:X.mg x=none) (hv:bootBuiltins x=some (.type T)) (ha:EA Γ X (e :: es) t) (hg:Gl X x:=by rfl) (hn:x ≠ "__name__":=by decide) (hdb:(x == ("__debug__" : Str))=false:=by decide)
  (he:starEach (e :: es) X.env=(false,eval e X.env) :: starEach es X.env:=by rfl) (hpl:(backTo pos (starEach es X.env)).any (·.1)=false:=by rfl):ED Γ X (.Call (.Name x p) (e :: es) [] pos) (dCB s t):=λH₀ =>
 impE (fi hc hg hm hv (ha H₀) hn hdb he hpl) (Uo hl)
def sLen:FT:=λds φ=>match ds with
 | [.lst l]=>φ (dv (.int l.length))
 | [.tup l]=>φ (dv (.int l.length))
 | [.scr l]=>φ (dv (.int l.length))
 | [.str z]=>z.length <= sizeLine /\ φ (dv (.int z.length))
 | _=>False
def Q1:Sb X.K (λxs H Q=>(∃ p ys,xs=[.ref p] /\ (SqL X.K H p ys \/ SqT X.K H p ys) /\ Q (.int ys.length) H) \/ ∃ z,xs=[.str z] /\ z.length <= sizeLine /\ Q (.int z.length) H) sLen:=by
 intro H O ds vs φ Q ho hv h k
 unfold sLen at h
 split at h
 ·obtain ⟨v,ws,rfl,⟨a,xs,rfl,q,r⟩,rfl⟩:=hv
  refine .inl ⟨a,xs,rfl,.inl (SqL.of q),?_⟩
  rw [r.length]
  exact k _ _ H (Same.refl H) (by exact rfl) h
 ·obtain ⟨v,ws,rfl,⟨a,xs,rfl,q,r⟩,rfl⟩:=hv
  refine .inl ⟨a,xs,rfl,.inr q.1,?_⟩
  rw [r.length]
  exact k _ _ H (Same.refl H) (by exact rfl) h
 ·obtain ⟨v,ws,rfl,⟨a,rfl,q⟩,rfl⟩:=hv
  refine .inl ⟨a,_,rfl,.inl q.seq,?_⟩
  rw [zLm]
  exact k _ _ H (Same.refl H) (by exact rfl) h
 ·obtain ⟨v,ws,rfl,hz,rfl⟩:=hv
  cases (show v=_ from hz)
  exact .inr ⟨_,rfl,h.1,k _ _ H (Same.refl H) (by exact rfl) h.2⟩
 ·exact h.elim
def qg (hm:X.mg "len" = none) (ha:EA Γ X (e :: es) t) (hg:Gl X "len":=by rfl) (he:starEach (e :: es) X.env=(false,eval e X.env) :: starEach es X.env:=by rfl) (hpl:(backTo pos (starEach es X.env)).any (·.1)=false:=by rfl):ED Γ X (.Call (.Name "len" p) (e :: es) [] pos) (dCB sLen t) :=
 wa (uw.or b8) Q1 hm PySem.boot_len ha hg (by decide) (by decide) he hpl
end
def EV.sto (r:EV):EV:=⟨match r.k with
 | .fre=>.own
 | .new=>.val
 | k=>k,r.d⟩
def EV.ret (r:EV):EV:=⟨match r.k with
 | .own=>.fre
 | k=>k,r.d⟩
def setS:DE->Nat->EV->DE
 | [],_,_=>[]
 | _ :: r,0,v=>some v :: r
 | x :: r,i + 1,v=>x :: setS r i v
def v6:∀ (ρ:DE) (i:Nat) (v:EV),setS ρ i v=ρ.set i (some v)
 | [],_,_=>rfl
 | _ :: _,0,_=>rfl
 | x :: r,i + 1,v=>by rw [setS,v6 r i v,List.set_cons_succ]
def Con.grow {K:W.Frag} {H H':Hp} {O O':List Addr} {d:D} {a:Addr} (h:Con K H O d a) (s:∀ u,H a=some u->H' a=some u) (g:Grow O O' H H'):Con K H' O' d a:=by
 cases d with
 | lst ds=>obtain ⟨xs,q,r⟩:=h; exact ⟨xs,s _ q,Reps.grow g _ _ r⟩
 | dk ks ds=>obtain ⟨xs,q,l,n,r⟩:=h; exact ⟨xs,s _ q,l,n,Reps.grow g _ _ r⟩
 | dt ks ds=>obtain ⟨xs,q,l,n,r⟩:=h; exact ⟨xs,s _ q,l,n,Reps.grow g _ _ r⟩
 | fd m=>exact s _ h
 | _=>exact h.elim
def Con.mtb {K:W.Frag} {H:Hp} {O:List Addr} {d:D} {a:Addr} (h:Con K H O d a):(∃ u,H a=some u) /\ (∀ xs,H a ≠ some (.tup xs)) /\ ∀ ob u,H a ≠ some (.frz ob u):=by
 cases d with
 | lst ds=>obtain ⟨xs,q,r⟩:=h; exact ⟨⟨_,q⟩,(λxs z=>by rw [q] at z; cases z),(λob u z=>by rw [q] at z; cases z)⟩
 | dk ks ds=>obtain ⟨xs,q,r⟩:=h; exact ⟨⟨_,q⟩,(λxs z=>by rw [q] at z; cases z),(λob u z=>by rw [q] at z; cases z)⟩
 | dt ks ds=>obtain ⟨xs,q,r⟩:=h; exact ⟨⟨_,q⟩,(λxs z=>by rw [q] at z; cases z),(λob u z=>by rw [q] at z; cases z)⟩
 | fd m=>have q:H a=some (wx a m):=h; exact ⟨⟨_,q⟩,(λxs z=>by rw [q] at z; cases z),(λob u z=>by rw [q] at z; cases z)⟩
 | _=>exact h.elim
section
variable {K:W.Frag} {H₀ H H':Hp} {σ:St} {ρ:DE} {o:List (Nat × Addr)}
def REnv.setV (R:REnv K H₀ H σ ρ o) (i:Nat) {d:D} {v:V} (h:Rep K H (o.map Prod.snd) d v):REnv K H₀ H (σ.set i (some v)) (setS ρ i (dv d)) o where
 same:=R.same
 fresh:=R.fresh
 trk:=R.trk
 mtb:=R.mtb
 nda:=R.nda
 len:=by rw [v6,List.length_set,List.length_set]; exact R.len
 slots:=λj r e=>by
  rw [v6] at e
  by_cases hj:j=i
  ·subst hj
   have hl:j < ρ.length:=by
    rcases Nat.lt_or_ge j ρ.length with z | z
    ·exact z
    ·rw [List.getElem?_eq_none (by rw [List.length_set]; exact z)] at e
     cases e
   rw [List.getElem?_set_self hl] at e
   cases e
   exact ⟨v,List.getElem?_set_self (by rw [R.len]; exact hl),.inl ⟨rfl,h⟩⟩
  ·rw [List.getElem?_set_ne (Ne.symm hj)] at e
   obtain ⟨w,ew,q⟩:=R.slots j r e
   exact ⟨w,by rw [List.getElem?_set_ne (Ne.symm hj)]; exact ew,q⟩
def REnv.setO (R:REnv K H₀ H σ ρ o) (s:Same H H') (i:Nat) {d:D} {a:Addr} (ha:H a=none) (c:Con K H' (a :: o.map Prod.snd) d a) :
  REnv K H₀ H' (σ.set i (some (.ref a))) (setS ρ i (dO d)) ((i,a) :: o) /\ Grow (o.map Prod.snd) (((i,a) :: o).map Prod.snd) H H':=by
 have g:Grow (o.map Prod.snd) (((i,a) :: o).map Prod.snd) H H':=by
  refine ⟨λb u h n=>⟨s b u h,λz=>?_⟩,λb xs h=>s b _ h,λb ob u h=>s b _ h⟩
  rw [List.map_cons] at z
  rcases List.mem_cons.mp z with z | z
  ·exact zf h ha z
  ·exact n z
 refine ⟨?_,g⟩
 have R':=R.to s
 exact {
  same:=R'.same
  fresh:=λp hp=>by
   rcases List.mem_cons.mp hp with rfl | hp
   ·exact R.same.free ha
   ·exact R.fresh p hp
  trk:=λp hp=>by
   rcases List.mem_cons.mp hp with rfl | hp
   ·exact c.mtb.1
   ·exact R'.trk p hp
  mtb:=λp hp=>by
   rcases List.mem_cons.mp hp with rfl | hp
   ·exact c.mtb.2
   ·exact R'.mtb p hp
  nda:=by
   rw [List.map_cons,List.nodup_cons]
   exact ⟨λz=>R.ofree ha z,R.nda⟩
  len:=by rw [v6,List.length_set,List.length_set]; exact R.len
  slots:=λj r e=>by
   rw [v6] at e
   by_cases hj:j=i
   ·subst hj
    have hl:j < ρ.length:=by
     rcases Nat.lt_or_ge j ρ.length with z | z
     ·exact z
     ·rw [List.getElem?_eq_none (by rw [List.length_set]; exact z)] at e
      cases e
    rw [List.getElem?_set_self hl] at e
    cases e
    exact ⟨_,List.getElem?_set_self (by rw [R.len]; exact hl),.inr ⟨rfl,a,rfl,List.mem_cons_self ..,c⟩⟩
   ·rw [List.getElem?_set_ne (Ne.symm hj)] at e
    obtain ⟨w,ew,q⟩:=R.slots j r e
    refine ⟨w,by rw [List.getElem?_set_ne (Ne.symm hj)]; exact ew,?_⟩
    rcases q with ⟨k,q⟩ | ⟨k,a',e1,m,c'⟩
    ·exact .inl ⟨k,Rep.grow g _ _ q⟩
    ·exact .inr ⟨k,a',e1,List.mem_cons_of_mem _ m,c'.grow (λu q=>s _ _ q) g⟩ }
def REnv.put (R:REnv K H₀ H σ ρ o) (s:Same H H') (i:Nat) {r:EV} {v:V} (h:RV K H H' (o.map Prod.snd) r v) (hk:r.k ≠ .own) :
  ∃ o',REnv K H₀ H' (σ.set i (some v)) (setS ρ i r.sto) o' /\ Grow (o.map Prod.snd) (o'.map Prod.snd) H H':=by
 obtain ⟨k,d⟩:=r
 cases k with
 | val=>exact ⟨_,(R.to s).setV i h,Grow.same s⟩
 | own=>exact absurd rfl hk
 | fre =>
  obtain ⟨a,rfl,m,n,c⟩:=h
  exact ⟨_,R.setO s i m c⟩
 | new=>exact ⟨_,(R.to s).setV i (RepN.rep (λa z=>z.1) _ _ h),Grow.same s⟩
def Zk:∀ {o:List (Nat × Addr)},(o.map Prod.snd).Nodup->∀ {p q:Nat × Addr},p ∈ o->q ∈ o->p.2=q.2->p=q
 | [],_,_,_,h,_,_=>nomatch h
 | x :: o,nd,p,q,hp,hq,e=>by
  rw [List.map_cons,List.nodup_cons] at nd
  rcases List.mem_cons.mp hp with h1 | hp
  ·rcases List.mem_cons.mp hq with h2 | hq
   ·rw [h1,h2]
   ·exact absurd (List.mem_map.mpr ⟨q,hq,by rw [<- e,h1]⟩) nd.1
  ·rcases List.mem_cons.mp hq with h2 | hq
   ·exact absurd (List.mem_map.mpr ⟨p,hp,by rw [e,h2]⟩) nd.1
   ·exact Zk nd.2 hp hq e
def REnv.chg (R:REnv K H₀ H σ ρ o) {i:Nat} {a:Addr} {d d':D} {ho:HO} (hs:ρ[i]?=some (some (dO d))) (hσ:σ[i]?=some (some (.ref a))) (hm:(i,a) ∈ o) (hho:(∀ xs,ho ≠ .tup xs) /\ ∀ ob u,ho ≠ .frz ob u)
  (c:(∀ ds xs,Reps K H (o.map Prod.snd) ds xs->Reps K (upd H a ho) (o.map Prod.snd) ds xs)->Con K (upd H a ho) (o.map Prod.snd) d' a) :
  REnv K H₀ (upd H a ho) σ (setS ρ i (dO d')) o /\ Grow (o.map Prod.snd) (o.map Prod.snd) H (upd H a ho):=by
 have ha:a ∈ o.map Prod.snd:=List.mem_map.mpr ⟨_,hm,rfl⟩
 obtain ⟨m1,m2⟩:=R.mtb _ hm
 have g:Grow (o.map Prod.snd) (o.map Prod.snd) H (upd H a ho) :=
  ⟨λb u h n=>⟨by rw [zi (show b ≠ a from λz=>n (by rw [z]; exact ha))]; exact h,n⟩,λb xs h=>by rw [zi (show b ≠ a from λz=>m1 xs (by rw [<- z]; exact h))]; exact h,λb ob u h=>by rw [zi (show b ≠ a from λz=>m2 ob u (by rw [<- z]; exact h))]; exact h⟩
 refine ⟨?_,g⟩
 exact {
  same:=λb u h=>by
   have:b ≠ a:=λz=>by
    have:=R.fresh _ hm
    rw [<- z,h] at this
    cases this
   rw [zi this]
   exact R.same b u h
  fresh:=R.fresh
  trk:=λp hp=>by
   by_cases e:p.2=a
   ·exact ⟨ho,by rw [e]; exact zg⟩
   ·rw [zi e]
    exact R.trk p hp
  mtb:=λp hp=>by
   by_cases e:p.2=a
   ·rw [e,zg]
    exact ⟨λxs z=>hho.1 xs (Option.some.inj z),λob u z=>hho.2 ob u (Option.some.inj z)⟩
   ·rw [zi e]
    exact R.mtb p hp
  nda:=R.nda
  len:=by rw [v6,List.length_set]; exact R.len
  slots:=λj r e=>by
   rw [v6] at e
   by_cases hj:j=i
   ·subst hj
    have hl:j < ρ.length:=(List.getElem?_eq_some_iff.mp hs).1
    rw [List.getElem?_set_self hl] at e
    cases e
    obtain ⟨v,ev,q⟩:=R.slots j _ hs
    rcases q with ⟨k,_⟩ | ⟨_,a',e1,m',_⟩
    ·cases k
    ·have haa:a'=a:=by
      rw [hσ] at ev
      cases ev
      cases e1
      rfl
     subst haa
     exact ⟨v,ev,.inr ⟨rfl,a',e1,hm,c λds xs q=>Reps.grow g _ _ q⟩⟩
   ·rw [List.getElem?_set_ne (Ne.symm hj)] at e
    obtain ⟨w,ew,q⟩:=R.slots j r e
    refine ⟨w,ew,?_⟩
    rcases q with ⟨k,q⟩ | ⟨k,a',e1,m',c'⟩
    ·exact .inl ⟨k,Rep.grow g _ _ q⟩
    ·refine .inr ⟨k,a',e1,m',c'.grow (λu q=>?_) g⟩
     have hne:a' ≠ a:=λz=>by
      exact hj (congrArg Prod.fst (Zk R.nda m' hm z))
     rw [zi hne]
     exact q }
end
section
variable {X:Cx} {st:Stmt} {rest:List Stmt} {t u:TDS} {e:Expr} {te:TD} {tc:TDb} {pos:Pos}
def sNil:TDS:=λρ Z=>Z.nx ρ
def sSeq (t u:TDS):TDS:=λρ Z=>t ρ { Z with nx:=λρ'=>u ρ' Z }
def yh:SDs Γ X [] sNil:=λH₀=>Jn sw λD σ H h=>by
 obtain ⟨ρ,o,R,Z,hZ,k1,_⟩:=h
 exact k1 ρ σ H o Grow.refl R hZ
def ze (h1:SD Γ X st t) (h2:SDs Γ X rest u):SDs Γ X (st :: rest) (sSeq t u):=λH₀=>Jn (vp (h1 H₀) (h2 H₀)) λD σ H h=>by
 obtain ⟨ρ,o,R,Z,hZ,k1,k2,k3,k4⟩:=h
 refine ⟨ρ,o,R,_,hZ,λρ' σ' H' o' g R' q=>?_,k2,k3,k4⟩
 exact ⟨ρ',o',R',Z,q,λρ2 σ2 H2 o2 g2 R2 q2=>k1 ρ2 σ2 H2 o2 (g.trans g2) R2 q2,λρ2 σ2 H2 o2 g2 R2 q2=>k2 ρ2 σ2 H2 o2 (g.trans g2) R2 q2,λρ2 σ2 H2 o2 g2 R2 q2=>k3 ρ2 σ2 H2 o2 (g.trans g2) R2 q2,k4⟩
def zh (h1:SD Γ X st t):SDs Γ X [st] t:=λH₀=>sv (h1 H₀)
def Yc:SD Γ X st (λ_ _=>False):=λH₀=>impS Rj λD σ H h=>by
 obtain ⟨_,_,_,_,hZ,_⟩:=h
 exact hZ.elim
def sRet (te:TD):TDS:=λρ Z=>te ρ λr=>Z.rt r.ret
def RV.ret {K:W.Frag} {H₀ H H':Hp} {σ:St} {ρ:DE} {o:List (Nat × Addr)} (R:REnv K H₀ H σ ρ o) {r:EV} {v:V} (h:RV K H H' (o.map Prod.snd) r v):RV K H₀ H' [] r.ret v:=by
 obtain ⟨k,d⟩:=r
 cases k with
 | val=>exact Rep.sub (O':=[]) (λ_ z=>absurd z (by simp)) _ _ h
 | own =>
  obtain ⟨a,e,m,c⟩:=h
  obtain ⟨p,hp,ep⟩:=List.mem_map.mp m
  subst ep
  exact ⟨p.2,e,R.fresh p hp,by simp,c.sub λb hb=>by
   have:b=p.2:=by simpa using hb
   rw [this]
   exact m⟩
 | fre =>
  obtain ⟨a,e,m,n,c⟩:=h
  exact ⟨a,e,R.same.free m,by simp,c.sub λb hb=>by
   have:b=a:=by simpa using hb
   rw [this]
   exact List.mem_cons_self ..⟩
 | new=>exact RepN.to (Same.refl H') (λa z=>⟨by simp,R.same.free z.2⟩) _ _ h
def zx (he:ED Γ X e te):SD Γ X (.Return (some e) pos) (sRet te):=λH₀=>impS (Ph (he H₀)) λD σ H h=>by
 obtain ⟨ρ,o,R,Z,hZ,k1,k2,k3,k4⟩:=h
 refine ⟨ρ,o,R,_,hZ,λv r H1 s1 rv h1=>?_⟩
 exact k4 v r.ret H1 (R.same.trans s1) (RV.ret R rv) h1
def sIf (tc:TDb) (t u:TDS):TDS:=λρ Z=>tc ρ λc=>(c=true->t ρ Z) /\ (c=false->u ρ Z)
def xf {c:Expr} {a b:List Stmt} (hc:ET Γ X c tc) (ha:SDs Γ X a t) (hb:SDs Γ X b u):SD Γ X (.If c a b pos) (sIf tc t u):=λH₀=>impS (Rk (hc H₀) (ha H₀) (hb H₀)) λD σ H h=>by
 obtain ⟨ρ,o,R,Z,hZ,k1,k2,k3,k4⟩:=h
 refine ⟨ρ,o,R,_,hZ,λc H1 s1 h1=>?_⟩
 have g:Grow (o.map Prod.snd) (o.map Prod.snd) H H1:=Grow.same s1
 have kk:∀ {v:TDS},v ρ Z->Uq X.K H₀.1 v D σ H1:=λhv=>⟨ρ,o,R.to s1,Z,hv,λρ2 σ2 H2 o2 g2 R2 q2=>k1 ρ2 σ2 H2 o2 (g.trans g2) R2 q2,λρ2 σ2 H2 o2 g2 R2 q2=>k2 ρ2 σ2 H2 o2 (g.trans g2) R2 q2,λρ2 σ2 H2 o2 g2 R2 q2=>k3 ρ2 σ2 H2 o2 (g.trans g2) R2 q2,k4⟩
 cases c with
 | true=>exact iteT (kk (h1.1 rfl))
 | false=>exact iteF (kk (h1.2 rfl))
def sCut (t:TDS):TDS:=λρ Z=>∃ J:DE->Prop,t ρ { Z with nx:=J } /\ ∀ ρ',J ρ'->Z.nx ρ'
def yo (h:SD Γ X st t):SD Γ X st (sCut t):=λH₀=>impS (h H₀) λD σ H h=>by
 obtain ⟨ρ,o,R,Z,⟨J,hZ,hJ⟩,k1,k2,k3,k4⟩:=h
 exact ⟨ρ,o,R,_,hZ,λρ2 σ2 H2 o2 g2 R2 q2=>k1 ρ2 σ2 H2 o2 g2 R2 (hJ ρ2 q2),k2,k3,k4⟩
def Ls (te:TD):TDS:=λρ Z=>te ρ λ_=>Z.nx ρ
def w6 (he:ED Γ X e te) (hs:swapsWith e none pos.line X.env=pure false:=by rfl):SD Γ X (.Expr e pos) (Ls te):=λH₀=>impS (uf (he H₀) hs) λD σ H h=>by
 obtain ⟨ρ,o,R,Z,hZ,k1,k2,k3,k4⟩:=h
 exact ⟨ρ,o,R,_,hZ,λv r H1 s1 rv h1=>k1 ρ σ H1 o (Grow.same s1) (R.to s1) h1⟩
def sSet (i:Nat) (te:TD):TDS:=λρ Z=>te ρ λr=>(match r.k with | .own=>False | _=>True) /\ Z.nx (setS ρ i r.sto)
def wg {r:EV} (h:match r.k with | .own=>False | _=>True):r.k ≠ .own:=by
 obtain ⟨k,d⟩:=r
 cases k with
 | own=>exact h.elim
 | val=>exact λz=>nomatch z
 | fre=>exact λz=>nomatch z
 | new=>exact λz=>nomatch z
def zn (i:Nat) {x:Str} {pos':Pos} (hN:X.N.Nodup) (he:ED Γ X e te) (hi:X.N[i]?=some x:=by rfl) (hx:Loc X.env.scope x:=by first | exact Or.inl rfl | exact Or.inr rfl) (hs:swapsWith e (some (.Name x pos')) pos.line X.env=pure false:=by rfl)
  (hf:X.fn x=true \/ X.env.scope.names.lookup x=some .local:=by first | exact .inl rfl | exact .inr rfl | assumption):SD Γ X (.Assign [.Name x pos'] e pos) (sSet i te):=λH₀=>impS (Vw hN hi hx (he H₀) hs hf) λD σ H h=>by
 obtain ⟨ρ,o,R,Z,hZ,k1,k2,k3,k4⟩:=h
 refine ⟨ρ,o,R,_,hZ,λv r H1 s1 rv h1=>?_⟩
 obtain ⟨o',R',g⟩:=R.put s1 i rv (wg h1.1)
 exact k1 _ _ H1 o' g R' h1.2
abbrev TGD:=D->DE->(DE->Prop)->Prop
def Y3 (K:W.Frag) (g2:TG) (g:TGD):Prop:=∀ (H₀ H:Hp) (σ:St) (ρ:DE) (o:List (Nat × Addr)) (d:D) (v:V) (ψ:DE->Prop) (Q:St->Hp->Prop),REnv K H₀ H σ ρ o->Rep K H (o.map Prod.snd) d v->g d ρ ψ ->
 (∀ ρ' σ',REnv K H₀ H σ' ρ' o->ψ ρ'->Q σ' H)->g2 v σ H Q
def gN (i:Nat):TGD:=λd ρ ψ=>ψ (setS ρ i (dv d))
def yi {K:W.Frag} (i:Nat):Y3 K (dy i) (gN i):=λH₀ H σ ρ o d v ψ Q R h hg k=>k _ _ (R.setV i h) hg
def gT2 (i j:Nat):TGD:=λd ρ ψ=>match d with
 | .tup [a,b]=>ψ (setS (setS ρ i (dv a)) j (dv b))
 | _=>False
def rm {K:W.Frag} (i j:Nat):Y3 K (gTup K 2 (W6 (dy i) (W6 (dy j) gNil))) (gT2 i j):=λH₀ H σ ρ o d v ψ Q R h hg k=>by
 unfold gT2 at hg
 split at hg
 ·rename_i a b
  obtain ⟨p,xs,rfl,q,r⟩:=h
  obtain ⟨v1,r1,rfl,h1,v2,r2,rfl,h2,rfl⟩:=r
  refine ⟨p,_,rfl,q.1,rfl,v1,_,rfl,v2,_,rfl,rfl,?_⟩
  have R1:=R.setV i h1
  have R2:=R1.setV j h2
  exact k _ _ R2 hg
 ·exact hg.elim
def sUn (te:TD) (g:TGD):TDS:=λρ Z=>te ρ λr=>(match r.k with | .own=>False | _=>True) /\ g r.d ρ Z.nx
def Hy {tg:Expr} {g2:TG} {g:TGD} (he:ED Γ X e te) (hg:PG X tg g2) (hl:Y3 X.K g2 g) (hs:swapsWithSole [tg] e pos.line X.env=pure false:=by rfl) (hw:swappedStores [tg] e X.env=pure none:=by rfl)
  (h1:(assignEach [tg] X.env).map (·.2)=[assign tg X.env]:=by rfl):SD Γ X (.Assign [tg] e pos) (sUn te g):=λH₀=>impS (Pi (he H₀) hg hs hw h1) λD σ H h=>by
 obtain ⟨ρ,o,R,Z,hZ,k1,k2,k3,k4⟩:=h
 refine ⟨ρ,o,R,_,hZ,λv r H1 s1 rv h1=>?_⟩
 exact hl H₀.1 H1 σ ρ o r.d v _ _ (R.to s1) (rv.solid (wg h1.1)) h1.2 λρ' σ' R' q=>k1 ρ' σ' H1 o (Grow.same s1) R' q
structure ItD (K:W.Frag) (J:It) (ds:List D) (P:Hp->List Addr->Prop):Prop where
 go:∀ (H:Hp) (O:List Addr) (i:Nat) (d:D),P H O->ds[i]?=some d->J.go i H /\ ∀ x H',J.yld i H x H'->Same H H' /\ Rep K H' O d x
 stop:∀ (H:Hp) (O:List Addr),P H O->J.stop ds.length H
 keep:∀ (O O':List Addr) (H H':Hp),P H O->Grow O O' H H'->P H' O'
abbrev TID:=DE->(List D->Prop)->Prop
def J4 (K:W.Frag) (H₀:Hp) (t:TID):TI:=λσ H R=>∃ ρ o,REnv K H₀ H σ ρ o /\ ∃ φ,t ρ φ /\ ∀ J ds P H',Same H H'->ItD K J ds P->P H' (o.map Prod.snd)->φ ds->R J H'
def EI (G:Hp->Prop) (X:Cx) (tg iter:Expr) (t:TID):Prop:=∀ H₀:{H:Hp // G H},PI X tg iter (J4 X.K H₀.1 t)
def sFor (ti:TID) (g:TGD) (tb:TDS):TDS:=λρ Z=>ti ρ λds=>∃ P:Nat->DE->Prop,P 0 ρ /\ (∀ i d ρ,ds[i]?=some d->P i ρ->g d ρ λρ'=>tb ρ' { Z with nx:=P (i + 1),ct:=P (i + 1),bk:=Z.nx }) /\ ∀ ρ,P ds.length ρ->Z.nx ρ
def wn {tg iter:Expr} {body:List Stmt} {ti:TID} {g2:TG} {g:TGD} {tb:TDS} (hi:EI Γ X tg iter ti) (hg:PG X tg g2) (hl:Y3 X.K g2 g) (hb:SDs Γ X body tb) (hc:X.calm=true:=by rfl) (hp:PassesOwn (model X.prog X.w) X.A X.env X.xe:=by exact PassesOwn.never)
  (hs:∀ x,foldedSetIterable iter X.env x=pure x:=by intro _; rfl):SD Γ X (.For tg iter body [] pos) (sFor ti g tb):=λH₀=>impS (K6 hp hc (hi H₀) hg (hb H₀) hs) λD σ H h=>by
 obtain ⟨ρ,o,R,Z,hZ,k1,k2,k3,k4⟩:=h
 refine ⟨ρ,o,R,_,hZ,λJ ds PJ H1 s1 I hP ⟨P,p0,turn,fin⟩=>?_⟩
 refine ⟨λi m σ' H'=>m=ds.length - i /\ i <= ds.length /\ ∃ ρ' o',Grow (o.map Prod.snd) (o'.map Prod.snd) H1 H' /\ REnv X.K H₀ H' σ' ρ' o' /\ P i ρ',⟨_,rfl,Nat.zero_le _,ρ,o,Grow.refl,R.to s1,p0⟩,?_⟩
 rintro i m σ' H' ⟨rfl,hi',ρ',o',g',R',p'⟩
 have hP':=I.keep _ _ _ _ hP g'
 have gg:Grow (o.map Prod.snd) (o'.map Prod.snd) H H':=(Grow.same s1).trans g'
 by_cases hlt:i < ds.length
 ·have ed:ds[i]?=some ds[i]:=by simp [hlt]
  obtain ⟨j1,j2⟩:=I.go H' _ i _ hP' ed
  refine .inr ⟨j1,λσ2 H2=>∃ ρ2 o2,Grow (o.map Prod.snd) (o2.map Prod.snd) H1 H2 /\ REnv X.K H₀ H2 σ2 ρ2 o2 /\ P (i + 1) ρ2,λσ2 H2 ⟨ρ2,o2,g2,R2,p2⟩=>⟨_,(by omega:ds.length - (i + 1) < ds.length - i),rfl,hlt,ρ2,o2,g2,R2,p2⟩,λx H2 y=>?_⟩
  obtain ⟨s2,rp⟩:=j2 x H2 y
  refine hl H₀.1 H2 σ' ρ' o' _ x _ _ (R'.to s2) rp (turn i _ ρ' ed p') λρ3 σ3 R3 q3=>?_
  have g13:Grow (o.map Prod.snd) (o'.map Prod.snd) H1 H2:=g'.trans (Grow.same s2)
  have gg3:Grow (o.map Prod.snd) (o'.map Prod.snd) H H2:=gg.trans (Grow.same s2)
  exact ⟨ρ3,o',R3,_,q3,λρ4 σ4 H4 o4 g4 R4 q4=>⟨ρ4,o4,g13.trans g4,R4,q4⟩,λρ4 σ4 H4 o4 g4 R4 q4=>k1 ρ4 σ4 H4 o4 (gg3.trans g4) R4 q4,λρ4 σ4 H4 o4 g4 R4 q4=>⟨ρ4,o4,g13.trans g4,R4,q4⟩,k4⟩
 ·have e:i=ds.length:=by omega
  subst e
  exact .inl ⟨I.stop H' _ hP',k1 ρ' σ' H' o' gg R' (fin ρ' p')⟩
end
section
variable {X:Cx} {tg e:Expr} {te:TD} {t:TDs} {pos:Pos}
def impI {iter:Expr} {t t':TI} (h:PI X tg iter t) (i:∀ σ H R,t' σ H R->t σ H R):PI X tg iter t':=λpn s σ H R I q=>h pn s σ H R I (i σ H R q)
def PV (X:Cx) (tg:Expr) (r:V->Hp->(It->Hp->Prop)->Prop):Prop :=
 ∀ (pn:List (Addr × Obj)) (s:Shared) (σ:St) (H:Hp) (x:V) (v:Value) (R:It->Hp->Prop),Inv X pn σ H s->RelV x v->r x H R->wpAny (model X.prog X.w) X.A (pyIter v) (PIE X pn σ tg R) X.xe s
def K8 {l:Expr} {tl:TE} {r:V->Hp->(It->Hp->Prop)->Prop} (hl:PE X l tl) (hv:PV X tg r):PI X tg l (λσ H R=>tl σ H λx H1=>r x H1 R):=λpn s σ H R I h =>
 thn (hl pn s σ H _ I h) λv s1 ⟨x,H1,I1,r1,q1⟩=>hv pn s1 σ H1 x v R I1 r1 q1
def N0:PV X tg (λx H R=>∃ a,x=.ref a /\ (∃ xs,SqL X.K H a xs) /\ R (Itl X.K a) H):=by
 intro pn s1 σ H1 x v R I1 r1 q1
 obtain ⟨a,e,⟨xs,hq⟩,q⟩:=q1
 subst e
 cases r1
 obtain ⟨its,rv,p,hz⟩:=I1.list hq
 refine wpAny_pyIter_list p.isList ?_
 refine ⟨s1.heap.objs.size,[s1.heap.objs.size],_,_,H1,rfl,I1.kept (t':=s1.toks) λb o e=>Heap.get?_push_of_some _ e,Wz a _,⟨_,Heap.get?_push_size _ rfl,rfl,rfl⟩,λb hb=>?_,q⟩
 have e:b=s1.heap.objs.size:=by simpa using hb
 subst e
 exact I1.fpOk (Nat.le_refl _) (I1.hok.fresh (Nat.le_refl _))
def Pg:PV X tg (λx H R=>∃ a,x=.ref a /\ (∃ xs,SqT X.K H a xs) /\ R (Itt X.K a) H):=by
 intro pn s1 σ H1 x v R I1 r1 q1
 obtain ⟨a,e,⟨xs,hq⟩,q⟩:=q1
 subst e
 cases r1
 obtain ⟨its,rv,p,hz⟩:=I1.tuple hq
 refine wpAny_pyIter_tuple (show s1.heap.IsTuple a its.toArray from p) ?_
 refine ⟨s1.heap.objs.size,[s1.heap.objs.size],_,_,H1,rfl,I1.kept (t':=s1.toks) λb o e=>Heap.get?_push_of_some _ e,Xc a _,⟨_,Heap.get?_push_size _ rfl,rfl,rfl⟩,λb hb=>?_,q⟩
 have e:b=s1.heap.objs.size:=by simpa using hb
 subst e
 exact I1.fpOk (Nat.le_refl _) (I1.hok.fresh (Nat.le_refl _))
def K4:PV X tg (λx H R=>∃ z,x=.str z /\ R (Itv z.cps.size (Mt z)) H):=by
 intro pn s1 σ H1 x v R I1 r1 q1
 obtain ⟨z,e,q⟩:=q1
 subst e
 obtain ⟨t,rfl⟩:=r1
 have lay:∀ (T:String),(∀ A:Around,A.handled=none->Walks X.prog X.w A s1.heap.objs.size [s1.heap.objs.size] [s1.heap.objs.size] z.cps.size (SignAt z) (λi h=>h.IsStrIter s1.heap.objs.size T z t i)) ->
   (∀ (A:Around) (i:Nat) (s:Shared) (Q:Value->Shared->Prop) (E:Value->Shared->Prop),s.heap.IsStrIter s1.heap.objs.size T z t i->Q (.ref s1.heap.objs.size) s->wpAny (model X.prog X.w) A (pyIter (.ref s1.heap.objs.size)) Q E s) ->
   ["enumerate", "zip", "dict_itemiterator", "dict_reverseitemiterator", "odict_iterator", "itertools.zip_longest", "itertools.pairwise"].contains T=false ->
   PIE X pn σ tg R (.ref s1.heap.objs.size) { s1 with heap:=s1.heap.push { cls:=.type T,data:=.fields #[.str z t,.int 0 0] } }:=λT W hs hT=>by
  have I2:Inv X pn σ H1 { s1 with heap:=s1.heap.push { cls:=.type T,data:=.fields #[.str z t,.int 0 0] } }:=I1.kept (t':=s1.toks) λb u e=>Heap.get?_push_of_some _ e
  refine ⟨s1.heap.objs.size,[s1.heap.objs.size],_,_,H1,rfl,I2,So W hs hT,⟨_,Heap.get?_push_size _ rfl,rfl,rfl⟩,λb hb=>?_,q⟩
  have e:b=s1.heap.objs.size:=by simpa using hb
  subst e
  exact I1.fpOk (Nat.le_refl _) I1.fresh
 cases ha:z.cps.all (· < 128)
 ·exact wpAny_pyIter_wide ha (lay "str_iterator" (λA hA=>Walks.strWide hA _ z t) (λA i s Q E st q=>wpAny_pyIter_striter_wide st q) (by decide))
 ·exact wpAny_pyIter_ascii ha (lay "str_ascii_iterator" (λA hA=>Walks.strAscii hA _ z t) (λA i s Q E st q=>wpAny_pyIter_striter_ascii st q) (by decide))
def Pq:D->Option (List D)
 | .lst ds=>some ds
 | .tup ds=>some ds
 | .scr ns=>some (ns.map D.int)
 | .str z=>some (z.cps.toList.map λc=>D.str ⟨#[c]⟩)
 | _=>none
def iSeq (te:TD):TID:=λρ φ=>te ρ λr=>(match r.k with | .own=>False | _=>True) /\ match Pq r.d with
 | some ds=>φ ds
 | none=>False
def Jk {K:W.Frag} {a:Addr} {ds:List D}:ItD K (Itl K a) ds (λH O=>∃ xs,H a=some (.lst xs) /\ a ∉ O /\ Reps K H O ds xs) where
 go:=λH O i d ⟨xs,q,n,r⟩ e=>by
  obtain ⟨v,ev,rv⟩:=r.get e
  refine ⟨⟨xs,v,SqL.of q,ev⟩,λx H' y=>?_⟩
  obtain ⟨e1,y⟩:=y
  subst e1
  have:=y xs (SqL.of q)
  rw [ev] at this
  cases this
  exact ⟨Same.refl _,rv⟩
 stop:=λH O ⟨xs,q,n,r⟩=>⟨xs,SqL.of q,by rw [r.length]; exact Nat.le_refl _⟩
 keep:=λO O' H H' ⟨xs,q,n,r⟩ g=>⟨xs,(g.keep _ _ q n).1,(g.keep _ _ q n).2,Reps.grow g _ _ r⟩
def Pr {K:W.Frag} {a:Addr} {ds:List D}:ItD K (Itt K a) ds (λH O=>∃ xs,SqT K H a xs /\ Reps K H O ds xs) where
 go:=λH O i d ⟨xs,q,r⟩ e=>by
  obtain ⟨v,ev,rv⟩:=r.get e
  refine ⟨⟨xs,v,q,ev⟩,λx H' y=>?_⟩
  obtain ⟨e1,y⟩:=y
  subst e1
  have:=y xs q
  rw [ev] at this
  cases this
  exact ⟨Same.refl _,rv⟩
 stop:=λH O ⟨xs,q,r⟩=>⟨xs,q,by rw [r.length]; exact Nat.le_refl _⟩
 keep:=λO O' H H' ⟨xs,q,r⟩ g=>⟨xs,je g q,Reps.grow g _ _ r⟩
def Ji {K:W.Frag} {a:Addr} {ns:List Int}:ItD K (Itl K a) (ns.map D.int) (λH _=>Scr K H a ns) where
 go:=λH O i d q e=>by
  rw [List.getElem?_map] at e
  cases en:ns[i]? with
  | none=>rw [en] at e; cases e
  | some n =>
   rw [en] at e
   cases e
   have ev:(ns.map V.int)[i]?=some (.int n):=by rw [List.getElem?_map,en]; rfl
   refine ⟨⟨_,_,q.seq,ev⟩,λx H' y=>?_⟩
   obtain ⟨e1,y⟩:=y
   subst e1
   have:=y _ q.seq
   rw [ev] at this
   cases this
   exact ⟨Same.refl _,rfl⟩
 stop:=λH O q=>⟨_,q.seq,by rw [zLm,zLm]; exact Nat.le_refl _⟩
 keep:=λO O' H H' q g=>t8 g q
def Jh {K:W.Frag} {z:Str}:ItD K (Itv z.cps.size (Mt z)) (z.cps.toList.map λc=>D.str ⟨#[c]⟩) (λ_ _=>True) where
 go:=λH O i d _ e=>by
  rw [List.getElem?_map] at e
  cases en:z.cps.toList[i]? with
  | none=>rw [en] at e; cases e
  | some n =>
   rw [en] at e
   cases e
   have hl:=(List.getElem?_eq_some_iff.mp en).1
   refine ⟨(show i < z.cps.size by simpa using hl),λx H' y=>?_⟩
   obtain ⟨e1,c,hc,ex⟩:=y
   subst e1 ex
   have:z.cps.toList[i]?=some c:=by rw [Array.getElem?_toList]; exact hc
   rw [en] at this
   cases this
   exact ⟨Same.refl _,rfl⟩
 stop:=λH O _=>by show _=_; simp
 keep:=λ_ _ _ _ _ _=>trivial
def rngD (lo:Int) (n:Nat):List D:=(List.range n).map λ(i:Nat)=>D.int (lo + (i:Int))
def Jj {K:W.Frag} {lo:Int} {n:Nat}:ItD K (Itr lo n) (rngD lo n) (λ_ _=>True) where
 go:=λH O i d _ e=>by
  unfold rngD at e
  rw [List.getElem?_map] at e
  cases en:(List.range n)[i]? with
  | none=>rw [en] at e; cases e
  | some m =>
   rw [en] at e
   cases e
   have hl:=(List.getElem?_eq_some_iff.mp en).1
   rw [List.length_range] at hl
   have:m=i:=by
    rw [List.getElem?_range hl] at en
    exact (Option.some.inj en).symm
   subst this
   refine ⟨hl,λx H' y=>?_⟩
   obtain ⟨e1,ex⟩:=y
   subst e1 ex
   exact ⟨Same.refl _,rfl⟩
 stop:=λH O _=>by show n <= _; unfold rngD; simp
 keep:=λ_ _ _ _ _ _=>trivial
def PV.or {r r':V->Hp->(It->Hp->Prop)->Prop} (h:PV X tg r) (h':PV X tg r'):PV X tg (λx H R=>r x H R \/ r' x H R):=λpn s σ H x v R I rx q=>q.elim (h pn s σ H x v R I rx) (h' pn s σ H x v R I rx)
def qe (he:ED Γ X e te):EI Γ X tg e (iSeq te):=λH₀=>impI (K8 (he H₀) (N0.or (Pg.or K4))) λσ H R q=>by
 obtain ⟨ρ,o,RE,φ,hφ,k⟩:=q
 refine ⟨ρ,o,RE,_,hφ,λv r H1 s1 rv h1=>?_⟩
 obtain ⟨h0,h1⟩:=h1
 have rp:=rv.solid (wg h0)
 obtain ⟨kd,d⟩:=r
 cases d with
 | lst ds =>
  obtain ⟨a,xs,rfl,q,n,r⟩:=rp
  exact .inl ⟨a,rfl,⟨xs,SqL.of q⟩,k _ _ _ H1 s1 Jk ⟨xs,q,n,r⟩ h1⟩
 | tup ds =>
  obtain ⟨a,xs,rfl,q,r⟩:=rp
  exact .inr (.inl ⟨a,rfl,⟨xs,q.1⟩,k _ _ _ H1 s1 Pr ⟨xs,q.1,r⟩ h1⟩)
 | scr ns =>
  obtain ⟨a,rfl,q⟩:=rp
  exact .inl ⟨a,rfl,⟨_,q.seq⟩,k _ _ _ H1 s1 Ji q h1⟩
 | str z =>
  cases (show v=_ from rp)
  exact .inr (.inr ⟨z,rfl,k _ _ _ H1 s1 Jh trivial h1⟩)
 | _=>exact h1.elim
def iR1 (t:TDs):TID:=λρ φ=>t ρ λrs=>match rs with
 | [⟨_,.int j⟩]=>-(2 ^ 62) <= j /\ j < 2 ^ 62 /\ φ (rngD 0 j.toNat)
 | _=>False
def xo {a:Expr} {p:Pos} (hm:X.mg "range" = none) (ha:EA Γ X [a] t) (hg:Gl X "range":=by rfl) (hs:starEach [a] X.env=[(false,eval a X.env)]:=by rfl):EI Γ X tg (.Call (.Name "range" p) [a] [] pos) (iR1 t):=λH₀=>impI (Vz hg hm (ha H₀) hs) λσ H R q=>by
 obtain ⟨ρ,o,RE,φ,hφ,k⟩:=q
 refine ⟨ρ,o,RE,_,hφ,λvs rs H1 s1 rvs h1=>?_⟩
 split at h1
 ·rename_i kd j
  obtain ⟨v,ws,rfl,rv,rfl⟩:=rvs
  cases (show v=_ from rv.view)
  exact ⟨j,rfl,h1.1,h1.2.1,k _ _ _ H1 s1 Jj trivial h1.2.2⟩
 ·exact h1.elim
end
section
variable {X:Cx} {σ:St} {scope:Scope} {T F:List Str} {js:List Nat} {tg iter elt:Expr} {ifs:List Expr} {pos:Pos} {ti:TID} {g2:TG} {g:TGD} {tc:TDb} {te:TD}
def ρ0 (n:Nat) (js:List Nat) (ρ:DE):DE:=List.replicate n none ++ js.map λj=>slot ρ j
def ixO (n:Nat) (js:List Nat) (j:Nat):Nat:=if j ∈ js then n + js.idxOf j else n + js.length + 1 + j
def Xn {K:W.Frag} {H₀ H H':Hp} {σ:St} {ρ:DE} {o:List (Nat × Addr)} {n:Nat} {js:List Nat} {D:Addr} {ys:List V} (R:REnv K H₀ H σ ρ o) (nd:js.Nodup) (hD:H D=none) (s:Same H H') (hD':H' D=some (.lst ys)) (Tn:List Str) (hT:Tn.length=n) :
  REnv K H₀ H' (st0 Tn js σ) (ρ0 n js ρ) ((n + js.length,D) :: o.map λp=>(ixO n js p.1,p.2)):=by
 have hO:((n + js.length,D) :: o.map λp=>(ixO n js p.1,p.2)).map Prod.snd=D :: o.map Prod.snd:=by
  rw [List.map_cons,List.map_map]
  rfl
 have g:Grow (o.map Prod.snd) (D :: o.map Prod.snd) H H':=⟨λb u h nb=>⟨s b u h,λz=>(List.mem_cons.mp z).elim (λe=>zf h hD e) nb⟩,λb xs h=>s b _ h,λb ob u h=>s b _ h⟩
 have R':=R.to s
 exact {
  same:=R'.same
  fresh:=λp hp=>by
   rcases List.mem_cons.mp hp with rfl | hp
   ·exact R.same.free hD
   ·obtain ⟨q,hq,rfl⟩:=List.mem_map.mp hp
    exact R.fresh q hq
  trk:=λp hp=>by
   rcases List.mem_cons.mp hp with rfl | hp
   ·exact ⟨_,hD'⟩
   ·obtain ⟨q,hq,rfl⟩:=List.mem_map.mp hp
    exact R'.trk q hq
  mtb:=λp hp=>by
   rcases List.mem_cons.mp hp with rfl | hp
   ·exact ⟨(λxs z=>by rw [hD'] at z; cases z),(λob u z=>by rw [hD'] at z; cases z)⟩
   ·obtain ⟨q,hq,rfl⟩:=List.mem_map.mp hp
    exact R'.mtb q hq
  nda:=by
   rw [hO,List.nodup_cons]
   exact ⟨R.ofree hD,R.nda⟩
  len:=by
   unfold st0 ρ0
   simp [hT]
  slots:=λi r e=>by
   rw [hO]
   unfold ρ0 at e
   have hi:n <= i:=by
    rcases Nat.lt_or_ge i n with z | z
    ·rw [List.getElem?_append_left (by simpa using z),List.getElem?_replicate] at e
     split at e <;> cases e
    ·exact z
   rw [List.getElem?_append_right (by simpa using hi),List.length_replicate,List.getElem?_map] at e
   cases ej:js[i - n]? with
   | none=>rw [ej] at e; cases e
   | some j =>
    rw [ej] at e
    have e':slot ρ j=some r:=Option.some.inj e
    obtain ⟨v,ev,q⟩:=R.slots j r (yc e')
    refine ⟨v,?_,?_⟩
    ·unfold st0
     rw [List.getElem?_append_right (by simpa [hT] using hi),List.length_replicate,List.getElem?_map,hT,ej]
     show some ((σ[j]?).join)=_
     rw [ev]
     rfl
    ·rcases q with ⟨k,q⟩ | ⟨k,a,e1,m,c⟩
     ·exact .inl ⟨k,Rep.grow g _ _ q⟩
     ·refine .inr ⟨k,a,e1,List.mem_cons_of_mem _ (List.mem_map.mpr ⟨_,m,?_⟩),c.grow (λu q=>s _ _ q) g⟩
      have hmem:j ∈ js:=List.mem_of_getElem? ej
      have hidx:js.idxOf j=i - n:=by
       have h1:=(List.getElem?_eq_some_iff.mp ej)
       have h2:=List.getElem_idxOf (List.idxOf_lt_length_iff.mpr hmem)
       exact (List.getElem_inj nd).mp (h2.trans h1.2.symm)
      show (ixO n js j,a)=(i,a)
      unfold ixO
      rw [if_pos hmem,hidx]
      congr 1
      omega }
def bYes:TDb:=λ_ φ=>φ true
def Tu (ti:TID) (n:Nat) (js:List Nat) (g:TGD) (tc:TDb) (te:TD):TD:=λρ φ=>ti ρ λds=>∃ f:D->Option D,ds.length <= 100000 /\
 (∀ d ∈ ds,g d (ρ0 n js ρ) λρ'=>tc ρ' λc=>(c=true->te ρ' λr=>(match r.k with | .own=>False | _=>True) /\ f d=some r.d) /\ (c=false->f d=none)) /\ φ (df (.lst (ds.filterMap f)))
def EIf (G:Hp->Prop) (X:Cx) (ifs:List Expr) (t:TDb):Prop:=∀ H₀:{H:Hp // G H},PIf X ifs (jm X.K H₀.1 t)
def xu:EIf Γ X [] bYes:=λH₀ pn s σ H Q I h=>by
 obtain ⟨ρ,o,R,φ,hφ,k⟩:=h
 exact N6 pn s σ H Q I (k true H (Same.refl H) hφ)
def ft {H₀:Hp} (nd:js.Nodup) (hl:Y3 X.K g2 g):∀ σ H Q,v7 X.K H₀ (Tu ti T.length js g tc te) σ H Q->Of (J4 X.K H₀ ti) T js g2 (jm X.K H₀ tc) (v7 X.K H₀ te) σ H Q:=λσ H Q q=>by
  obtain ⟨ρ,o,R,φ,hφ,k⟩:=q
  refine ⟨ρ,o,R,_,hφ,λJ ds P H1 s1 I hP ⟨f,hlen,turn,fin⟩ Da hDa=>?_⟩
  have R1:=R.to s1
  have gD:∀ {H':Hp},Same H1 H'->Grow (o.map Prod.snd) (Da :: o.map Prod.snd) H1 H':=λs=>⟨λb u h nb=>⟨s b u h,λz=>(List.mem_cons.mp z).elim (λe=>zf h hDa e) nb⟩,λb xs h=>s b _ h,λb ob u h=>s b _ h⟩
  refine ⟨λi m ys H'=>m=ds.length - i /\ i <= ds.length /\ Same H1 H' /\ H' Da=some (.lst ys) /\ Reps X.K H' (Da :: o.map Prod.snd) ((ds.take i).filterMap f) ys,
   ⟨_,rfl,Nat.zero_le _,zo hDa _,zg,rfl⟩,?_⟩
  rintro i m ys H' ⟨rfl,hi',s2,hD',rp⟩
  refine ⟨hD',?_⟩
  have hP':=I.keep _ _ _ _ hP (gD s2)
  by_cases hlt:i < ds.length
  ·have ed:ds[i]?=some ds[i]:=by simp [hlt]
   obtain ⟨j1,j2⟩:=I.go H' _ i _ hP' ed
   refine .inr ⟨j1,λzs H2=>Same H1 H2 /\ H2 Da=some (.lst zs) /\ Reps X.K H2 (Da :: o.map Prod.snd) ((ds.take (i + 1)).filterMap f) zs,λzs H2 ⟨a1,a2,a3⟩=>⟨_,(by omega:ds.length - (i + 1) < ds.length - i),rfl,hlt,a1,a2,a3⟩,λx H2 y=>?_⟩
   obtain ⟨s3,rx⟩:=j2 x H2 y
   have s13:=s2.trans s3
   have hD2:=s3 _ _ hD'
   have RB:=Xn (n:=T.length) R1 nd hDa s13 hD2 T rfl
   have hO:((T.length + js.length,Da) :: o.map λp=>(ixO T.length js p.1,p.2)).map Prod.snd=Da :: o.map Prod.snd:=by
    rw [List.map_cons,List.map_map]
    rfl
   have tk:(ds.take (i + 1)).filterMap f=(ds.take i).filterMap f ++ (f ds[i]).toList:=by
    rw [List.take_succ,ed,List.filterMap_append]
    cases e:f ds[i] <;> simp [e]
   have rpl:ys.length <= 100000:=by
    rw [rp.length]
    refine Nat.le_trans (List.length_filterMap_le _ _) ?_
    rw [List.length_take]
    omega
   refine hl H₀ H2 (st0 T js σ) (ρ0 T.length js ρ) _ _ x _ _ RB (by rw [hO]; exact rx) (turn _ (List.getElem_mem hlt)) λρ' σ' R' q'=>?_
   refine ⟨ρ',_,R',_,q',λc H3 s4 h4=>?_⟩
   have hD3:=s4 _ _ hD2
   cases c with
   | false =>
    refine iteF ⟨s13.trans s4,hD3,?_⟩
    rw [tk,h4.2 rfl]
    simpa using Reps.grow (Grow.same (s3.trans s4)) _ _ rp
   | true =>
    refine iteT ⟨ρ',_,R'.to s4,_,h4.1 rfl,λv r H4 s5 rv h5=>?_⟩
    have hD4:=s5 _ _ hD3
    have rd:=rv.solid (wg h5.1)
    rw [hO] at rd
    have ne:∀ b u,H1 b=some u->b ≠ Da:=λb u h=>zf h hDa
    have gu:Grow (Da :: o.map Prod.snd) (Da :: o.map Prod.snd) H4 (upd H4 Da (.lst (ys ++ [v]))) :=
     ⟨λb u h n=>⟨by rw [zi (λz=>n (List.mem_cons.mpr (.inl z)))]; exact h,n⟩,λb xs h=>by rw [zi (λz=>by rw [z,hD4] at h; cases h)]; exact h,λb ob u h=>by rw [zi (λz=>by rw [z,hD4] at h; cases h)]; exact h⟩
    refine ⟨hD4,Nat.lt_of_le_of_lt rpl (by decide),⟨λb u h=>?_,zg,?_⟩⟩
    ·rw [zi (ne b u h)]
     exact s5 _ _ (s4 _ _ (s13 b u h))
    ·rw [tk,h5.2]
     exact Reps.grow gu _ _ ((Reps.grow (Grow.same (s3.trans (s4.trans s5))) _ _ rp).append (Reps.one rd))
  ·have e:i=ds.length:=by omega
   subst e
   rw [List.take_length] at rp
   refine .inl ⟨I.stop H' _ hP',?_⟩
   exact k (.ref Da) (df (.lst (ds.filterMap f))) H' (s1.trans s2) ⟨Da,rfl,s1.free hDa,R.ofree (s1.free hDa),ys,hD',rp⟩ fin
def wq (hi:EI Γ X tg iter ti) (S:zt X.env.scope scope T F) (hjs:Paired (λx j=>X.N[j]?=some x) F js) (nd:js.Nodup)
  (hg:∀ cl C fp s H,PG (yd X (T ++ F) scope cl C fp s H) tg g2) (hk:bo T.length g2) (hl:Y3 X.K g2 g)
  (ht:∀ cl C fp s H,EIf Γ (yd X (T ++ F) scope cl C fp s H) ifs tc) (he:∀ cl C fp s H,ED Γ (yd X (T ++ F) scope cl C fp s H) elt te)
  (hc:X.calm=true:=by rfl) (hs:∀ x,foldedSetIterable iter X.env x=pure x:=by intro _; rfl):ED Γ X (.ListComp elt [⟨tg,iter,ifs,0⟩] scope pos) (Tu ti T.length js g tc te):=λH₀ =>
 impE (Nb (tc:=jm X.K H₀.1 tc) (te:=v7 X.K H₀.1 te) hc (hi H₀) S hjs hg hk (λcl C fp s H=>ht cl C fp s H H₀) (λcl C fp s H=>he cl C fp s H H₀) hs) (ft nd hl)
def kh (i:Nat) {y:Str} {py spos:Pos} (hN:X.N.Nodup) (hi:EI Γ X tg iter ti) (S:zt X.env.scope scope T F) (hjs:Paired (λx j=>X.N[j]?=some x) F js) (nd:js.Nodup)
  (hg:∀ cl C fp s H,PG (yd X (T ++ F) scope cl C fp s H) tg g2) (hk:bo T.length g2) (hl:Y3 X.K g2 g)
  (ht:∀ cl C fp s H,EIf Γ (yd X (T ++ F) scope cl C fp s H) ifs tc) (he:∀ cl C fp s H,ED Γ (yd X (T ++ F) scope cl C fp s H) elt te)
  (hc:X.calm=true:=by rfl) (hs:∀ x,foldedSetIterable iter X.env x=pure x:=by intro _; rfl) (hy:X.N[i]?=some y:=by rfl) (hlo:X.env.scope.names.lookup y=some .local:=by rfl) (hsw:swapsWith (.ListComp elt [⟨tg,iter,ifs,0⟩] scope pos) (some (.Name y py)) spos.line X.env=pure true:=by rfl):SD Γ X (.Assign [.Name y py] (.ListComp elt [⟨tg,iter,ifs,0⟩] scope pos) spos) (sSet i (Tu ti T.length js g tc te)):=λH₀ =>
 impS (Xs (tc:=jm X.K H₀.1 tc) (te:=v7 X.K H₀.1 te) hc hN hy (.inl hlo) (hi H₀) S hjs hg hk (λcl C fp s H=>ht cl C fp s H H₀) (λcl C fp s H=>he cl C fp s H H₀) hsw hs (.inr hlo)) λD σ H h=>by
  obtain ⟨ρ,o,R,Z,hZ,k1,k2,k3,k4⟩:=h
  refine ft nd hl σ H _ ⟨ρ,o,R,_,hZ,λv r H1 s1 rv h1=>?_⟩
  obtain ⟨o',R',g'⟩:=R.put s1 i rv (wg h1.1)
  exact k1 _ _ H1 o' g' R' h1.2
end
section
variable {X:Cx} {x:Str} {e a b:Expr} {es:List Expr} {t:TDs} {ta tb:TD} {p pos:Pos}
structure Kit (K:W.Frag):Prop where
 ne:∀ q ∈ ([("NoneType", "int"),("NoneType", "bool"),("NoneType", "str"),("NoneType", "tuple"),("NoneType", "list"),("NoneType", "dict"),("bool", "str"),("bool", "tuple"),("bool", "list"),("bool", "dict"),
  ("int", "bool"),("int", "str"),("int", "tuple"),("int", "list"),("int", "dict"),("str", "int"),("str", "bool"),("str", "tuple"),("str", "list"),("str", "dict"),
  ("tuple", "int"),("tuple", "bool"),("tuple", "str"),("tuple", "list"),("tuple", "dict"),("list", "int"),("list", "bool"),("list", "str"),("list", "tuple"),("list", "dict"),
  ("dict", "int"),("dict", "bool"),("dict", "str"),("dict", "tuple"),("dict", "list")]:List (String × String)),W.kitOne K (.type q.1) (.type q.2)=some false
 bi:W.kitOne K (.type "bool") (.type "int")=some true
def Us {K:W.Frag}:Kit K:=by
 constructor
 ·intro q hq
  simp only [List.mem_cons,List.not_mem_nil,or_false] at hq
  rcases hq with rfl | rfl | rfl | rfl | rfl | rfl | rfl | rfl | rfl | rfl | rfl | rfl | rfl | rfl | rfl | rfl | rfl | rfl | rfl | rfl | rfl | rfl | rfl | rfl | rfl | rfl | rfl | rfl | rfl | rfl | rfl | rfl | rfl | rfl | rfl <;> kernel_rfl
 ·kernel_rfl
def Qb {K:W.Frag} {T:String}:W.kitOne K (.type T) (.type T)=some true:=by
 unfold W.kitOne
 rw [if_pos (by simp)]
def S3:bootBuiltins "int" = some (.type "int"):=by decide +kernel
def Wp:bootBuiltins "bool" = some (.type "bool"):=by decide +kernel
def Y0:bootBuiltins "tuple" = some (.type "tuple"):=by decide +kernel
def Wo:bootBuiltins "list" = some (.type "list"):=by decide +kernel
def j8:bootBuiltins "dict" = some (.type "dict"):=by decide +kernel
def x9:bootBuiltins "isinstance" = some (.builtin "isinstance"):=by decide +kernel
def J7 {K:W.Frag} (a T:String) (h:(a,T) ∈ ([("NoneType", "int"),("NoneType", "bool"),("NoneType", "str"),("NoneType", "tuple"),("NoneType", "list"),("NoneType", "dict"),("bool", "str"),("bool", "tuple"),("bool", "list"),("bool", "dict"),
  ("int", "bool"),("int", "str"),("int", "tuple"),("int", "list"),("int", "dict"),("str", "int"),("str", "bool"),("str", "tuple"),("str", "list"),("str", "dict"),
  ("tuple", "int"),("tuple", "bool"),("tuple", "str"),("tuple", "list"),("tuple", "dict"),("list", "int"),("list", "bool"),("list", "str"),("list", "tuple"),("list", "dict"),
  ("dict", "int"),("dict", "bool"),("dict", "str"),("dict", "tuple"),("dict", "list")]:List (String × String))):W.kitOne K (.type a) (.type T)=some false:=Us.ne (a,T) h
def P8:D->String
 | .non=>"NoneType"
 | .bl _=>"bool"
 | .int _=>"int"
 | .str _=>"str"
 | .tup _=>"tuple"
 | .lst _=>"list"
 | .dk _ _=>"dict"
 | .dt _ _=>"dict"
 | .ty _=>"type"
 | .cn _=>"tuple"
 | .scr _=>"list"
 | .dz _=>"exc"
 | .exc _=>"exc"
 | .fd _=>"exc"
 | .ob _ _ _=>"exc"
def Qc:List (String × String):=[("NoneType", "int"),("NoneType", "bool"),("NoneType", "str"),("NoneType", "tuple"),("NoneType", "list"),("NoneType", "dict"),("bool", "str"),("bool", "tuple"),("bool", "list"),("bool", "dict"),
  ("int", "bool"),("int", "str"),("int", "tuple"),("int", "list"),("int", "dict"),("str", "int"),("str", "bool"),("str", "tuple"),("str", "list"),("str", "dict"),
  ("tuple", "int"),("tuple", "bool"),("tuple", "str"),("tuple", "list"),("tuple", "dict"),("list", "int"),("list", "bool"),("list", "str"),("list", "tuple"),("list", "dict"),
  ("dict", "int"),("dict", "bool"),("dict", "str"),("dict", "tuple"),("dict", "list")]
def isN (a T:String):Option Bool:=if a=T then some true else if a = "bool" /\ T = "int" then some true else if (a,T) ∈ Qc then some false else none
def isT (d:D) (T:String):Option Bool:=match d with
 | .ty _=>none
 | .cn _=>none
 | .scr _=>none
 | .dz _=>none
 | .exc _=>none
 | .fd _=>none
 | .ob _ _ _=>none
 | d=>isN (P8 d) T
def M8 {K:W.Frag} {a T:String} {b:Bool} (h:isN a T=some b):W.kitOne K (.type a) (.type T)=some b:=by
 unfold isN at h
 split at h
 ·rename_i q
  cases h
  subst q
  exact Qb
 ·split at h
  ·rename_i q
   cases h
   obtain ⟨rfl,rfl⟩:=q
   exact Us.bi
  ·split at h
   ·rename_i q
    cases h
    exact J7 a T q
   ·cases h
def M6 {K:W.Frag} {d:D} {T:String} {b:Bool} (h:isT d T=some b):W.kitOne K (.type (P8 d)) (.type T)=some b:=by
 cases d with
 | ty _=>cases h
 | cn _=>cases h
 | scr _=>cases h
 | dz _=>cases h
 | exc _=>cases h
 | fd _=>cases h
 | ob _ _ _=>cases h
 | _=>exact M8 h
def Zd:isT .non "int" = some false:=(by decide:isN "NoneType" "int" = some false)
def dg:isT .non "bool" = some false:=(by decide:isN "NoneType" "bool" = some false)
def jt:isT .non "tuple" = some false:=(by decide:isN "NoneType" "tuple" = some false)
def W3 (b:Bool):isT (.bl b) "int" = some true:=(by decide:isN "bool" "int" = some true)
def Zj (b:Bool):isT (.bl b) "bool" = some true:=(by decide:isN "bool" "bool" = some true)
def du (b:Bool):isT (.bl b) "tuple" = some false:=(by decide:isN "bool" "tuple" = some false)
def Zg (i:Int):isT (.int i) "int" = some true:=(by decide:isN "int" "int" = some true)
def dm (i:Int):isT (.int i) "bool" = some false:=(by decide:isN "int" "bool" = some false)
def Zf (i:Int):isT (.int i) "str" = some false:=(by decide:isN "int" "str" = some false)
def jv (i:Int):isT (.int i) "tuple" = some false:=(by decide:isN "int" "tuple" = some false)
def Zc (x:Str):isT (.str x) "int" = some false:=(by decide:isN "str" "int" = some false)
def db (x:Str):isT (.str x) "bool" = some false:=(by decide:isN "str" "bool" = some false)
def Zb (x:Str):isT (.str x) "str" = some true:=(by decide:isN "str" "str" = some true)
def jr (x:Str):isT (.str x) "tuple" = some false:=(by decide:isN "str" "tuple" = some false)
def Za (l:List D):isT (.tup l) "int" = some false:=(by decide:isN "tuple" "int" = some false)
def d9 (l:List D):isT (.tup l) "bool" = some false:=(by decide:isN "tuple" "bool" = some false)
def jq (l:List D):isT (.tup l) "tuple" = some true:=(by decide:isN "tuple" "tuple" = some true)
def d8 (l:List D):isT (.tup l) "list" = some false:=(by decide:isN "tuple" "list" = some false)
def Ze (l:List D):isT (.lst l) "int" = some false:=(by decide:isN "list" "int" = some false)
def di (l:List D):isT (.lst l) "bool" = some false:=(by decide:isN "list" "bool" = some false)
def ju (l:List D):isT (.lst l) "tuple" = some false:=(by decide:isN "list" "tuple" = some false)
def dh (l:List D):isT (.lst l) "list" = some true:=(by decide:isN "list" "list" = some true)
def W2 (k:List Key) (l:List D):isT (.dk k l) "int" = some false:=(by decide:isN "dict" "int" = some false)
def Zi (k:List Key) (l:List D):isT (.dk k l) "bool" = some false:=(by decide:isN "dict" "bool" = some false)
def dq (k:List Key) (l:List D):isT (.dk k l) "tuple" = some false:=(by decide:isN "dict" "tuple" = some false)
def Zh (k:List Key) (l:List D):isT (.dk k l) "dict" = some true:=(by decide:isN "dict" "dict" = some true)
def P4:w5 X (.builtin "isinstance") (λxs H Q=>∃ d x T b,xs=[x,.ty T] /\ Rep X.K H [] d x /\ isT d T=some b /\ Q (.bl b) H):=by
 intro pn s σ H xs us Q I r h
 obtain ⟨d,x,T,b,rfl,rp,e,q⟩:=h
 obtain ⟨u,v,rfl,ru,rv⟩:=Ob r
 cases rv
 have ek:=M6 (K:=X.K) e
 have fin:∀ tk,EP X pn σ Q (.bool b) { s with toks:=tk }:=λtk=>⟨.bl b,H,I.tok tk,rfl,q⟩
 cases d with
 | non=>cases (show x=_ from rp); exact xm I ru .non ek fin
 | bl c=>cases (show x=_ from rp); exact xm I ru (.bl c) ek fin
 | int c=>cases (show x=_ from rp); exact xm I ru (.int c) ek fin
 | str c=>cases (show x=_ from rp); exact xm I ru (.str c) ek fin
 | ty _=>cases e
 | cn _=>cases e
 | scr _=>cases e
 | dz _=>cases e
 | exc _=>cases e
 | fd _=>cases e
 | ob _ _ _=>cases e
 | lst ds=>obtain ⟨a,xs,rfl,q1,_⟩:=rp; exact xm I ru (.lst q1) ek fin
 | dk ks ds=>obtain ⟨a,xs,rfl,q1,_⟩:=rp; exact xm I ru (.dK q1) ek fin
 | dt ks ds=>obtain ⟨a,xs,rfl,q1,_⟩:=rp; exact xm I ru (.dT q1) ek fin
 | tup ds =>
  obtain ⟨a,xs,rfl,q1,_⟩:=rp
  cases (show u=Value.ref a from ru)
  obtain ⟨its,_,p,_⟩:=I.tuple q1.1
  obtain ⟨o,h1,h2,_⟩:=p
  exact W.kia_one W.kitx_tuple I.kIn ⟨o,h1,h2⟩ ek (λz=>nomatch z) fin
def sIsI:FT:=λds φ=>match ds with
 | [d,.ty T]=>match isT d T with
  | some b=>φ (dv (.bl b))
  | none=>False
 | _=>False
def cy (hm:X.mg "isinstance" = none) (ha:EA Γ X (e :: es) t) (hg:Gl X "isinstance":=by rfl) (he:starEach (e :: es) X.env=(false,eval e X.env) :: starEach es X.env:=by rfl) (hpl:(backTo pos (starEach es X.env)).any (·.1)=false:=by rfl):ED Γ X (.Call (.Name "isinstance" p) (e :: es) [] pos) (dCB sIsI t) :=
 wa P4 (λH O ds vs φ Q ho hv h k=>by
  unfold sIsI at h
  split at h
  ·split at h
   ·rename_i d T b eb
    obtain ⟨v,ws,rfl,h1,v2,ws2,rfl,h2,rfl⟩:=hv
    cases (show v2=_ from h2)
    exact ⟨_,v,_,_,rfl,h1.rep0,eb,k _ _ H (Same.refl H) (by exact rfl) h⟩
   ·exact h.elim
  ·exact h.elim) hm x9 ha hg (by decide) (by decide) he hpl
def sTupC:FT:=λds φ=>match ds with
 | [.lst l]=>φ (dv (.tup l))
 | [.tup l]=>φ (dv (.tup l))
 | _=>False
def Th (hm:X.mg "tuple" = none) (ha:EA Γ X (e :: es) t) (hg:Gl X "tuple":=by rfl) (he:starEach (e :: es) X.env=(false,eval e X.env) :: starEach es X.env:=by rfl) (hpl:(backTo pos (starEach es X.env)).any (·.1)=false:=by rfl):ED Γ X (.Call (.Name "tuple" p) (e :: es) [] pos) (dCB sTupC t) :=
 u9 gf (λH O ds vs φ Q ho hv h k=>by
  unfold sTupC at h
  split at h
  ·obtain ⟨v,ws,rfl,⟨a,xs,rfl,q,r⟩,rfl⟩:=hv
   exact ⟨a,xs,rfl,.inl ⟨SqL.of q,λl hl=>k _ _ _ (zo hl _) (fc hl r) h⟩⟩
  ·obtain ⟨v,ws,rfl,⟨a,xs,rfl,q,r⟩,rfl⟩:=hv
   exact ⟨a,xs,rfl,.inr ⟨q.1,k (.ref a) (dv (.tup _)) H (Same.refl H) ⟨a,xs,rfl,q,r⟩ h⟩⟩
  ·exact h.elim) hm Y0 ha hg (by decide) (by decide) he hpl
end
section
variable {X:Cx} {x:Str} {e:Expr} {te:TD} {apos np cpos pos:Pos}
def sApp (i:Nat) (te:TD):TDS:=λρ Z=>match slot ρ i with
 | some ⟨.own,.lst ds⟩=>te ρ λr=>(match r.k with | .own=>False | _=>True) /\ ds.length <= 100000 /\ Z.nx (setS ρ i (dO (.lst (ds ++ [r.d]))))
 | _=>False
def vn (i:Nat) (he:ED Γ X e te) (hN:X.N[i]?=some x:=by rfl) (hv:Vis X.env.scope x:=by first | exact Or.inl rfl | exact Or.inr (Or.inl rfl) | exact Or.inr (Or.inr rfl)) (hd:(x == ("__debug__" : Str))=false:=by decide)
  (hcd:(x == ("__classdict__" : Str))=false:=by decide)
  (hp:∀ {ta tb:TE},PE X (.Name x np) ta->PE X e tb->PS X (.Expr (.Call (.Attribute (.Name x np) "append" apos) [e] [] cpos) pos) (V7 (tBM X.K "list" Vs ta (Li tb tNil))):=by
   intro ta tb h1 h2
   exact uf (Km PySem.F.plainAttrs_list PySem.F.slot_list_append PySem.F.type_list_append fq h1 (xi h2 uq))) :
  SD Γ X (.Expr (.Call (.Attribute (.Name x np) "append" apos) [e] [] cpos) pos) (sApp i te):=λH₀=>impS (hp (wf hN hv hd hcd) (he H₀)) λD σ H h=>by
 obtain ⟨ρ,o,R,Z,hZ,k1,k2,k3,k4⟩:=h
 unfold sApp at hZ
 split at hZ
 ·rename_i ds es
  obtain ⟨v0,ev0,q0⟩:=R.slots i _ (yc es)
  rcases q0 with ⟨k,_⟩ | ⟨_,a,rfl,m,c⟩
  ·cases k
  obtain ⟨xs,hx,rx⟩:=c
  refine ⟨.ref a,ev0,.inl ⟨rfl,xs,SqL.of hx⟩,?_⟩
  refine ⟨ρ,o,R,_,hZ,λv r H1 s1 rv h1=>?_⟩
  obtain ⟨h0,hl,hn⟩:=h1
  have hx1:=s1 _ _ hx
  have R1:=R.to s1
  have rx1:=Reps.grow (Grow.same s1) _ _ rx
  refine ⟨a,xs,v,rfl,rfl,hx1,?_,?_⟩
  ·rw [rx.length]
   exact Nat.lt_of_le_of_lt hl (by decide)
  ·obtain ⟨R2,g2⟩:=R1.chg (d':=.lst (ds ++ [r.d])) (ho:=.lst (xs ++ [v])) (yc es) ev0 m ⟨λ_ z=>(by cases z),λ_ _ z=>(by cases z)⟩ λgr=>⟨xs ++ [v],zg,gr _ _ (rx1.append (Reps.one (rv.solid (wg h0))))⟩
   exact k1 _ σ _ o ((Grow.same s1).trans g2) R2 hn
 ·exact hZ.elim
end
section
variable {P:Program} {w:World} {K:W.Frag} {mg:Str->Option Value} {base:Heap}
def wd (n:Nat) (ds:List D):DE:=ds.map (λd=>some (dv d)) ++ List.replicate (n - ds.length) none
def Pv {x qual:Str} {st:Stmt} {f:Addr} {fd:FuncData} {N ps:List Str} {k:Nat} {T:FT} (F:Fun K x qual st f fd) (S:zj N ps (zb st))
  (qY:∀ (qZ:Value) (A:Around) (outer:List Env) (s:Shared) (H:Hp) (E:XK) (ds:List D) (φ:EV->Prop),Room k (A.deeper (envOfC qual (zb st) s.heap.objs.size f qZ))->ds.length=ps.length->T ds φ ->
   ∃ t,SDs (λ_=>True) (cxOf CX0 P w K mg base N qual (zb st) f qZ A outer s H E).nox (zm st) t /\ t (wd N.length ds) { nx:=λ_=>φ (dv .non),rt:=λr=>xw r /\ φ r }):FnOk P w K mg base CX0 (k + 1) f fd ps (spD K ps.length T):=by
 refine F.ok S (λvs H Q E h=>?_) (λqZ A outer s H vs Q E hr h=>?_)
 ·obtain ⟨ds,φ,hl,r,_⟩:=h
  rw [r.length,hl]
 ·obtain ⟨ds,φ,hl,r,hT,kk⟩:=h
  obtain ⟨t,ht,hq⟩:=qY qZ A outer s H E ds φ hr hl hT
  have rl:=r.length
  refine ⟨Uq K H t,ht ⟨H,trivial⟩,wd N.length ds,[],⟨Same.refl H,(λ_ z=>absurd z (by simp)),(λ_ z=>absurd z (by simp)),(λ_ z=>absurd z (by simp)),List.nodup_nil,λi r' e=>?_,?_⟩,_,hq,λρ' σ' H' o' g R' q=>?_,λ_ _ _ _ _ _ q=>q.elim,λ_ _ _ _ _ _ q=>q.elim,λv r' H' s' rv q=>kk v r' H' s' rv q.1 q.2⟩
  ·unfold wd at e
   rcases Nat.lt_or_ge i ds.length with hi | hi
   ·rw [List.getElem?_append_left (by simpa using hi),List.getElem?_map] at e
    have ed:ds[i]?=some ds[i]:=by simp [hi]
    rw [ed] at e
    have e':some (dv ds[i])=some r':=Option.some.inj e
    cases e'
    obtain ⟨v,ev,rv⟩:=r.get ed
    refine ⟨v,?_,.inl ⟨rfl,rv⟩⟩
    unfold L2.start
    rw [List.getElem?_append_left (by rw [zLm,rl]; exact hi),List.getElem?_map,ev]
    rfl
   ·rw [List.getElem?_append_right (by simpa using hi),List.getElem?_replicate] at e
    split at e <;> cases e
  ·unfold L2.start wd
   simp [rl]
  ·exact kk .non (dv .non) H' R'.same rfl trivial q
def xp {x qual:Str} {st:Stmt} {f:Addr} {fd:FuncData} {N ps:List Str} {k:Nat} {T:FT} (F:Fun K x qual st f fd) (S:zj N ps (zb st)) (b:qo K fd ps []) (m:mg x=some (.ref f))
  (qY:∀ (qZ:Value) (A:Around) (outer:List Env) (s:Shared) (H:Hp) (E:XK) (ds:List D) (φ:EV->Prop),Room k (A.deeper (envOfC qual (zb st) s.heap.objs.size f qZ))->ds.length=ps.length->T ds φ ->
   ∃ t,SDs (λ_=>True) (cxOf CX0 P w K mg base N qual (zb st) f qZ A outer s H E).nox (zm st) t /\ t (wd N.length ds) { nx:=λ_=>φ (dv .non),rt:=λr=>xw r /\ φ r }):FD P w K mg base (k + 1) x ps T:=⟨f,fd,Pv F S qY,b,F.kp,m⟩
end
def lawT:FT:=λds φ=>∃ ns:List Int,ds=[.scr ns] /\ ns.length <= 63 /\ φ (dv (.bl true))
def walkD {l:W.OpenLaw} {q:Program} {loose:List Str} {XP:(Str->Option Value)->Heap->Prop} {YP:World->Heap->Prop} {d:DefRec} {K:Params->W.Frag} {x:Str} {k:Nat} (hn:l.most=some 63) (hdf:d.params.defaults=[]) (hr:Room k callerA)
  (hY:∀ (w:World) (h:Heap),YP w h->(K w.params).In h)
  (F:∀ (w:World) (mg:Str->Option Value) (fa:Addr) (h:Heap),(K w.params).In h->h.Ns mainGlobals mg->mg d.name=some (.ref fa) ->
   ∃ fd:FuncData,(∀ (s:Shared) (u:Value),BindsTo s fd ⟨[u],[]⟩ [(x,u)]) /\ ∀ base:Heap,(K w.params).In base->base.Ns mainGlobals mg->FnOk l.prog w (K w.params) mg base CX0 k fa fd [x] (spD (K w.params) 1 lawT)) :
  W.WalkO q loose XP YP l.row.toRowW d [] (λf vs=>PySem.call f vs) :=
 L2.walk_of (n:=63) (k:=k) (x:=x) (CX:=λ_=>CX0) (sp:=λw=>spD (K w.params) 1 lawT) hn (by decide) hdf hr hY F (λw H a ns hl ho hS=>by
  refine ⟨[.scr ns],λr=>r=dv (.bl true),rfl,⟨.ref a,[],rfl,⟨a,rfl,?_⟩,rfl⟩,⟨ns,rfl,hl,rfl⟩,λv r H' s rv p e=>by subst e; exact rv⟩
  rcases hS with (h | ⟨o,h⟩) | h
  ·rcases ho a with z | ⟨o,xs,z⟩
   ·rw [z] at h; cases h
   ·rw [z] at h; cases h
  ·exact .inl ⟨o,h⟩
  ·exact .inr h) λ_ _ _ _ _ z=>z
end DL
namespace L3
open PySem PySem.Spec PyProof.Rows
section
variable {P:Program} {w:World} {A:Around} {E:Value->Shared->Prop} {s:Shared}
def Xx {it l:Addr} {i:Nat} {xs:Array Value} {x:Value} {Q:Value->Shared->Prop} (hi:s.heap.IsTupleIter it l i) (hl:s.heap.IsTuple l xs) (hx:xs[i]?=some x)
  (hQ:∀ g,g.IsTupleIter it l (i + 1)->Heap.SameBut it s.heap g->Q x { s with heap:=g }):wpAny (model P w) A (Builtin.SmallTypes.nextOf (.ref it)) Q E s:=by
 obtain ⟨o,ho,hc,hd⟩:=id hi
 obtain ⟨ol,hol,_,nl,hdl⟩:=hl
 unfold Builtin.SmallTypes.nextOf
 refine wpAny_bind (wpAny_callSpecial?_slot (name:=Str.ofString "__next__") hi.typeIs F.slot_tuple_iterator_next (wpAny_call_entry F.slot_tuple_iterator_next hi.typeIs F.entry_tuple_iterator_next ?_ (F.args_tuple_iterator_next_1 _)))
 show wpAny _ _ (field (.ref it) 0 >>= _) _ _ s
 refine wpAny_bind (wpAny_field ho hd (x:=.ref l) rfl ?_)
 show wpAny _ _ (if (Value.ref l == Value.none)=true then _ else _) _ _ s
 rw [if_neg (show ¬ ((Value.ref l == Value.none)=true) from Bool.false_ne_true)]
 show wpAny _ _ (field (.ref it) 1 >>= _) _ _ s
 refine wpAny_bind (wpAny_field ho hd (x:=.int i 0) rfl ?_)
 show wpAny _ _ (seqItems? (.ref l) >>= _) _ _ s
 refine wpAny_bind (wpAny_seqItems hol hdl ?_)
 simp only [Int.toNat_natCast,hx]
 refine wpAny_bind (wpAny_setField ho hd (by simp) (wpAny_pure ⟨x,rfl,wpAny_pure (hQ _ ⟨_,Heap.get?_update_self _ ho (Obj.isFreed_of_fields (Obj.data_mapFields hd _)),(Obj.cls_mapFields ..).trans hc,?_⟩ (Heap.SameBut.update ..))⟩))
 rw [Obj.data_mapFields hd]
 simp [rawInt]
def Ub {it l:Addr} {i:Nat} {xs:Array Value} {Q:Value->Shared->Prop} (hh:A.handled=none) (hi:s.heap.IsTupleIter it l i) (hl:s.heap.IsTuple l xs) (hx:xs[i]?=none)
  (hE:∀ g e,Heap.ExtBut it s.heap g->(∃ o,g.get? e=some o /\ o.cls=.type "StopIteration")->E (.ref e) { s with heap:=g }):wpAny (model P w) A (Builtin.SmallTypes.nextOf (.ref it)) Q E s:=by
 obtain ⟨o,ho,hc,hd⟩:=id hi
 obtain ⟨ol,hol,_,nl,hdl⟩:=hl
 unfold Builtin.SmallTypes.nextOf
 refine wpAny_bind (wpAny_callSpecial?_slot (name:=Str.ofString "__next__") hi.typeIs F.slot_tuple_iterator_next (wpAny_call_entry F.slot_tuple_iterator_next hi.typeIs F.entry_tuple_iterator_next ?_ (F.args_tuple_iterator_next_1 _)))
 show wpAny _ _ (field (.ref it) 0 >>= _) _ _ s
 refine wpAny_bind (wpAny_field ho hd (x:=.ref l) rfl ?_)
 show wpAny _ _ (if (Value.ref l == Value.none)=true then _ else _) _ _ s
 rw [if_neg (show ¬ ((Value.ref l == Value.none)=true) from Bool.false_ne_true)]
 show wpAny _ _ (field (.ref it) 1 >>= _) _ _ s
 refine wpAny_bind (wpAny_field ho hd (x:=.int i 0) rfl ?_)
 show wpAny _ _ (seqItems? (.ref l) >>= _) _ _ s
 refine wpAny_bind (wpAny_seqItems hol hdl ?_)
 simp only [Int.toNat_natCast,hx]
 refine wpAny_bind (wpAny_rule (wpAny_bind (wpAny_setField ho hd (by simp) ?_)))
 show wpAny _ _ (newExc (.type "StopIteration") [] >>= _) _ _ _
 refine wpAny_bind ?_
 simp only [newExc,newTuple]
 refine wpAny_bind (wpAny_newObj_type ?_ (by size_fits))
 refine wpAny_bind (m:=firstArgMember _ _) (wpAny_of_eq (a:=Value.none) (by first | rfl | (simp only [firstArgMember]; rfl)) ?_)
 refine wpAny_newObj_type ?_ (by size_fits)
 simp only [raiseNew]
 refine wpAny_bind (wpAny_handled ?_)
 first | rw [show A.in1.handled=none from hh] | rw [hh]
 exact wpAny_bind (wpAny_pure (wpAny_throw (hE _ _ (((Heap.SameBut.update ..).extBut.push _).push _) ⟨_,Heap.get?_push_size _ rfl,rfl⟩)))
def SqAt (b:Bool) (h:Heap) (l:Addr) (xs:Array Value):Prop:=match b with
 | true=>h.IsTuple l xs
 | false=>h.IsList l xs
def ItAt (b:Bool) (h:Heap) (it l:Addr) (i:Nat):Prop:=match b with
 | true=>h.IsTupleIter it l i
 | false=>h.IsListIter it l i
def SqAt.at {b:Bool} {h g:Heap} {l:Addr} {xs:Array Value} (x:SqAt b h l xs) (k:∀ o,h.get? l=some o->g.get? l=some o):SqAt b g l xs:=by
 cases b with
 | true=>exact Heap.IsTuple.at (show h.IsTuple l xs from x) k
 | false=>exact Heap.IsList.at (show h.IsList l xs from x) k
def ItAt.at {b:Bool} {h g:Heap} {it l:Addr} {i:Nat} (x:ItAt b h it l i) (k:∀ o,h.get? it=some o->g.get? it=some o):ItAt b g it l i:=by
 cases b with
 | true=>exact Heap.IsTupleIter.at (show h.IsTupleIter it l i from x) k
 | false=>exact Heap.IsListIter.at (show h.IsListIter it l i from x) k
def uh {b:Bool} {it l:Addr} {i:Nat} {xs:Array Value} {x:Value} {Q:Value->Shared->Prop} (hi:ItAt b s.heap it l i) (hl:SqAt b s.heap l xs) (hx:xs[i]?=some x)
  (hQ:∀ g,ItAt b g it l (i + 1)->Heap.SameBut it s.heap g->Q x { s with heap:=g }):wpAny (model P w) A (Builtin.SmallTypes.nextOf (.ref it)) Q E s:=by
 cases b with
 | true=>exact Xx hi hl hx hQ
 | false=>exact wpAny_nextOf_list_item hi hl hx hQ
def fo {b:Bool} {it l:Addr} {i:Nat} {xs:Array Value} {Q:Value->Shared->Prop} (hh:A.handled=none) (hi:ItAt b s.heap it l i) (hl:SqAt b s.heap l xs) (hx:xs[i]?=none)
  (hE:∀ g e,Heap.ExtBut it s.heap g->(∃ o,g.get? e=some o /\ o.cls=.type "StopIteration")->E (.ref e) { s with heap:=g }):wpAny (model P w) A (Builtin.SmallTypes.nextOf (.ref it)) Q E s:=by
 cases b with
 | true=>exact Ub hh hi hl hx hE
 | false=>exact wpAny_nextOf_list_end hh hi hl hx hE
structure ZAt (b1 b2:Bool) (g:Heap) (z ti to i1 i2 l1 l2:Addr) (f:Value) (k:Nat):Prop where
 zz:IsZip g z ti to f
 its:IsPair g ti (.ref i1) (.ref i2)
 out:∃ a b,IsPair g to a b
 one:ItAt b1 g i1 l1 k
 two:ItAt b2 g i2 l2 k
structure ZNe (z ti to i1 i2:Addr):Prop where
 ab:ti ≠ z
 ac:to ≠ z
 ad:i1 ≠ z
 ae:i2 ≠ z
 bc:ti ≠ to
 bd:ti ≠ i1
 be:ti ≠ i2
 cd:to ≠ i1
 ce:to ≠ i2
 de:i1 ≠ i2
def ZOff (z to i1 i2 c:Addr):Prop:=c ≠ z /\ c ≠ to /\ c ≠ i1 /\ c ≠ i2
def Se {b1 b2:Bool} {z ti to i1 i2 l1 l2:Addr} {k:Nat} {xs ys:Array Value} {x y:Value} {Q:Value->Shared->Prop} (D:ZNe z ti to i1 i2) (d1:ZOff z to i1 i2 l1) (d2:ZOff z to i1 i2 l2) (Z:ZAt b1 b2 s.heap z ti to i1 i2 l1 l2 .none k)
  (t1:SqAt b1 s.heap l1 xs) (t2:SqAt b2 s.heap l2 ys) (hx:xs[k]?=some x) (hy:ys[k]?=some y)
  (hQ:∀ g,ZAt b1 b2 g z ti to i1 i2 l1 l2 (rawInt s.heap.objs.size) (k + 1)->IsPair g s.heap.objs.size x y->(∀ c o,ZOff z to i1 i2 c->s.heap.get? c=some o->g.get? c=some o)->Q (.ref s.heap.objs.size) { s with heap:=g }) :
  wpAny (model P w) A (Builtin.«zip.__next__» ⟨[.ref z],[]⟩) (λfin s'=>∃ v,fin=.done (.ret v) /\ Q v s') E s:=by
 obtain ⟨hz,hti,⟨a,b,hto⟩,h1,h2⟩:=Z
 show wpAny _ _ (field (.ref z) 2 >>= _) _ _ _
 refine wpAny_bind (wpAny_field hz rfl (x:=.bool false) rfl ?_)
 show wpAny _ _ (field (.ref z) 3 >>= _) _ _ _
 refine wpAny_bind (wpAny_field hz rfl (x:=.ref ti) rfl ?_)
 refine wpAny_bind (wpAny_seqItems hti rfl ?_)
 show wpAny _ _ (Builtin.SmallTypes.ownedTupleIsFree (.ref z) >>= _) _ _ _
 refine wpAny_bind ?_
 unfold Builtin.SmallTypes.ownedTupleIsFree
 refine wpAny_bind (wpAny_field hz rfl (x:=.none) rfl (wpAny_pure ?_))
 simp only [if_true]
 refine wpAny_bind (wpAny_rule ?_)
 refine wpAny_bind (wpAny_field hz rfl (x:=.ref to) rfl ?_)
 refine wpAny_bind (wpAny_setField_rec hz (by simp) λg1 z1 s1=>?_)
 replace z1:IsZip g1 z ti to .ellipsis:=z1
 refine wpAny_bind ?_
 simp only [List.zipIdx_cons,List.zipIdx_nil,List.forIn_cons,List.forIn_nil]
 refine wpAny_bind (wpAny_bind (wpAny_onRaise ?_))
 show wpAny _ _ (Builtin.SmallTypes.nextOf (.ref i1) >>= _) _ _ _
 refine wpAny_bind (uh (h1.at λo e=>s1.extBut _ o D.ad e) (t1.at λo e=>s1.extBut _ o d1.1 e) hx λg2 p2 s2=>wpAny_pure ?_)
 have to2:IsPair g2 to a b:=s2.extBut _ _ D.cd (s1.extBut _ _ D.ac hto)
 refine wpAny_bind (wpAny_seqItems to2 rfl (wpAny_bind (wpAny_updateSeq_pair to2 λg3 to3 s3=>?_)))
 replace to3:IsPair g3 to x b:=to3
 refine wpAny_bind (wpAny_letGo (wpAny_pure (wpAny_bind (wpAny_bind (wpAny_onRaise ?_)))))
 show wpAny _ _ (Builtin.SmallTypes.nextOf (.ref i2) >>= _) _ _ _
 refine wpAny_bind (uh (h2.at λo e=>s3.extBut _ o D.ce.symm (s2.extBut _ o D.de.symm (s1.extBut _ o D.ae e))) (t2.at λo e=>s3.extBut _ o d2.2.1 (s2.extBut _ o d2.2.2.1 (s1.extBut _ o d2.1 e))) hy λg4 p4 s4=>wpAny_pure ?_)
 have to4:IsPair g4 to x b:=s4.extBut _ _ D.ce to3
 refine wpAny_bind (wpAny_seqItems to4 rfl (wpAny_bind (wpAny_updateSeq_pair to4 λg5 to5 s5=>?_)))
 replace to5:IsPair g5 to x y:=to5
 refine wpAny_bind (wpAny_letGo (wpAny_pure (wpAny_pure (wpAny_bind (wpAny_seqItems to5 rfl (wpAny_bind (wpAny_newTuple ?_)))))))
 have sz:g5.objs.size=s.heap.objs.size:=by rw [s5.1,s4.1,s3.1,s2.1,s1.1]
 have z5:IsZip g5 z ti to .ellipsis:=s5.extBut _ _ D.ac.symm (s4.extBut _ _ D.ae.symm (s3.extBut _ _ D.ac.symm (s2.extBut _ _ D.ad.symm z1)))
 have kp5:∀ c o,ZOff z to i1 i2 c->s.heap.get? c=some o->g5.get? c=some o:=λc o q e=>s5.extBut _ _ q.2.1 (s4.extBut _ _ q.2.2.2 (s3.extBut _ _ q.2.1 (s2.extBut _ _ q.2.2.1 (s1.extBut _ _ q.1 e))))
 have q1:ItAt b1 g5 i1 l1 (k + 1):=p2.at λo e=>s5.extBut _ o D.cd.symm (s4.extBut _ o D.de (s3.extBut _ o D.cd.symm e))
 have q2:ItAt b2 g5 i2 l2 (k + 1):=p4.at λo e=>s5.extBut _ o D.ce.symm e
 have lz:z < g5.objs.size:=Heap.lt_size z5
 show wpAny _ _ (Builtin.SmallTypes.ownedTupleHandOut (.ref z) (.ref g5.objs.size) >>= _) _ _ _
 refine wpAny_bind ?_
 unfold Builtin.SmallTypes.ownedTupleHandOut
 have z6:IsZip (g5.push { cls:=.type "tuple", data:=.seq #[x,y] }) z ti to .ellipsis:=Heap.get?_push_of_some _ z5
 refine wpAny_bind (wpAny_setField_rec z6 (by simp) λg7 z7 s7=>?_)
 replace z7:IsZip g7 z ti to (rawInt g5.objs.size):=z7
 refine wpAny_setField_rec z7 (by simp) λg8 z8 s8=>?_
 replace z8:IsZip g8 z ti to (rawInt g5.objs.size):=z8
 have up:∀ c o,c ≠ z->g5.get? c=some o->g8.get? c=some o:=λc o c1 e=>s8.extBut _ _ c1 (s7.extBut _ _ c1 (Heap.get?_push_of_some _ e))
 have pr:IsPair g8 g5.objs.size x y:=s8.extBut _ _ (Nat.ne_of_gt lz) (s7.extBut _ _ (Nat.ne_of_gt lz) (Heap.get?_push_size _ rfl))
 rw [sz] at z8 pr
 refine wpAny_pure ⟨_,rfl,?_⟩
 show Q (.ref g5.objs.size) _
 rw [sz]
 exact hQ g8 ⟨z8,up _ _ D.ab (kp5 _ _ ⟨D.ab,D.bc,D.bd,D.be⟩ hti),⟨_,_,up _ _ D.ac to5⟩,q1.at λo e=>up _ o D.ad e,q2.at λo e=>up _ o D.ae e⟩ pr λc o q e=>up c o q.1 (kp5 c o q e)
def O7 {b1 b2:Bool} {z ti to i1 i2 l1 l2:Addr} {k:Nat} {xs ys:Array Value} {Q:Fin->Shared->Prop} (hh:A.handled=none) (D:ZNe z ti to i1 i2) (d1:ZOff z to i1 i2 l1) (d2:ZOff z to i1 i2 l2) (Z:ZAt b1 b2 s.heap z ti to i1 i2 l1 l2 .none k)
  (t1:SqAt b1 s.heap l1 xs) (t2:SqAt b2 s.heap l2 ys) (hend:xs[k]?=none \/ ys[k]?=none)
  (hE:∀ g e,(∀ c o,ZOff z to i1 i2 c->s.heap.get? c=some o->g.get? c=some o)->(∃ o,g.get? e=some o /\ o.cls=.type "StopIteration")->E (.ref e) { s with heap:=g }) :
  wpAny (model P w) A (Builtin.«zip.__next__» ⟨[.ref z],[]⟩) Q E s:=by
 obtain ⟨hz,hti,⟨a,b,hto⟩,h1,h2⟩:=Z
 show wpAny _ _ (field (.ref z) 2 >>= _) _ _ _
 refine wpAny_bind (wpAny_field hz rfl (x:=.bool false) rfl ?_)
 show wpAny _ _ (field (.ref z) 3 >>= _) _ _ _
 refine wpAny_bind (wpAny_field hz rfl (x:=.ref ti) rfl ?_)
 refine wpAny_bind (wpAny_seqItems hti rfl ?_)
 show wpAny _ _ (Builtin.SmallTypes.ownedTupleIsFree (.ref z) >>= _) _ _ _
 refine wpAny_bind ?_
 unfold Builtin.SmallTypes.ownedTupleIsFree
 refine wpAny_bind (wpAny_field hz rfl (x:=.none) rfl (wpAny_pure ?_))
 simp only [if_true]
 refine wpAny_bind (wpAny_rule ?_)
 refine wpAny_bind (wpAny_field hz rfl (x:=.ref to) rfl ?_)
 refine wpAny_bind (wpAny_setField_rec hz (by simp) λg1 z1 s1=>?_)
 replace z1:IsZip g1 z ti to .ellipsis:=z1
 refine wpAny_bind ?_
 simp only [List.zipIdx_cons,List.zipIdx_nil,List.forIn_cons,List.forIn_nil]
 refine wpAny_bind (wpAny_bind (wpAny_onRaise ?_))
 show wpAny _ _ (Builtin.SmallTypes.nextOf (.ref i1) >>= _) _ _ _
 cases hx:xs[k]? with
 | none =>
  refine wpAny_bind (fo hh (h1.at λo e=>s1.extBut _ o D.ad e) (t1.at λo e=>s1.extBut _ o d1.1 e) hx λg2 e s2 he=>?_)
  obtain ⟨oe,hoe,hce⟩:=he
  have z2:IsZip g2 z ti to .ellipsis:=s2 _ _ D.ad.symm z1
  have ez:e ≠ z:=λx=>by subst x; rw [z2] at hoe; cases hoe; simp at hce
  exact wpAny_setField_rec z2 (by simp) λg3 _ s3=>hE g3 e (λc o q x=>s3.extBut _ _ q.1 (s2 _ _ q.2.2.1 (s1.extBut _ _ q.1 x))) ⟨oe,s3.extBut _ _ ez hoe,hce⟩
 | some x =>
  have hy:ys[k]?=none:=by rcases hend with h | h; rw [hx] at h; cases h; exact h
  refine wpAny_bind (uh (h1.at λo e=>s1.extBut _ o D.ad e) (t1.at λo e=>s1.extBut _ o d1.1 e) hx λg2 p2 s2=>wpAny_pure ?_)
  have to2:IsPair g2 to a b:=s2.extBut _ _ D.cd (s1.extBut _ _ D.ac hto)
  refine wpAny_bind (wpAny_seqItems to2 rfl (wpAny_bind (wpAny_updateSeq_pair to2 λg3 to3 s3=>?_)))
  refine wpAny_bind (wpAny_letGo (wpAny_pure (wpAny_bind (wpAny_bind (wpAny_onRaise ?_)))))
  show wpAny _ _ (Builtin.SmallTypes.nextOf (.ref i2) >>= _) _ _ _
  refine wpAny_bind (fo hh (h2.at λo e=>s3.extBut _ o D.ce.symm (s2.extBut _ o D.de.symm (s1.extBut _ o D.ae e))) (t2.at λo e=>s3.extBut _ o d2.2.1 (s2.extBut _ o d2.2.2.1 (s1.extBut _ o d2.1 e))) hy λg4 e s4 he=>?_)
  obtain ⟨oe,hoe,hce⟩:=he
  have z4:IsZip g4 z ti to .ellipsis:=s4 _ _ D.ae.symm (s3.extBut _ _ D.ac.symm (s2.extBut _ _ D.ad.symm z1))
  have ez:e ≠ z:=λx=>by subst x; rw [z4] at hoe; cases hoe; simp at hce
  exact wpAny_setField_rec z4 (by simp) λg5 _ s5=>hE g5 e (λc o q x=>s5.extBut _ _ q.1 (s4 _ _ q.2.2.2 (s3.extBut _ _ q.2.1 (s2.extBut _ _ q.2.2.1 (s1.extBut _ _ q.1 x))))) ⟨oe,s5.extBut _ _ ez hoe,hce⟩
def Ua {b1 b2:Bool} {z ti to i1 i2 l1 l2:Addr} {k:Nat} {xs ys:Array Value} {x y:Value} {Q:Option Value->Shared->Prop} (D:ZNe z ti to i1 i2) (d1:ZOff z to i1 i2 l1) (d2:ZOff z to i1 i2 l2) (Z:ZAt b1 b2 s.heap z ti to i1 i2 l1 l2 .none k)
  (t1:SqAt b1 s.heap l1 xs) (t2:SqAt b2 s.heap l2 ys) (hx:xs[k]?=some x) (hy:ys[k]?=some y)
  (hQ:∀ g,ZAt b1 b2 g z ti to i1 i2 l1 l2 (rawInt s.heap.objs.size) (k + 1)->IsPair g s.heap.objs.size x y->(∀ c o,ZOff z to i1 i2 c->s.heap.get? c=some o->g.get? c=some o)->Q (some (.ref s.heap.objs.size)) { s with heap:=g }) :
  wpAny (model P w) A (pyNext (.ref z)) Q E s:=by
 have ty:s.TypeIs (.ref z) "zip":=⟨_,Z.zz,rfl⟩
 unfold pyNext
 exact wpAny_bind (wpAny_attempt (wpAny_callSpecial?_slot (name:=Str.ofString "__next__") ty F.slot_zip_next (wpAny_call_entry F.slot_zip_next ty F.entry_zip_next (Se D d1 d2 Z t1 t2 hx hy λg a b c=>wpAny_pure (hQ g a b c)) (F.args_zip_next_1 _))))
def Rw {b1 b2:Bool} {z ti to i1 i2 l1 l2:Addr} {k:Nat} {xs ys:Array Value} {Q:Option Value->Shared->Prop} (hh:A.handled=none) (D:ZNe z ti to i1 i2) (d1:ZOff z to i1 i2 l1) (d2:ZOff z to i1 i2 l2) (Z:ZAt b1 b2 s.heap z ti to i1 i2 l1 l2 .none k)
  (t1:SqAt b1 s.heap l1 xs) (t2:SqAt b2 s.heap l2 ys) (hend:xs[k]?=none \/ ys[k]?=none)
  (hQ:∀ g,(∀ c o,ZOff z to i1 i2 c->s.heap.get? c=some o->g.get? c=some o)->Q none { s with heap:=g }):wpAny (model P w) A (pyNext (.ref z)) Q E s:=by
 have ty:s.TypeIs (.ref z) "zip":=⟨_,Z.zz,rfl⟩
 unfold pyNext
 refine wpAny_bind (wpAny_attempt (wpAny_callSpecial?_slot (name:=Str.ofString "__next__") ty F.slot_zip_next (wpAny_call_entry F.slot_zip_next ty F.entry_zip_next (O7 hh D d1 d2 Z t1 t2 hend λg e kp he=>?_) (F.args_zip_next_1 _))))
 obtain ⟨o,ho,hc⟩:=he
 refine wpAny_bind (wpAny_isInstance (T:="StopIteration") (b:=true) ⟨o,ho,hc⟩ isSubtype_stop ?_)
 exact wpAny_pure (hQ _ kp)
def Ps (b:Bool):String:=match b with
 | true=>"tuple_iterator"
 | false=>"list_iterator"
abbrev zh1 (b1:Bool) (h:Heap) (l1:Addr):Heap:=h.push { cls:=.type (Ps b1),data:=.fields #[.ref l1,.int 0 0] }
abbrev zh2 (b1 b2:Bool) (h:Heap) (l1 l2:Addr):Heap:=(zh1 b1 h l1).push { cls:=.type (Ps b2),data:=.fields #[.ref l2,.int 0 0] }
abbrev zh3 (b1 b2:Bool) (h:Heap) (l1 l2:Addr):Heap:=(zh2 b1 b2 h l1 l2).push { cls:=.type "tuple", data:=.seq #[.ref h.objs.size,.ref (zh1 b1 h l1).objs.size] }
abbrev zh4 (b1 b2:Bool) (h:Heap) (l1 l2:Addr):Heap:=(zh3 b1 b2 h l1 l2).push { cls:=.type "tuple", data:=.seq #[.none,.none] }
abbrev zh5 (b1 b2:Bool) (h:Heap) (l1 l2:Addr):Heap:=(zh4 b1 b2 h l1 l2).push { cls:=.type "zip", data:=.fields #[.none,.bool false,.bool false,.ref (zh2 b1 b2 h l1 l2).objs.size,.ref (zh3 b1 b2 h l1 l2).objs.size] }
def O6 (b1 b2:Bool) (l1 l2:Addr) (xs ys:Array Value) :
  Meets (Builtin.«zip.__new__» ⟨[.type "zip", .ref l1,.ref l2],[]⟩) (λ_ R s=>SqAt b1 s.heap l1 xs /\ SqAt b2 s.heap l2 ys /\ R (.ok (.ret (.ref (zh4 b1 b2 s.heap l1 l2).objs.size))) { s with heap:=zh5 b1 b2 s.heap l1 l2 }) :=
 .of_wp λprog w A R s h=>by
  obtain ⟨hp,g,d,tk,os⟩:=s
  obtain ⟨a1,a2,h⟩:=h
  have hsub:=sub_zip
  cases b1 <;> cases b2
  ·have b1:Heap.IsList (Shared.heap ⟨hp,g,d,tk,os⟩) l1 xs:=a1
   have b2:Heap.IsList (Shared.heap ⟨hp.push { cls:=.type "list_iterator", data:=.fields #[.ref l1,.int 0 0] },g,d,tk,os⟩) l2 ys:=Heap.IsList.push a2 _
   wp_walk using wpAny_pyIter_list b1,wpAny_pyIter_list b2
   exact ⟨_,rfl,h⟩
  ·have b1:Heap.IsList (Shared.heap ⟨hp,g,d,tk,os⟩) l1 xs:=a1
   have b2:Heap.IsTuple (Shared.heap ⟨hp.push { cls:=.type "list_iterator", data:=.fields #[.ref l1,.int 0 0] },g,d,tk,os⟩) l2 ys:=Heap.IsTuple.push a2 _
   wp_walk using wpAny_pyIter_list b1,wpAny_pyIter_tuple b2
   exact ⟨_,rfl,h⟩
  ·have b1:Heap.IsTuple (Shared.heap ⟨hp,g,d,tk,os⟩) l1 xs:=a1
   have b2:Heap.IsList (Shared.heap ⟨hp.push { cls:=.type "tuple_iterator", data:=.fields #[.ref l1,.int 0 0] },g,d,tk,os⟩) l2 ys:=Heap.IsList.push a2 _
   wp_walk using wpAny_pyIter_tuple b1,wpAny_pyIter_list b2
   exact ⟨_,rfl,h⟩
  ·have b1:Heap.IsTuple (Shared.heap ⟨hp,g,d,tk,os⟩) l1 xs:=a1
   have b2:Heap.IsTuple (Shared.heap ⟨hp.push { cls:=.type "tuple_iterator", data:=.fields #[.ref l1,.int 0 0] },g,d,tk,os⟩) l2 ys:=Heap.IsTuple.push a2 _
   wp_walk using wpAny_pyIter_tuple b1,wpAny_pyIter_tuple b2
   exact ⟨_,rfl,h⟩
def Sf {b1 b2:Bool} {l1 l2:Addr} {xs ys:Array Value} {Q:Value->Shared->Prop} (t1:SqAt b1 s.heap l1 xs) (t2:SqAt b2 s.heap l2 ys)
  (h:∀ g,ZAt b1 b2 g (s.heap.objs.size + 4) (s.heap.objs.size + 2) (s.heap.objs.size + 3) s.heap.objs.size (s.heap.objs.size + 1) l1 l2 .none 0->(∀ c o,s.heap.get? c=some o->g.get? c=some o)->Q (.ref (s.heap.objs.size + 4)) { s with heap:=g }) :
  wpAny (model P w) A (call (.type "zip") [.ref l1,.ref l2]) Q E s:=by
 refine callType_new F.called_zip (by decide) (F.typeCall_zip_2 _ _) (F.newCall_zip_2 _ _) (λobj=>F.args_object_init_3 obj _ _) F.entry_zip_new (O6 b1 b2 l1 l2 xs ys) ⟨t1,t2,?_⟩
 have n1:(zh1 b1 s.heap l1).objs.size=s.heap.objs.size + 1:=Heap.size_push ..
 have n2:(zh2 b1 b2 s.heap l1 l2).objs.size=s.heap.objs.size + 2:=by rw [Heap.size_push,n1]
 have n3:(zh3 b1 b2 s.heap l1 l2).objs.size=s.heap.objs.size + 3:=by rw [Heap.size_push,n2]
 have n4:(zh4 b1 b2 s.heap l1 l2).objs.size=s.heap.objs.size + 4:=by rw [Heap.size_push,n3]
 have g5:(zh5 b1 b2 s.heap l1 l2).get? (zh4 b1 b2 s.heap l1 l2).objs.size=some _:=Heap.get?_push_size _ rfl
 have g4:(zh5 b1 b2 s.heap l1 l2).get? (zh3 b1 b2 s.heap l1 l2).objs.size=some _:=Heap.get?_push_of_some _ (Heap.get?_push_size _ rfl)
 have g3:(zh5 b1 b2 s.heap l1 l2).get? (zh2 b1 b2 s.heap l1 l2).objs.size=some _:=Heap.get?_push_of_some _ (Heap.get?_push_of_some _ (Heap.get?_push_size _ rfl))
 have g2:(zh5 b1 b2 s.heap l1 l2).get? (zh1 b1 s.heap l1).objs.size=some _:=Heap.get?_push_of_some _ (Heap.get?_push_of_some _ (Heap.get?_push_of_some _ (Heap.get?_push_size _ rfl)))
 have g1:(zh5 b1 b2 s.heap l1 l2).get? s.heap.objs.size=some _:=Heap.get?_push_of_some _ (Heap.get?_push_of_some _ (Heap.get?_push_of_some _ (Heap.get?_push_of_some _ (Heap.get?_push_size _ rfl))))
 show _ /\ _
 rw [n2,n3,n4] at g5
 rw [n1,n2] at g3
 rw [n3] at g4
 rw [n1] at g2
 rw [n4]
 exact ⟨⟨_,g5,rfl⟩,h _ ⟨g5,g3,⟨_,_,g4⟩,(by cases b1 <;> exact ⟨_,g1,rfl,rfl⟩),(by cases b2 <;> exact ⟨_,g2,rfl,rfl⟩)⟩ λc o e=>Heap.get?_push_of_some _ (Heap.get?_push_of_some _ (Heap.get?_push_of_some _ (Heap.get?_push_of_some _ (Heap.get?_push_of_some _ e))))⟩
end
end L3
namespace L3
open PySem PySem.Spec L2
open PyProof.Rows hiding St
def ItAt.there {b:Bool} {h:Heap} {it l:Addr} {i:Nat} (x:ItAt b h it l i):∃ o,h.get? it=some o /\ ∀ v,o.data ≠ .cell v:=by
 cases b with
 | true =>
  obtain ⟨o,e,c,d⟩:=(show h.IsTupleIter it l i from x)
  exact ⟨o,e,λv q=>by rw [d] at q; cases q⟩
 | false =>
  obtain ⟨o,e,c,d⟩:=(show h.IsListIter it l i from x)
  exact ⟨o,e,λv q=>by rw [d] at q; cases q⟩
def SqK (b:Bool) (K:W.Frag) (H:Hp) (l:Addr) (xs:List V):Prop:=match b with
 | true=>SqT K H l xs
 | false=>SqL K H l xs
def Xi {b:Bool} {X:Cx} {pn:List (Addr × Obj)} {σ:St} {H:Hp} {s:Shared} {l:Addr} {xs:List V} (I:Inv X pn σ H s) (h:SqK b X.K H l xs):∃ its,Vals xs its /\ SqAt b s.heap l its.toArray:=by
 cases b with
 | true =>
  obtain ⟨its,r,p,_⟩:=I.tuple h
  exact ⟨its,r,(show s.heap.IsTuple l its.toArray from p)⟩
 | false =>
  obtain ⟨its,r,p,_⟩:=I.list h
  exact ⟨its,r,p.isList⟩
def Pb {b:Bool} {X:Cx} {pn:List (Addr × Obj)} {σ:St} {H:Hp} {s:Shared} {l:Addr} {xs ys:List V} (I:Inv X pn σ H s) (h:SqK b X.K H l xs) (h':SqK b X.K H l ys):xs=ys:=by
 cases b with
 | true=>exact I.tuple_inj h h'
 | false=>exact I.list_inj h h'
def xb {b:Bool} {X:Cx} {pn:List (Addr × Obj)} {σ:St} {H:Hp} {s:Shared} {l c:Addr} {xs:List V} (I:Inv X pn σ H s) (h:SqK b X.K H l xs) (f:FpOk X pn H c):l ≠ c:=by
 have kc:∀ {o:Obj},X.K.lookup l=some o->l ≠ c:=λ{o} lk z=>by
  subst z
  have e:=I.ok.mod.kin _ _ lk
  rcases f.2.2.2.1 with q | q
  ·exact I.ok.noex _ _ e q
  ·exact absurd (Nat.lt_of_lt_of_le (Heap.lt_size e) I.ok.bsz) (Nat.not_lt.mpr q)
 cases b with
 | true =>
  rcases h with (h | ⟨o,h⟩) | ⟨o,its,n,lk,_⟩
  ·exact zf h f.1
  ·exact zf h f.1
  ·exact kc lk
 | false =>
  rcases h with (h | ⟨o,h⟩) | ⟨o,its,n,lk,_⟩
  ·exact zf h f.1
  ·exact zf h f.1
  ·exact kc lk
def Itz (b1 b2:Bool) (K:W.Frag) (l1 l2:Addr):It :=
 ⟨λi H=>∃ xs ys x y,SqK b1 K H l1 xs /\ SqK b2 K H l2 ys /\ xs[i]?=some x /\ ys[i]?=some y,
  λi H v H'=>∃ T x y,H T=none /\ v=.ref T /\ (∀ xs,SqK b1 K H l1 xs->xs[i]?=some x) /\ (∀ ys,SqK b2 K H l2 ys->ys[i]?=some y) /\ H'=upd H T (.tup [x,y]),
  λi H=>∃ xs ys,SqK b1 K H l1 xs /\ SqK b2 K H l2 ys /\ (xs.length <= i \/ ys.length <= i)⟩
def Sn {P:Program} {w:World} {K:W.Frag} {es:List Expr} {kk:Nat} {tp:Pos} {b1 b2:Bool} {z ti to i1 i2 l1 l2:Addr} (D:ZNe z ti to i1 i2) :
  Turn P w K (.Tuple es kk tp) (Itz b1 b2 K l1 l2) [z,ti,to,i1,i2] z (λi h=>ZAt b1 b2 h z ti to i1 i2 l1 l2 .none i) where
 mem:=by simp
 obj:=λi h Z b hb=>by
  obtain ⟨hz,hti,⟨u,v,hto⟩,h1,h2⟩:=Z
  obtain ⟨o1,e1,d1⟩:=h1.there
  obtain ⟨o2,e2,d2⟩:=h2.there
  simp only [List.mem_cons,List.not_mem_nil,or_false] at hb
  rcases hb with rfl | rfl | rfl | rfl | rfl
  ·exact ⟨_,hz,λv q=>(by cases q)⟩
  ·exact ⟨_,hti,λv q=>(by cases q)⟩
  ·exact ⟨_,hto,λv q=>(by cases q)⟩
  ·exact ⟨o1,e1,λv q=>d1 v q⟩
  ·exact ⟨o2,e2,λv q=>d2 v q⟩
 keep:=λi h h' Z k=>by
  obtain ⟨hz,hti,⟨u,v,hto⟩,h1,h2⟩:=Z
  exact ⟨k z (by simp) _ hz,k ti (by simp) _ hti,⟨u,v,k to (by simp) _ hto⟩,h1.at λo e=>k i1 (by simp) o e,h2.at λo e=>k i2 (by simp) o e⟩
 item:=by
  intro X hP hw hK hc i pn s σ H E I hf Z hg
  subst hP hw hK
  obtain ⟨xs,ys,x,y,e1,e2,hx,hy⟩:=hg
  obtain ⟨its1,r1,g1⟩:=Xi I e1
  obtain ⟨its2,r2,g2⟩:=Xi I e2
  obtain ⟨u,hu,ru⟩:=r1.get hx
  obtain ⟨v,hv,rv⟩:=r2.get hy
  have fz:=hf z (by simp)
  have fto:=hf to (by simp)
  have f1:=hf i1 (by simp)
  have f2:=hf i2 (by simp)
  have off:∀ b ho,H b=some ho->ZOff z to i1 i2 b:=λb ho e=>⟨zf e fz.1,zf e fto.1,zf e f1.1,zf e f2.1⟩
  refine Ua D ⟨xb I e1 fz,xb I e1 fto,xb I e1 f1,xb I e1 f2⟩ ⟨xb I e2 fz,xb I e2 fto,xb I e2 f1,xb I e2 f2⟩ Z g1 g2 (x:=u) (y:=v) (by simpa using hu) (by simpa using hv) λg Z2 pr kp=>?_
  have hn:H s.heap.objs.size=none:=I.fresh
  have hout:∀ b,b ∉ [z,to,i1,i2]->ZOff z to i1 i2 b:=λb hb=>by
   simp only [List.mem_cons,List.not_mem_nil,or_false,not_or] at hb
   exact hb
  have un:Un (frs X.stack) [z,to,i1,i2] H (upd H s.heap.objs.size (.tup [x,y])) s.heap g :=
   ⟨λb o q _ _ hx=>kp b o (hout b hx) q,λb o q _ _ hx=>⟨o.slots,kp b o (hout b hx) q⟩,λb o q n _=>by rw [zi (Nat.ne_of_lt (Heap.lt_size q))]; exact n,λb o q hx=>⟨o,kp b o (hout b hx) q⟩,
    λb zs q=>by rw [zi (zf q hn)]; exact q,λb o zs q=>by rw [zi (zf q hn)]; exact q,λb ps q=>⟨#[],by rw [zi (zf q hn),q]; simp⟩⟩
  have hok:HOk X.prog X.w (upd H s.heap.objs.size (.tup [x,y])) g:=λb o e=>by
   by_cases hb:b=s.heap.objs.size
   ·subst hb
    rw [zg] at e
    cases e
    refine ⟨by simp only [zLc,zLn]; rw [sizeLine_eq]; decide,[u,v],.cons ru (.cons rv .nil),⟨_,pr,rfl,_,rfl⟩,_,pr,rfl⟩
   ·rw [zi hb] at e
    refine (I.hok b o e).stay (λc ob hc q=>kp c ob ?_ q) (λc q=>by rw [zi (zf q hn)]; exact q) λc zs q=>by rw [zi (zf q hn)]; exact q
    rcases hc with rfl | hc
    ·exact off _ _ e
    ·exact off _ _ hc
  have I2:Inv X pn σ (upd H s.heap.objs.size (.tup [x,y])) { s with heap:=g }:=I.call' (s':={ s with heap:=g }) (ch:=[z,to,i1,i2]) rfl un hok I.bare λb hb=>by
   have hb':b ∈ [z,ti,to,i1,i2]:=by
    simp only [List.mem_cons,List.not_mem_nil,or_false] at hb ⊢
    rcases hb with rfl | rfl | rfl | rfl <;> simp
   have q:=hf b hb'
   exact ⟨q.2.2.2.1,q.2.1,q.2.2.2.2.1,q.2.2.2.2.2⟩
  have none5:∀ b ∈ [z,ti,to,i1,i2],upd H s.heap.objs.size (.tup [x,y]) b=none:=λb hb=>by
   have lb:b < s.heap.objs.size:=by
    obtain ⟨hz,hti,⟨u,v,hto⟩,h1,h2⟩:=Z
    obtain ⟨_,q1,_⟩:=h1.there
    obtain ⟨_,q2,_⟩:=h2.there
    simp only [List.mem_cons,List.not_mem_nil,or_false] at hb
    rcases hb with rfl | rfl | rfl | rfl | rfl
    ·exact Heap.lt_size hz
    ·exact Heap.lt_size hti
    ·exact Heap.lt_size hto
    ·exact Heap.lt_size q1
    ·exact Heap.lt_size q2
   rw [zi (Nat.ne_of_lt lb)]
   exact (hf b hb).1
  refine ⟨_,rfl,wpAny_letOwnedTupleGo_zip Z2.zz λg2 z3 sb=>?_⟩
  refine ⟨.ref s.heap.objs.size,_,I2.turned (t':=s.toks) (λb o hb e=>sb.extBut b o hb e) (none5 z (by simp)) fz.2.1 fz.2.2.2.1 fz.2.2.2.2.1 fz.2.2.2.2.2,rfl,⟨_,x,y,hn,rfl,(λzs q=>by rw [<- Pb I e1 q]; exact hx),(λzs q=>by rw [<- Pb I e2 q]; exact hy),rfl⟩,?_,none5⟩
  obtain ⟨_,hti,⟨u2,v2,hto⟩,h1,h2⟩:=Z2
  exact ⟨z3,sb.extBut _ _ D.ab hti,⟨u2,v2,sb.extBut _ _ D.ac hto⟩,h1.at λo e=>sb.extBut _ o D.ad e,h2.at λo e=>sb.extBut _ o D.ae e⟩
 done:=by
  intro X hP hw hK hc i pn s σ H E I hf Z hg
  subst hP hw hK
  obtain ⟨xs,ys,e1,e2,hend⟩:=hg
  obtain ⟨its1,r1,g1⟩:=Xi I e1
  obtain ⟨its2,r2,g2⟩:=Xi I e2
  have fz:=hf z (by simp)
  have fto:=hf to (by simp)
  have f1:=hf i1 (by simp)
  have f2:=hf i2 (by simp)
  have off:∀ b ho,H b=some ho->ZOff z to i1 i2 b:=λb ho e=>⟨zf e fz.1,zf e fto.1,zf e f1.1,zf e f2.1⟩
  have l1':=r1.length
  have l2':=r2.length
  refine Rw (I.ok.hd hc) D ⟨xb I e1 fz,xb I e1 fto,xb I e1 f1,xb I e1 f2⟩ ⟨xb I e2 fz,xb I e2 fto,xb I e2 f1,xb I e2 f2⟩ Z g1 g2 ?_ λg kp=>?_
  ·rcases hend with q | q
   ·exact .inl (by simp; omega)
   ·exact .inr (by simp; omega)
  ·refine ⟨rfl,?_⟩
   have hout:∀ b,b ∉ [z,to,i1,i2]->ZOff z to i1 i2 b:=λb hb=>by
    simp only [List.mem_cons,List.not_mem_nil,or_false,not_or] at hb
    exact hb
   have un:Un (frs X.stack) [z,to,i1,i2] H H s.heap g :=
    ⟨λb o q _ _ hx=>kp b o (hout b hx) q,λb o q _ _ hx=>⟨o.slots,kp b o (hout b hx) q⟩,λb o q n _=>n,λb o q hx=>⟨o,kp b o (hout b hx) q⟩,
     λb zs q=>q,λb o zs q=>q,λb ps q=>⟨#[],by rw [q]; simp⟩⟩
   refine I.call' (s':={ s with heap:=g }) (ch:=[z,to,i1,i2]) rfl un (λb o e=>(I.hok b o e).stay (λc ob hc q=>kp c ob ?_ q) (λc q=>q) λc zs q=>q) I.bare λb hb=>?_
   ·rcases hc with rfl | hc
    ·exact off _ _ e
    ·exact off _ _ hc
   ·have hb':b ∈ [z,ti,to,i1,i2]:=by
     simp only [List.mem_cons,List.not_mem_nil,or_false] at hb ⊢
     rcases hb with rfl | rfl | rfl | rfl <;> simp
    have q:=hf b hb'
    exact ⟨q.2.2.2.1,q.2.1,q.2.2.2.2.1,q.2.2.2.2.2⟩
 self:=λ_ _ _ _ _ Z h=>wpAny_pyIter_zip Z.zz h
def S2:bootBuiltins "zip" = some (.type "zip"):=by kernel_rfl
def iZip (K:W.Frag) (ta:TA):TI:=λσ H R=>ta σ H λvs H1=>∃ b1 b2 l1 l2 xs ys,vs=[.ref l1,.ref l2] /\ SqK b1 K H1 l1 xs /\ SqK b2 K H1 l2 ys /\ R (Itz b1 b2 K l1 l2) H1
def K7 {X:Cx} {es:List Expr} {kk:Nat} {tp:Pos} {a b:Expr} {ta:TA} {p pos:Pos} (hg:Gl X "zip") (hm:X.mg "zip" = none) (ha:PA X [a,b] ta)
  (he:starEach [a,b] X.env=(false,eval a X.env) :: starEach [b] X.env:=by rfl) (hpl:(backTo pos (starEach [b] X.env)).any (·.1)=false:=by rfl):PI X (.Tuple es kk tp) (.Call (.Name "zip" p) [a,b] [] pos) (iZip X.K ta):=by
 intro pn s σ H R I h
 refine wpAny_Call_Name_kw (uu I hg hm S2 ?_ (by decide) (by decide))
 refine PyProof.Rows.callWith_type1 (thn (ha pos pn s σ H _ I h) λus s1 ⟨vs,H1,I1,r1,b1,b2,l1,l2,xs,ys,e,e1,e2,q⟩=>?_) he hpl
 subst e
 obtain ⟨u,v,rfl,ru,rv⟩:=Ob r1
 cases ru
 cases rv
 obtain ⟨its1,r1,g1⟩:=Xi I1 e1
 obtain ⟨its2,r2,g2⟩:=Xi I1 e2
 refine Sf (xs:=its1.toArray) (ys:=its2.toArray) g1 g2 λg Z kp=>wpAny_pyIter_zip Z.zz ?_
 have D:ZNe (s1.heap.objs.size + 4) (s1.heap.objs.size + 2) (s1.heap.objs.size + 3) s1.heap.objs.size (s1.heap.objs.size + 1):=by
  constructor <;> (intro z; exact absurd (show (_:Nat)=_ from z) (by omega))
 refine ⟨_,_,_,_,H1,rfl,I1.kept (t':=s1.toks) kp,Sn D,Z,λb hb=>?_,q⟩
 have lb:s1.heap.objs.size <= b:=by
  simp only [List.mem_cons,List.not_mem_nil,or_false] at hb
  rcases hb with rfl | rfl | rfl | rfl | rfl
  ·exact Nat.le_add_right _ _
  ·exact Nat.le_add_right _ _
  ·exact Nat.le_add_right _ _
  ·exact Nat.le_refl _
  ·exact Nat.le_add_right _ _
 exact I1.fpOk lb (I1.hok.fresh lb)
end L3
namespace DL
open PySem PySem.Spec L2 L3
open PyProof.Rows hiding St
def Z0 {P:Program} {w:World} {H:Hp} {h:Heap} {a:Addr} {o:HO} (x:ye P w H h a o):∃ ob,h.get? a=some ob:=by
 cases o with
 | lst xs=>obtain ⟨_,_,_,_,e⟩:=x; exact ⟨_,e⟩
 | tup xs=>obtain ⟨_,_,_,⟨ob,e,_⟩,_⟩:=x; exact ⟨_,e⟩
 | dK kvs=>obtain ⟨_,_,_,_,o,_,_,e,_⟩:=x; exact ⟨_,e⟩
 | dT kvs=>obtain ⟨_,_,_,_,o,_,_,e,_⟩:=x; exact ⟨_,e⟩
 | set S n=>obtain ⟨o,_,_,_,e,_⟩:=x; exact ⟨_,e⟩
 | ins C dx fs=>obtain ⟨_,_,_,e,_⟩:=x; exact ⟨_,e⟩
 | own y=>obtain ⟨_,e⟩:=x; exact ⟨_,e⟩
 | xd fs=>obtain ⟨_,⟨_,_,_,e,_⟩,_⟩:=x; exact ⟨_,e⟩
 | rng lo hi=>obtain ⟨_,_,_,e⟩:=x; exact ⟨_,e⟩
 | frz ob u=>obtain ⟨e,_⟩:=x; exact ⟨_,e⟩
 | tbl ps=>exact ⟨_,(show h.get? a=some _ from x)⟩
 | met f y=>exact ⟨_,(show h.get? a=some _ from x)⟩
 | ext φ=>obtain ⟨_,⟨_,e⟩,_⟩:=x; exact ⟨_,e⟩
structure FlyB (P:Program) (w:World) (outer:List Env) (H:Hp) (h:Heap) (H':Hp) (B:Heap) (h':Heap):Prop where
 un:Un (frs outer) [] H H' h h'
 hok:HOk P w H' h'
 cov:∀ b o,h'.get? b=some o->b ∉ frs outer->(H' b ≠ none \/ ∃ o0,h.get? b=some o0)->B.get? b=some o
section
variable {P:Program} {w:World} {outer:List Env} {H H':Hp} {h h1 h2 B B':Heap}
def FlyB.there (F:FlyB P w outer H h H' B h1) {b:Addr} (c:H' b ≠ none \/ ∃ o0,h.get? b=some o0):∃ o,h1.get? b=some o:=by
 rcases c with c | ⟨o0,c⟩
 ·cases e:H' b with
  | none=>exact absurd e c
  | some u=>exact Z0 (F.hok b u e)
 ·exact F.un.there b o0 c (by simp)
def FlyB.step (F:FlyB P w outer H h H' B h1) (k:B.StaysIn h2) (u:h1.UpToSlots h2) (ff:h1.FunFrames B' outer) (hf:∀ b ∈ frs outer,H' b=none):FlyB P w outer H h H' B h2:=by
 have nx:∀ b:Addr,b ∉ ([]:List Addr):=λb z=>nomatch z
 refine ⟨⟨λb o q n hb hx=>k b o (F.cov b o (F.un.keep b o q n hb hx) hb (.inr ⟨o,q⟩)),λb o q n hb hx=>?_,F.un.free,λb o q hx=>?_,F.un.tups,F.un.frzs,F.un.tbls⟩,λa o e=>?_,λb o q hb c=>?_⟩
 ·obtain ⟨sl,e1⟩:=F.un.slot b o q n hb hx
  obtain ⟨_,o',e2,nf⟩:=ff.mem hb
  rw [e1] at e2
  cases e2
  obtain ⟨sl',e3⟩:=u b _ e1 nf
  exact ⟨sl',e3⟩
 ·obtain ⟨o',e1⟩:=F.un.there b o q hx
  by_cases hb:b ∈ frs outer
  ·obtain ⟨_,o2,e2,nf⟩:=ff.mem hb
   obtain ⟨sl',e3⟩:=u b _ e2 nf
   exact ⟨_,e3⟩
  ·exact ⟨o',k b o' (F.cov b o' e1 hb (.inr ⟨o,q⟩))⟩
 ·refine (F.hok a o e).stay (λb v hc q=>?_) (λ_ q=>q) λ_ _ q=>q
  have ht:H' b ≠ none:=by
   rcases hc with rfl | hc
   ·rw [e]; exact λz=>nomatch z
   ·rw [hc]; exact λz=>nomatch z
  exact k b v (F.cov b v q (λz=>ht (hf b z)) (.inl ht))
 ·obtain ⟨o1,e1⟩:=F.there c
  have e2:=F.cov b o1 e1 hb c
  have e3:=k b o1 e2
  rw [q] at e3
  cases e3
  exact e2
end
def CX1 (P:Program) (w:World):CXT:=λouter H s E e s'=>∃ (a C:Addr) (t:Value) (H':Hp) (B:Heap),e=.ref a /\ s'.os=s.os /\ AllBare s'.gens /\ FlyB P w outer H s.heap H' B s'.heap /\
 Heap.FlyingW B outer a (.ref C) t s'.heap /\ E (.ref C) none H'
section
variable {X:Cx} {pn:List (Addr × Obj)} {σ:St} {H1 H':Hp} {s1:Shared} {B h2:Heap}
def FlyB.leave (J:Inv X pn σ H1 s1) (hex:X.ex=[]) (F:FlyB X.prog X.w X.stack H1 s1.heap H' B h2):FlyB X.prog X.w X.outer X.H₀ X.s₀.heap H' B h2:=by
 have nx:∀ b:Addr,b ∉ ([]:List Addr):=λb z=>nomatch z
 have nx':∀ b:Addr,b ∉ X.ex:=λb z=>by rw [hex] at z; cases z
 have neL:∀ b o,X.s₀.heap.get? b=some o->b ≠ X.env.locals:=λb o e=>Nat.ne_of_lt (Nat.lt_of_lt_of_le (Heap.lt_size e) J.ok.above)
 have nst:∀ b o,X.s₀.heap.get? b=some o->b ∉ frs X.outer->b ∉ frs X.stack:=λb o e hb z=>by
  rcases List.mem_cons.mp (J.stkSub b z) with q | q
  ·exact neL b o e q
  ·exact hb q
 obtain ⟨m,hn,_⟩:=J.loc
 obtain ⟨oL,_,_,hL,_⟩:=hn
 have hL':H' X.env.locals=none:=F.un.free _ _ hL J.free (nx _)
 refine ⟨⟨λb o q n hb _=>F.un.keep b o (J.base.keep b o q n hb (nx' b)) (J.base.free b o q n (nx' b)) (nst b o q hb) (nx b),λb o q n hb _=>?_,λb o q n _=>?_,λb o q _=>?_,λb xs q=>F.un.tups b xs (J.base.tups b xs q),
  λb o u q=>F.un.frzs b o u (J.base.frzs b o u q),λb ps q=>?_⟩,F.hok,λb o q hb c=>?_⟩
 ·obtain ⟨sl,e1⟩:=J.base.slot b o q n hb (nx' b)
  obtain ⟨sl',e2⟩:=F.un.any e1 (J.base.free b o q n (nx' b)) (nx b)
  exact ⟨sl',e2⟩
 ·obtain ⟨o',e1⟩:=J.base.there b o q (nx' b)
  exact F.un.free b o' e1 (J.base.free b o q n (nx' b)) (nx b)
 ·obtain ⟨o',e1⟩:=J.base.there b o q (nx' b)
  exact F.un.there b o' e1 (nx b)
 ·obtain ⟨m1,e1⟩:=J.base.tbls b ps q
  obtain ⟨m2,e2⟩:=F.un.tbls b _ e1
  exact ⟨m1 ++ m2,by rw [e2,Array.append_assoc]⟩
 ·refine F.cov b o q (λz=>?_) ?_
  ·rcases List.mem_cons.mp (J.stkSub b z) with e | e
   ·subst e
    rcases c with c | ⟨o0,c⟩
    ·exact c hL'
    ·exact neL _ o0 c rfl
   ·exact hb e
  ·rcases c with c | ⟨o0,c⟩
   ·exact .inl c
   ·exact .inr (J.base.there b o0 c (nx' b))
def FlyB.made {h':Heap} {a:Addr} {cls:Value} {vs:List Value} (J:Inv X pn σ H1 s1) (hx:Heap.MadeExcOf s1.heap h' a cls vs) (k:(W.hideAll s1.heap (frs X.stack)).StaysIn h2) (u:h'.UpToSlots h2) :
  FlyB X.prog X.w X.stack H1 s1.heap H1 (W.hideAll s1.heap (frs X.stack)) h2:=by
 have u2:s1.heap.UpToSlots h2:=(Heap.UpToSlots.of_keeps hx.keeps).trans u
 have F0:FlyB X.prog X.w X.stack H1 s1.heap H1 (W.hideAll s1.heap (frs X.stack)) s1.heap:=⟨Un.refl,J.hok,λb o q hb _=>W.hideAll_get _ q hb⟩
 exact F0.step k u2 J.stack J.stkFree
end
section
variable {P:Program} {w:World} {K:W.Frag} {mg:Str->Option Value} {base:Heap} {N:List Str} {qual:Str} {scope:Scope} {f:Addr} {cd:Value} {A:Around} {outer:List Env} {s:Shared} {H:Hp} {E:XK}
def Np {pn:List (Addr × Obj)} {σ:St} {H1:Hp} {s1:Shared} {h':Heap} {a C:Addr} {vs:List Value} (J:Inv (cxOf (CX1 P w) P w K mg base N qual scope f cd A outer s H E) pn σ H1 s1) (hx:Heap.MadeExcOf s1.heap h' a (.ref C) vs) (hE:E (.ref C) none H1) :
  (cxOf (CX1 P w) P w K mg base N qual scope f cd A outer s H E).xe (.ref a) { s1 with heap:=h' }:=by
 have hin:∀ env ∈ (cxOf (CX1 P w) P w K mg base N qual scope f cd A outer s H E).stack,∀ b,env.frame=some b->b ∈ frs (cxOf (CX1 P w) P w K mg base N qual scope f cd A outer s H E).stack:=λenv he b hb=>List.mem_filterMap.mpr ⟨env,he,hb⟩
 refine wpAny_leaves_madeW (s:={ s1 with heap:=h' }) (base:=W.hideAll s1.heap (frs (cxOf (CX1 P w) P w K mg base N qual scope f cd A outer s H E).stack)) (L:=(cxOf (CX1 P w) P w K mg base N qual scope f cd A outer s H E).env.locals) J.ok.frames rfl (λb o q=>W.of_hideAll _ q)
  (W.funFrames_hide J.stack hin) hx λh'' t x1 x2 x3 x4=>?_
 exact ⟨a,C,.ref t,H1,_,rfl,J.os,J.bare,FlyB.leave J rfl (FlyB.made J hx x1.1 x4),x1,hE⟩
def Nf {pn:List (Addr × Obj)} {σ:St} {H1:Hp} {s1 s2:Shared} {E':XK} {e:Value} (J:Inv (cxOf (CX1 P w) P w K mg base N qual scope f cd A outer s H E) pn σ H1 s1)
  (hc:CX1 P w (cxOf (CX1 P w) P w K mg base N qual scope f cd A outer s H E).stack H1 s1 E' e s2) (hE:∀ C H',E' (.ref C) none H'->E (.ref C) none H') :
  (cxOf (CX1 P w) P w K mg base N qual scope f cd A outer s H E).xe e s2:=by
 obtain ⟨a,C,t,H',B,rfl,hos,hb,F,fl,hE'⟩:=hc
 refine wpAny_leaves_onW (L:=(cxOf (CX1 P w) P w K mg base N qual scope f cd A outer s H E).env.locals) J.ok.frames rfl fl λh'' x1 x2=>?_
 have hf:∀ b ∈ frs (cxOf (CX1 P w) P w K mg base N qual scope f cd A outer s H E).stack,H' b=none:=λb hb=>by
  obtain ⟨_,o,ho,_⟩:=J.stack.mem hb
  exact F.un.free b o ho (J.stkFree b hb) (λz=>nomatch z)
 exact ⟨a,C,t,H',B,rfl,hos.trans J.os,hb,FlyB.leave J rfl (F.step x1.1 x2 fl.2.2.1 hf),x1,hE C H' hE'⟩
end
end DL
namespace DL
def sg (t b:Int):Int:=if b < 0 then -(Int.gcd t b:Int) else Int.gcd t b
def rt (t b:Int):Int × Int:=(t.fdiv (sg t b),b.fdiv (sg t b))
end DL
namespace DL
open PySem PySem.Spec L2 L3
open PyProof.Rows hiding St
variable {Γ:Hp->Prop}
open PySem.Builtin.Int (intBits)
def fdOk {i j:Int} {m:Nat} (h:j ≠ 0) (hb:intBits j <= m) (hm:m <= 8999:=by omega):FdOk i j:=by
 refine ⟨h,?_⟩
 unfold intBits at hb
 rw [if_neg (by simpa using h)] at hb
 omega
end DL
namespace DL
open PySem PySem.Spec L2 L3
open PyProof.Rows hiding St
open PySem.Builtin.Int (intBits)
def yv {n:Nat} {i:Int}:okD n (.int i)=True:=by cases n <;> rfl
def Kz {n:Nat} {i:Bool}:okD n (.bl i)=True:=by cases n <;> rfl
def U7 {n:Nat} {i:Str}:okD n (.str i)=True:=by cases n <;> rfl
def Nk {n:Nat}:okD n .non=True:=by cases n <;> rfl
def qd {a b:Int}:eqD (.int a) (.int b)=(a == b):=rfl
def Mh {a b:Str}:eqD (.str a) (.str b)=(a == b):=rfl
def Jv {a b:Bool}:eqD (.bl a) (.bl b)=(a == b):=rfl
def w2 (g:Int->Int->(EV->Prop)->Prop):FT:=λds φ=>match ds with
 | [.int a,.int b]=>g a b φ
 | _=>False
def Hq {g:Int->Int->(EV->Prop)->Prop} {ds:List D} {φ:EV->Prop} (h:w2 g ds φ):∃ a b,ds=[.int a,.int b] /\ g a b φ:=by
 unfold w2 at h
 split at h
 ·exact ⟨_,_,rfl,h⟩
 ·exact h.elim
def w1 (g:Int->(EV->Prop)->Prop):FT:=λds φ=>match ds with
 | [.int a]=>g a φ
 | _=>False
def Mu {g:Int->(EV->Prop)->Prop} {ds:List D} {φ:EV->Prop} (h:w1 g ds φ):∃ a,ds=[.int a] /\ g a φ:=by
 unfold w1 at h
 split at h
 ·exact ⟨_,rfl,h⟩
 ·exact h.elim
def r2 (g:Int->Int->Int->Int->(EV->Prop)->Prop):FT:=λds φ=>match ds with
 | [.tup [.int a,.int b],.tup [.int c,.int d]]=>g a b c d φ
 | _=>False
end DL
namespace DL
open L2
def Gu {α:Type} {x:α} {l:List α}:atI (x :: l) 0=some x:=by
 rw [show (0:Int)=((0:Nat):Int) from rfl]
 exact gi rfl
def Gs {α:Type} {x y:α} {l:List α}:atI (x :: y :: l) 1=some y:=by
 rw [show (1:Int)=((1:Nat):Int) from rfl]
 exact gi rfl
def Gr {α:Type} {x y z:α} {l:List α}:atI (x :: y :: z :: l) 2=some z:=by
 rw [show (2:Int)=((2:Nat):Int) from rfl]
 exact gi rfl
end DL
namespace L2
open PySem PySem.Spec PyProof.Rows
section
variable {κ:Type} [DecidableEq κ]
def valV (kvs:List (κ × V)) (k:κ):Option V:=(kvs.find? λkv=>decide (kv.1=k)).map (·.2)
def putK (kvs:List (κ × V)) (k:κ) (v:V):List (κ × V) :=
 if (kvs.any λkv=>decide (kv.1=k))=true then kvs.map (λkv=>if kv.1=k then (kv.1,v) else kv) else kvs ++ [(k,v)]
def Wi (kvs:List (κ × V)) (k:κ):List (κ × V):=kvs.filter λkv=>decide (kv.1 ≠ k)
def vh {p:κ × V} {r:List (κ × V)} {k:κ} (e:p.1=k):valV (p :: r) k=some p.2:=by simp [valV,List.find?_cons,e]
def vi {p:κ × V} {r:List (κ × V)} {k:κ} (e:¬ p.1=k):valV (p :: r) k=valV r k:=by simp [valV,List.find?_cons,e]
def j9 (k:κ):∀ kvs:List (κ × V),(kvs.any λkv=>decide (kv.1=k))=(valV kvs k).isSome
 | []=>rfl
 | p :: r=>by
  rw [List.any_cons]
  by_cases e:p.1=k
  ·simp only [vh e,decide_eq_true e,Bool.true_or,Option.isSome_some]
  ·rw [vi e,decide_eq_false e,Bool.false_or]; exact j9 k r
def re (kvs:List (κ × V)) (k:κ) (v:V):(putK kvs k v).length <= kvs.length + 1:=by
 unfold putK
 split
 ·rw [zLm]; omega
 ·rw [zLa,zLc,zLn]; omega
def Rg {kvs:List (κ × V)} {k:κ} (v:V) (h:valV kvs k=none):putK kvs k v=kvs ++ [(k,v)]:=by
 unfold putK
 rw [j9,h]
 exact if_neg (by decide)
def RelO.isSome_eq {o:Option V} {u:Option Value} (r:RelO o u):o.isSome=u.isSome:=by
 cases o with
 | none=>cases u with
  | none=>rfl
  | some _=>exact (show False from r).elim
 | some _=>cases u with
  | none=>exact (show False from r).elim
  | some _=>rfl
def RelO.getD {o:Option V} {u:Option Value} {d:V} {d':Value} (r:RelO o u) (rd:RelV d d'):RelV (o.getD d) (u.getD d'):=by
 cases o with
 | none=>cases u with
  | none=>exact rd
  | some _=>exact (show False from r).elim
 | some _=>cases u with
  | none=>exact (show False from r).elim
  | some _=>exact r
def KV.val {kvs:List (κ × V)} {vs:List (κ × Value)} (r:KV kvs vs) (k:κ):RelO (valV kvs k) (valueAt vs k):=by
 unfold KV at r
 induction r with
 | nil=>exact True.intro
 | @cons p q ps qs h t ih =>
  obtain ⟨h1,h2⟩:=h
  by_cases e:p.1=k
  ·have e':q.1=k:=h1.symm.trans e
   have b:valueAt (q :: qs) k=some q.2:=by simp [valueAt,List.find?_cons,e']
   rw [vh e,b]; exact h2
  ·have e':¬ q.1=k:=λz=>e (h1.trans z)
   have b:valueAt (q :: qs) k=valueAt qs k:=by simp [valueAt,List.find?_cons,e']
   rw [vi e,b]; exact ih
def KV.any {kvs:List (κ × V)} {vs:List (κ × Value)} (r:KV kvs vs) (k:κ):(kvs.any λkv=>decide (kv.1=k))=vs.any λkv=>decide (kv.1=k):=by
 unfold KV at r
 induction r with
 | nil=>rfl
 | cons h t ih=>rw [List.any_cons,List.any_cons,ih,h.1]
def KV.repl {kvs:List (κ × V)} {vs:List (κ × Value)} (r:KV kvs vs) (k:κ) {y:V} {u:Value} (ry:RelV y u) :
  KV (kvs.map λkv=>if kv.1=k then (kv.1,y) else kv) (vs.map λkv=>if kv.1=k then (kv.1,u) else kv):=by
 unfold KV at r ⊢
 induction r with
 | nil=>exact .nil
 | @cons p q ps qs h t ih =>
  rw [List.map_cons,List.map_cons]
  refine .cons ?_ ih
  obtain ⟨h1,h2⟩:=h
  by_cases e:p.1=k
  ·rw [if_pos e,if_pos (h1.symm.trans e)]; exact ⟨h1,ry⟩
  ·rw [if_neg e,if_neg (λz=>e (h1.trans z))]; exact ⟨h1,h2⟩
def KV.put {kvs:List (κ × V)} {vs:List (κ × Value)} (r:KV kvs vs) (k:κ) {y:V} {u:Value} (ry:RelV y u):KV (putK kvs k y) (stored vs k u):=by
 unfold putK stored
 rw [r.any k]
 by_cases e:(vs.any λkv=>decide (kv.1=k))=true
 ·rw [if_pos e,if_pos e]; exact r.repl k ry
 ·rw [if_neg e,if_neg e]; exact Paired.snoc r ⟨rfl,ry⟩
def KV.drop {kvs:List (κ × V)} {vs:List (κ × Value)} (r:KV kvs vs) (k:κ):KV (Wi kvs k) (without vs k):=by
 unfold KV at r ⊢
 unfold Wi without
 induction r with
 | nil=>exact .nil
 | @cons p q ps qs h t ih =>
  obtain ⟨h1,h2⟩:=h
  rw [List.filter_cons,List.filter_cons]
  by_cases e:p.1=k
  ·have a:¬ decide (p.1 ≠ k)=true:=by simp [e]
   have b:¬ decide (q.1 ≠ k)=true:=by simp [h1.symm.trans e]
   rw [if_neg a,if_neg b]; exact ih
  ·have e':¬ q.1=k:=λz=>e (h1.trans z)
   have a:decide (p.1 ≠ k)=true:=by simp [e]
   have b:decide (q.1 ≠ k)=true:=by simp [e']
   rw [if_pos a,if_pos b]; exact .cons ⟨h1,h2⟩ ih
def KV.length {kvs:List (κ × V)} {vs:List (κ × Value)} (r:KV kvs vs):kvs.length=vs.length:=Paired.length r
end
def d6 {P:Program} {w:World} {k:Key} {u:Value} (r:RelV (kV k) u):(zv P w).is k u=true:=by
 cases k with
 | inl i=>obtain ⟨t,e⟩:=(show ∃ t,u=Value.int i t from r); subst e; exact Z4 P w i t
 | inr x=>obtain ⟨t,e⟩:=(show ∃ t,u=Value.str x t from r); subst e; exact Z3 P w x t
def d7 {P:Program} {w:World}:∀ {ks:List Key} {us:List Value},Vals (ks.map kV) us->ItemsAre (zv P w) ks us
 | [],_,r=>by rw [List.map_nil] at r; cases r; exact .nil
 | k :: ks,_,r=>by
  rw [List.map_cons] at r
  cases r with
  | cons h t=>exact .cons (d6 h) (d7 t)
abbrev KT (H:Hp):List (List Key × V)->List (List Key × Addr × Value)->Prop:=Paired λp q=>p.1=q.1 /\ H q.2.1=some (.tup (p.1.map kV)) /\ RelV p.2 q.2.2
def KT.val {H:Hp} {kvs:List (List Key × V)} {xs:List (List Key × Addr × Value)} (r:KT H kvs xs) (k:List Key):RelO (valV kvs k) ((atKey xs k).map (·.2)):=by
 induction r with
 | nil=>exact True.intro
 | @cons p q ps qs h t ih =>
  obtain ⟨h1,_,h2⟩:=h
  by_cases e:p.1=k
  ·have e':q.1=k:=h1.symm.trans e
   have b:atKey (q :: qs) k=some q.2:=by simp [atKey,List.find?_cons,e']
   rw [vh e,b]; exact h2
  ·have e':¬ q.1=k:=λz=>e (h1.trans z)
   have b:atKey (q :: qs) k=atKey qs k:=by simp [atKey,List.find?_cons,e']
   rw [vi e,b]; exact ih
def KT.repl {H:Hp} {kvs:List (List Key × V)} {xs:List (List Key × Addr × Value)} (r:KT H kvs xs) (k:List Key) {y:V} {u:Value} (ry:RelV y u) :
  KT H (kvs.map λkv=>if kv.1=k then (kv.1,y) else kv) (xs.map (putAt k u)):=by
 induction r with
 | nil=>exact .nil
 | @cons p q ps qs h t ih =>
  rw [List.map_cons,List.map_cons]
  refine .cons ?_ ih
  obtain ⟨h1,h2,h3⟩:=h
  unfold putAt
  by_cases e:p.1=k
  ·rw [if_pos e,if_pos (h1.symm.trans e)]; exact ⟨h1,h2,ry⟩
  ·rw [if_neg e,if_neg (λz=>e (h1.trans z))]; exact ⟨h1,h2,h3⟩
def KT.put {H:Hp} {kvs:List (List Key × V)} {xs:List (List Key × Addr × Value)} (r:KT H kvs xs) (k:List Key) {b:Addr} {y:V} {u:Value} (hb:H b=some (.tup (k.map kV))) (ry:RelV y u) :
  KT H (putK kvs k y) (storedH xs k b u):=by
 have e:(kvs.any λkv=>decide (kv.1=k))=(atKey xs k).isSome:=by
  rw [j9,(r.val k).isSome_eq,Option.isSome_map]
 unfold putK storedH
 rw [e]
 by_cases q:(atKey xs k).isSome=true
 ·rw [if_pos q,if_pos q]; exact r.repl k ry
 ·rw [if_neg q,if_neg q]; exact Paired.snoc r ⟨rfl,hb,ry⟩
def KT.keeps {H H':Hp} {kvs:List (List Key × V)} {xs:List (List Key × Addr × Value)} (r:KT H kvs xs) (ht:∀ b ys,H b=some (.tup ys)->H' b=some (.tup ys)):KT H' kvs xs :=
 Paired.mapP r λ_ _ z=>⟨z.1,ht _ _ z.2.1,z.2.2⟩
section
variable {P:Program} {w:World} {H:Hp} {h:Heap} {a:Addr}
def Lz {u:HO} (ok:HOk P w H h) (e:Rd H a u):ye P w H h a u:=e.ok ok
def Zv {kvs:List (Key × V)} (ok:HOk P w H h) (e:Rd H a (.dK kvs)):kvs.length <= sizeLine /\ (a == sysModules)=false /\ ∃ vs,KV kvs vs /\ h.DictOf (zv P w) a vs :=
 show ye P w H h a (.dK kvs) from Lz ok e
def g9 {kvs:List (Key × V)} (ok:HOk P w H h) (e:H a=some (.dK kvs)):kvs.length <= sizeLine /\ (a == sysModules)=false /\ ∃ vs,KV kvs vs /\ h.DictOf (zv P w) a vs:=Zv ok (.inl e)
def kt {ks:List Key} (ok:HOk P w H h) (e:H a=some (.tup (ks.map kV))):(tupleKind (zv P w)).is h ks a:=by
 obtain ⟨_,its,r,⟨o,h1,h2,n,h3⟩,_⟩:=(show ye P w H h a (.tup (ks.map kV)) from ok a _ e)
 exact ⟨o,its.toArray,n,h1,h2,h3,by simpa using d7 r⟩
def Wh {kvs:List (List Key × V)} (ok:HOk P w H h) (e:Rd H a (.dT kvs)):kvs.length <= sizeLine /\ (a == sysModules)=false /\
  ∃ xs,KT H kvs xs /\ h.DictOfH (tupleKind (zv P w)) a xs:=by
 obtain ⟨z,y,xs,r,o,es,ep,h1,h2,h3,h4,h5⟩:=(show ye P w H h a (.dT kvs) from Lz ok e)
 refine ⟨z,y,xs,r,o,es,ep,h1,h2,h3,h4,λx hx=>?_,h5⟩
 have all:∀ {l:List (List Key × V)} {m:List (List Key × Addr × Value)},KT H l m->∀ x ∈ m,(tupleKind (zv P w)).is h x.1 x.2.1:=by
  intro l m q
  induction q with
  | nil=>intro x hx; exact nomatch hx
  | @cons p q ps qs hq t ih =>
   intro x hx
   rcases List.mem_cons.mp hx with e | hx
   ·subst e
    exact kt ok (by rw [<- hq.1]; exact hq.2.1)
   ·exact ih x hx
 exact all r x hx
def Gn {kvs:List (List Key × V)} (ok:HOk P w H h) (e:H a=some (.dT kvs)):kvs.length <= sizeLine /\ (a == sysModules)=false /\
  ∃ xs,KT H kvs xs /\ h.DictOfH (tupleKind (zv P w)) a xs:=Wh ok (.inl e)
end
def DGet (H:Hp) (a:Addr) (y:V) (r:Option V):Prop :=
 (∃ kvs k,Rd H a (.dK kvs) /\ y=kV k /\ r=valV kvs k) \/ ∃ kvs k b,Rd H a (.dT kvs) /\ y=.ref b /\ H b=some (.tup (k.map kV)) /\ r=valV kvs k
def DPut (H:Hp) (a:Addr) (y v:V) (H':Hp):Prop :=
 (∃ kvs k,H a=some (.dK kvs) /\ y=kV k /\ kvs.length < sizeLine /\ H'=upd H a (.dK (putK kvs k v))) \/
 ∃ kvs k b,H a=some (.dT kvs) /\ y=.ref b /\ H b=some (.tup (k.map kV)) /\ kvs.length < sizeLine /\ H'=upd H a (.dT (putK kvs k v))
def DGet.k {H:Hp} {a:Addr} {kvs:List (Key × V)} {k:Key} (e:H a=some (.dK kvs)):DGet H a (kV k) (valV kvs k):=.inl ⟨kvs,k,.inl e,rfl,rfl⟩
def DGet.t {H:Hp} {a b:Addr} {kvs:List (List Key × V)} {k:List Key} (e:H a=some (.dT kvs)) (eb:H b=some (.tup (k.map kV))):DGet H a (.ref b) (valV kvs k):=.inr ⟨kvs,k,b,.inl e,rfl,eb,rfl⟩
def DPut.k {H:Hp} {a:Addr} {kvs:List (Key × V)} {k:Key} {v:V} (e:H a=some (.dK kvs)) (hl:kvs.length < sizeLine):DPut H a (kV k) v (upd H a (.dK (putK kvs k v))):=.inl ⟨kvs,k,e,rfl,hl,rfl⟩
def DPut.t {H:Hp} {a b:Addr} {kvs:List (List Key × V)} {k:List Key} {v:V} (e:H a=some (.dT kvs)) (eb:H b=some (.tup (k.map kV))) (hl:kvs.length < sizeLine) :
  DPut H a (.ref b) v (upd H a (.dT (putK kvs k v))):=.inr ⟨kvs,k,b,e,rfl,eb,hl,rfl⟩
section
variable {X:Cx} {pn:List (Addr × Obj)} {σ:St} {H:Hp} {s:Shared} {a:Addr} {y v:V} {u r:Value} {o:Option V} {A:Around} {E:Value->Shared->Prop}
def Inv.big (I:Inv X pn σ H s):sysModules < s.heap.objs.size:=by
 have h:mainGlobals < s.heap.objs.size:=(I.mod.glob.keeps I.bk).lt
 exact Nat.lt_trans (by decide) h
def b6 {Q:Value->Shared->Prop} (hu:A.units + 1 < cLine) (I:Inv X pn σ H s) (g:DGet H a y (some v)) (ry:RelV y u) (h:∀ w' s',Inv X pn σ H s'->RelV v w'->Q w' s') :
  wpAny (model X.prog X.w) A (getItem (.ref a) u) Q E s:=by
 rcases g with ⟨kvs,k,e,ey,l⟩ | ⟨kvs,k,b,e,ey,eb,l⟩
 ·subst ey
  obtain ⟨z,hd,vs,rel,dd⟩:=Zv I.hok e
  obtain ⟨w',hw,rw'⟩:=RelO.some_of (v:=v) (o:=valueAt vs k) (by rw [l]; exact rel.val k)
  exact wpAny_getItem_of (d6 ry) dd.mapOf hw (h w' _ (I.tok _) rw')
 ·subst ey
  cases (show u=Value.ref b from ry)
  obtain ⟨z,hd,xs,rel,dd⟩:=Wh I.hok e
  obtain ⟨w',hw,rw'⟩:=RelO.some_of (v:=v) (o:=(atKey xs k).map (·.2)) (by rw [l]; exact rel.val k)
  obtain ⟨p,hp,hp2⟩:=Option.map_eq_some_iff.mp hw
  refine wpAny_getItem_heap (tupleKind_room_in1 hu) (kt I.hok eb) dd hp ?_
  rw [hp2]
  exact h w' _ (I.tok _) rw'
def d_in {Q:Value->Shared->Prop} (hu:A.units + 1 < cLine) (I:Inv X pn σ H s) (g:DGet H a y o) (ry:RelV y u) (h:∀ s',Inv X pn σ H s'->Q (.bool o.isSome) s') :
  wpAny (model X.prog X.w) A (compareOp .In u (.ref a)) Q E s:=by
 rcases g with ⟨kvs,k,e,ey,l⟩ | ⟨kvs,k,b,e,ey,eb,l⟩
 ·subst ey
  obtain ⟨z,hd,vs,rel,dd⟩:=Zv I.hok e
  refine wpAny_in_of (d6 ry) hd dd.mapOf ?_
  rw [<- (rel.val k).isSome_eq,<- l]
  exact h _ (I.tok _)
 ·subst ey
  cases (show u=Value.ref b from ry)
  obtain ⟨z,hd,xs,rel,dd⟩:=Wh I.hok e
  refine wpAny_in_heap (tupleKind_room_in1 hu) (kt I.hok eb) hd dd ?_
  have q:=(rel.val k).isSome_eq
  rw [Option.isSome_map] at q
  rw [<- q,<- l]
  exact h _ (I.tok _)
def ve {h':Heap} {t':Nat} {ob:HO} (I:Inv X pn σ H s) (mu:Mut (H a)) (hs:Heap.SameBut a s.heap h') (he:∃ q,h'.get? a=some q) (new:ye X.prog X.w (upd H a ob) h' a ob) :
  Inv X pn σ (upd H a ob) { s with heap:=h',toks:=t' } :=
 I.write (x:=a) (e:=a) mu (.inl rfl) (λb q hb z=>(hs.2 b hb).trans z) he new
def b3 {P:Program} {w:World} {H':Hp} {h':Heap} {kvs:List (Key × V)} {vs:List (Key × Value)} (z:kvs.length <= sizeLine) (hd:(a == sysModules)=false) (rel:KV kvs vs) (dd:h'.DictOf (zv P w) a vs) :
  ye P w H' h' a (.dK kvs):=⟨z,hd,vs,rel,dd⟩
def b5 {H':Hp} {Q:Unit->Shared->Prop} (hu:A.units + 1 < cLine) (I:Inv X pn σ H s) (g:DPut H a y v H') (ry:RelV y u) (rv:RelV v r) (h:∀ s',Inv X pn σ H' s'->Q () s') :
  wpAny (model X.prog X.w) A (setItem (.ref a) u r) Q E s:=by
 rcases g with ⟨kvs,k,e,ey,l,eH⟩ | ⟨kvs,k,b,e,ey,eb,l,eH⟩
 ·subst ey eH
  obtain ⟨z,hd,vs,rel,dd⟩:=g9 I.hok e
  have hz:vs.length <= sizeLine:=by rw [<- rel.length]; exact z
  have hl:(putK kvs k v).length <= sizeLine:=by have:=re kvs k v; omega
  refine wpAny_setItem_pairs (hsz:=hz) (d6 ry) dd λh' dd' hs=>h _ ?_
  have he:∃ q,h'.get? a=some q:=let ⟨q,_,_,hq,_⟩:=dd'; ⟨q,hq⟩
  exact ve I (by rw [e]; exact True.intro) hs he (b3 hl hd (rel.put k rv) dd')
 ·subst ey eH
  cases (show u=Value.ref b from ry)
  obtain ⟨z,hd,xs,rel,dd⟩:=Gn I.hok e
  have hz:xs.length <= sizeLine:=by rw [<- Paired.length rel]; exact z
  have hl:(putK kvs k v).length <= sizeLine:=by have:=re kvs k v; omega
  refine wpAny_setItem_heap (hsz:=hz) (tupleKind_room_in1 hu) (kt I.hok eb) dd λh' dd' hs=>h _ ?_
  obtain ⟨q,es,ep,hq,h2,h3,h4,_,h5⟩:=dd'
  refine ve I (by rw [e]; exact True.intro) hs ⟨q,hq⟩ ⟨hl,hd,_,(rel.put k eb rv).keeps λc ys ec=>?_,q,es,ep,hq,h2,h3,h4,h5⟩
  rw [zi (Gc ec e (λz=>nomatch z))]
  exact ec
end
section
variable {X:Cx} {pn:List (Addr × Obj)} {σ:St} {H:Hp} {s:Shared} {a:Addr} {kvs:List (Key × V)} {k:Key} {u:Value} {A:Around} {E:Value->Shared->Prop}
def Gp {Q:Value->Shared->Prop} (I:Inv X pn σ H s) (e:Rd H a (.dK kvs)) (h:∀ t s',Inv X pn σ H s'->Q (.int kvs.length t) s'):wpAny (model X.prog X.w) A (call (.builtin "len") [.ref a]) Q E s:=by
 obtain ⟨z,hd,vs,rel,dd⟩:=Zv I.hok e
 refine call_len_dict hd dd (by rw [<- rel.length]; rw [sizeLine_eq] at z; omega) ?_
 rw [<- rel.length]
 exact h _ _ (I.tok _)
end
def Zw {X:Cx} {pn:List (Addr × Obj)} {σ:St} {H:Hp} {s:Shared} {a:Addr} {y:V} {o:Option V} (I:Inv X pn σ H s) (g:DGet H a y o):s.TypeIs (.ref a) "dict":=by
 rcases g with ⟨kvs,k,e,_,_⟩ | ⟨kvs,k,b,e,_,_,_⟩
 ·obtain ⟨_,_,vs,_,dd⟩:=Zv I.hok e
  exact dd.typeIs
 ·obtain ⟨_,_,xs,_,dd⟩:=Wh I.hok e
  exact dd.typeIs
def Lv (td ty tv:TE):TS:=λD σ H=>tv σ H λv H1=>td σ H1 λx H2=>ty σ H2 λy H3=>∃ a H4,x=.ref a /\ DPut H3 a y v H4 /\ D.nx σ H4
def G1 (td ty tv:TE) (rd:V->V->Hp->VK->Prop):TS:=λD σ H=>td σ H λx H1=>ty σ H1 λy H2=>∃ a v,x=.ref a /\ DGet H2 a y (some v) /\
 tv σ H2 λy2 H3=>rd v y2 H3 λz H4=>∃ H5,DPut H4 a y z H5 /\ D.nx σ H5
section
variable {X:Cx} {o i e value:Expr} {pos pos' tpos:Pos} {td ty tv:TE}
def bz (hu:X.A.units + 1 < cLine) (ho:PE X o td) (hi:PE X i ty) (hv:PE X value tv) (hs:swapsWith value (some (.Subscript o i pos')) pos.line X.env=pure false) :
  PS X (.Assign [.Subscript o i pos'] value pos) (Lv td ty tv):=by
 intro pn s σ H D I h
 refine wpAny_Assign_Subscript (thn (hv pn s σ H _ I h) λr s1 ⟨v,H1,I1,rv,q1⟩=>thn (ho pn s1 σ H1 _ I1 q1) λu s2 ⟨x,H2,I2,rx,q2⟩=>thn (hi pn s2 σ H2 _ I2 q2) λiv s3 ⟨y,H3,I3,ry,a,H4,ex,g,q3⟩=>?_) hs
 subst ex
 obtain rfl:u=Value.ref a:=rx
 exact b5 hu I3 g ry rv λs4 I4=>⟨σ,H4,I4,q3⟩
def N2 {op:Operator} {rd:V->V->Hp->VK->Prop} (hu:X.A.units + 1 < cLine) (ho:PE X o td) (hi:PE X i ty) (hv:PE X value tv) (hop:InOp X op rd)
  (ha:∀ ov iv new,augStore i ov iv new=(do holding [new,ov,iv] (setItem ov iv new); release [new,ov,iv] []; pure .next)):PS X (.AugAssign (.Subscript o i tpos) op value pos) (G1 td ty tv rd):=by
 intro pn s σ H D I h
 refine wpAny_AugAssign_SubscriptAny (thn (ho pn s σ H _ I h) λu s1 ⟨x,H1,I1,rx,q1⟩=>thn (hi pn s1 σ H1 _ I1 q1) λiv s2 ⟨y,H2,I2,ry,a,v,ex,g,q2⟩=>?_) ha
 subst ex
 obtain rfl:u=Value.ref a:=rx
 refine b6 hu I2 g ry λw' s3 I3 rw'=>thn (hv pn s3 σ H2 _ I3 q2) λw2 s4 ⟨y2,H3,I4,ry2,q3⟩=>thn (hop pn s4 σ H3 v y2 w' w2 _ I4 rw' ry2 q3) λw3 s5 ⟨z,H4,I5,rz,H5,g5,q4⟩=>?_
 exact b5 hu I5 g5 ry rz λs6 I6=>⟨σ,H5,I6,q4⟩
end
def Qz {P:Program} {w:World} {H:Hp} (h:Heap) (hb:sysModules < h.objs.size):ye P w H (h.push { cls:=.type "dict", data:=.dict #[] }) h.objs.size (.dK []) :=
 ⟨Nat.zero_le _,beq_eq_false_iff_ne.mpr (Ne.symm (Nat.ne_of_lt hb)),[],.nil,Heap.DictOf.new h⟩
def Qw {P:Program} {w:World} {H:Hp} (h:Heap) (hb:sysModules < h.objs.size):ye P w H (h.push { cls:=.type "dict", data:=.dict #[] }) h.objs.size (.dT []) :=
 ⟨Nat.zero_le _,beq_eq_false_iff_ne.mpr (Ne.symm (Nat.ne_of_lt hb)),[],.nil,_,#[],0,Heap.get?_push_size _ rfl,⟨rfl,rfl,rfl⟩,rfl,rfl,List.nodup_nil⟩
def Lg:TE:=λ_ H Q=>∀ p,H p=none->Q (.ref p) (upd H p (.dK []))
def Lf:TE:=λ_ H Q=>∀ p,H p=none->Q (.ref p) (upd H p (.dT []))
section
variable {X:Cx} {pos:Pos}
def Rp:PE X (.Dict [] [] pos) Lg:=λpn s σ H Q I h =>
 wpAny_Dict_empty ⟨.ref s.heap.objs.size,_,I.laid (a:=s.heap.objs.size) (o:=.dK []) (t':=s.toks) (λ_ _ q=>Heap.get?_push_of_some _ q) (Nat.le_refl _) (Qz s.heap I.big),rfl,h _ (I.hok.fresh (Nat.le_refl _))⟩
def Ro:PE X (.Dict [] [] pos) Lf:=λpn s σ H Q I h =>
 wpAny_Dict_empty ⟨.ref s.heap.objs.size,_,I.laid (a:=s.heap.objs.size) (o:=.dT []) (t':=s.toks) (λ_ _ q=>Heap.get?_push_of_some _ q) (Nat.le_refl _) (Qw s.heap I.big),rfl,h _ (I.hok.fresh (Nat.le_refl _))⟩
end
structure M1 (X:Cx) (o:Expr) (m:Str) (apos:Pos) (e:Expr) (cpos:Pos):Prop where
 base:attributeBase o m X.env (eval o X.env)=eval o X.env
 few:((backTo cpos (starEach [e] X.env)).all (λx=>!x.1) && (backToKw cpos (keywordEach [] X.env)).all (λx=>x.1.isSome)
  && decide (([e]:List Expr).length + ([]:List Keyword).length + (if ([]:List Keyword).isEmpty then 0 else 1) < 30))=true
 line:(apos.endLine == cpos.line)=true
 trees:backTo cpos (starEach [e] X.env)=[(false,eval e X.env)]
structure M2 (X:Cx) (o:Expr) (m:Str) (apos:Pos) (e f:Expr) (cpos:Pos):Prop where
 base:attributeBase o m X.env (eval o X.env)=eval o X.env
 few:((backTo cpos (starEach [e,f] X.env)).all (λx=>!x.1) && (backToKw cpos (keywordEach [] X.env)).all (λx=>x.1.isSome)
  && decide (([e,f]:List Expr).length + ([]:List Keyword).length + (if ([]:List Keyword).isEmpty then 0 else 1) < 30))=true
 line:(apos.endLine == cpos.line)=true
 trees:backTo cpos (starEach [e,f] X.env)=[(false,eval e X.env),(false,eval f X.env)]
def IsD (H:Hp) (a:Addr):Prop:=(∃ kvs,Rd H a (.dK kvs)) \/ ∃ kvs,Rd H a (.dT kvs)
def Pt {X:Cx} {pn:List (Addr × Obj)} {σ:St} {H:Hp} {s:Shared} {a:Addr} (I:Inv X pn σ H s) (d:IsD H a) :
  s.TypeIs (.ref a) "dict" /\ (∀ b,Value.ref a=.ref b->∃ ob,s.heap.get? b=some ob /\ ob.dict=none) /\ (a == sysModules)=false:=by
 rcases d with ⟨kvs,e⟩ | ⟨kvs,e⟩
 ·obtain ⟨_,hd,vs,_,dd⟩:=Zv I.hok e
  refine ⟨dd.typeIs,λb q=>?_,hd⟩
  cases q
  obtain ⟨ob,_,_,h1,h2,_⟩:=dd
  exact ⟨ob,h1,h2.2.1⟩
 ·obtain ⟨_,hd,xs,_,dd⟩:=Wh I.hok e
  refine ⟨dd.typeIs,λb q=>?_,hd⟩
  cases q
  obtain ⟨ob,_,_,h1,h2,_⟩:=dd
  exact ⟨ob,h1,h2.2.1⟩
section
variable {X:Cx} {pn:List (Addr × Obj)} {σ:St} {H:Hp} {s:Shared} {a:Addr} {y d:V} {u r:Value} {o:Option V} {A:Around} {E:Value->Shared->Prop}
def He {Q:Value->Shared->Prop} (hu:A.units + 1 < cLine) (I:Inv X pn σ H s) (g:DGet H a y o) (ry:RelV y u) (rd:RelV d r) (h:∀ w' s',Inv X pn σ H s'->RelV (o.getD d) w'->Q w' s') :
  wpAny (model X.prog X.w) A (call (.builtin "dict.get") [.ref a,u,r]) Q E s:=by
 rcases g with ⟨kvs,k,e,ey,l⟩ | ⟨kvs,k,b,e,ey,eb,l⟩
 ·subst ey
  obtain ⟨z,hd,vs,rel,dd⟩:=Zv I.hok e
  refine call_meetsIn PySem.F.slot_dict_get dd.typeIs PySem.F.entry_dict_get (PySem.F.args_dict_get_3 _ _ _) (meets_dict_get_default (zv X.prog X.w) a (d6 ry) hd r) ⟨_,dd.mapOf,h _ _ (I.tok _) ?_⟩
  rw [l]
  exact (rel.val k).getD rd
 ·subst ey
  cases (show u=Value.ref b from ry)
  obtain ⟨z,hd,xs,rel,dd⟩:=Wh I.hok e
  refine call_meetsIn PySem.F.slot_dict_get dd.typeIs PySem.F.entry_dict_get (PySem.F.args_dict_get_3 _ _ _) (meetsH_dict_get_default (tupleKind (zv X.prog X.w)) a b hd r) ⟨tupleKind_room_in1 hu,k,xs,kt I.hok eb,dd,h _ _ (I.tok _) ?_⟩
  rw [l]
  exact (rel.val k).getD rd
end
def Lh (td ty tx:TE):TE:=λσ H Q=>td σ H λx H1=>∃ a,x=.ref a /\ IsD H1 a /\ ty σ H1 λy H2=>tx σ H2 λz H3=>∃ o,DGet H3 a y o /\ Q (o.getD z) H3
section
variable {X:Cx} {o e f:Expr} {apos cpos:Pos} {td ty tx:TE}
def Rq (hu:X.A.units + 1 < cLine) (ho:PE X o td) (he:PE X e ty) (hf:PE X f tx) (m:M2 X o "get" apos e f cpos):PE X (.Call (.Attribute o "get" apos) [e,f] [] cpos) (Lh td ty tx):=by
 intro pn s σ H Q I h
 refine wpAny_Call_method m.base m.few m.line PySem.F.plainAttrs_dict PySem.F.slot_dict_get PySem.F.type_dict_get (thn (ho pn s σ H _ I h) λu s1 ⟨x,H1,I1,rx,a,ex,d,q1⟩=>?_)
 subst ex
 obtain rfl:u=Value.ref a:=rx
 obtain ⟨t1,t2,_⟩:=Pt I1 d
 refine ⟨t1,t2,?_⟩
 rw [m.trees]
 refine Calls.callWith_builtin rfl (Calls.evalArgs_plain (Calls.spliced_cons (thn (he pn s1 σ H1 _ I1 q1) λiv s2 ⟨y,H2,I2,ry,q2⟩ =>
  Calls.spliced_cons (thn (hf pn s2 σ H2 _ I2 q2) λfv s3 ⟨z,H3,I3,rz,ov,g,q3⟩=>Calls.spliced_nil ?_))))
 exact He hu I3 g ry rz λw' s4 I4 rw'=>⟨_,H3,I4,rw',q3⟩
end
section
variable {X:Cx}
def b9:w5 X (.builtin "len") (λxs H Q=>∃ a kvs,xs=[V.ref a] /\ H a=some (.dK kvs) /\ Q (.int kvs.length) H):=by
 intro pn s σ H xs us Q I r h
 obtain ⟨a,kvs,rfl,ha,q⟩:=h
 obtain ⟨u,rfl,ru⟩:=ux r
 cases ru
 exact Gp I (.inl ha) λt s' I'=>⟨.int kvs.length,H,I',⟨t,rfl⟩,q⟩
end
end L2
namespace DL
open PySem PySem.Spec L2 L3
open PyProof.Rows hiding St
variable {Γ:Hp->Prop}
instance decMemKey (k:Key) (ks:List Key):Decidable (k ∈ ks):=decidable_of_iff (ks.any (λx=>decide (x=k))=true) (by simp)
section
variable {α:Type}
def zw:List Key->List α->Key->Option α
 | k' :: ks,d :: ds,k=>if k'=k then some d else zw ks ds k
 | _,_,_=>none
def kput (ks:List Key) (k:Key):List Key:=if k ∈ ks then ks else ks ++ [k]
def dput:List Key->List α->Key->α->List α
 | k' :: ks,d' :: ds,k,d=>if k'=k then d :: ds else d' :: dput ks ds k d
 | _,_,_,d=>[d]
end
def vg:∀ (ks:List Key) (xs:List V) (k:Key),valV (ks.zip xs) k=zw ks xs k
 | [],xs,k=>by cases xs <;> rfl
 | k' :: ks,[],k=>rfl
 | k' :: ks,x :: xs,k=>by
  rw [List.zip_cons_cons,zw]
  by_cases e:k'=k
  ·rw [if_pos e,vh (by exact e)]
  ·rw [if_neg e,vi (by exact e),vg ks xs k]
def xx {α:Type}:∀ {ks:List Key} {xs:List α} {k:Key},ks.length=xs.length->(zw ks xs k=none ↔ k ∉ ks)
 | [],xs,k,h=>by cases xs <;> simp [zw] at *
 | k' :: ks,[],k,h=>by simp at h
 | k' :: ks,x :: xs,k,h=>by
  rw [zw]
  by_cases e:k'=k
  ·simp [e]
  ·rw [if_neg e,xx (by simpa using h)]
   simp [e,Ne.symm e]
def Uh:∀ (ks:List Key) (xs:List V) (k:Key) (v:V),k ∉ ks->(ks.zip xs).map (λkv=>if kv.1=k then (kv.1,v) else kv)=ks.zip xs
 | [],xs,k,v,_=>by cases xs <;> rfl
 | k' :: ks,[],k,v,_=>rfl
 | k' :: ks,x :: xs,k,v,h=>by
  rw [List.zip_cons_cons,List.map_cons,Uh ks xs k v λz=>h (List.mem_cons_of_mem _ z)]
  rw [if_neg (by intro z; exact h (List.mem_cons.mpr (.inl z.symm)))]
def Y1:∀ {ks:List Key} {xs:List V} {k:Key},ks.length=xs.length->(((ks.zip xs).any λkv=>decide (kv.1=k))=true ↔ k ∈ ks)
 | [],xs,k,h=>by cases xs <;> simp at *
 | k' :: ks,[],k,h=>by simp at h
 | k' :: ks,x :: xs,k,h=>by
  rw [List.zip_cons_cons,List.any_cons,Bool.or_eq_true,Y1 (by simpa using h)]
  simp [eq_comm]
def Pm:∀ {ks:List Key} {xs:List V} {k:Key} {v:V},ks.Nodup->ks.length=xs.length->k ∈ ks->(ks.zip xs).map (λkv=>if kv.1=k then (kv.1,v) else kv)=ks.zip (dput ks xs k v)
 | [],_,_,_,_,_,h=>by cases h
 | k' :: ks,[],_,_,_,h,_=>by simp at h
 | k' :: ks,x :: xs,k,v,nd,hl,h=>by
  obtain ⟨n1,n2⟩:=List.nodup_cons.mp nd
  rw [List.zip_cons_cons,List.map_cons,dput]
  by_cases e:k'=k
  ·subst e
   rw [if_pos rfl,if_pos rfl,Uh ks xs k' v n1,List.zip_cons_cons]
  ·rw [if_neg e,if_neg e,List.zip_cons_cons,Pm n2 (by simpa using hl) ((List.mem_cons.mp h).resolve_left (Ne.symm e))]
def tq {α:Type}:∀ {ks:List Key} {xs:List α} {k:Key} {v:α},ks.length=xs.length->k ∉ ks->dput ks xs k v=xs ++ [v]
 | [],xs,k,v,h,_=>by
  cases xs with
  | nil=>rfl
  | cons=>simp at h
 | k' :: ks,[],_,_,h,_=>by simp at h
 | k' :: ks,x :: xs,k,v,h,hn=>by
  rw [dput,if_neg (λz=>hn (List.mem_cons.mpr (.inl z.symm))),tq (by simpa using h) λz=>hn (List.mem_cons_of_mem _ z)]
  rfl
def jh {ks:List Key} {xs:List V} {k:Key} {v:V} (nd:ks.Nodup) (hl:ks.length=xs.length):putK (ks.zip xs) k v=(kput ks k).zip (dput ks xs k v):=by
 unfold putK kput
 by_cases h:k ∈ ks
 ·rw [if_pos ((Y1 hl).mpr h),if_pos h,Pm nd hl h]
 ·rw [if_neg (λz=>h ((Y1 hl).mp z)),if_neg h,tq hl h,List.zip_append hl]
  rfl
def g6 {α:Type}:∀ {ks:List Key} {xs:List α} {k:Key} {v:α},ks.length=xs.length->(kput ks k).length=(dput ks xs k v).length:=λ{ks xs k v} h=>by
 by_cases hk:k ∈ ks
 ·unfold kput
  rw [if_pos hk]
  induction ks generalizing xs with
  | nil=>cases hk
  | cons k' ks ih =>
   cases xs with
   | nil=>simp at h
   | cons x xs =>
    rw [dput]
    by_cases e:k'=k
    ·rw [if_pos e]; simpa using h
    ·rw [if_neg e]
     have:=ih (xs:=xs) (by simpa using h) ((List.mem_cons.mp hk).resolve_left (Ne.symm e))
     simp [this]
 ·rw [tq h hk]
  unfold kput
  rw [if_neg hk]
  simp [h]
def ko {ks:List Key} {k:Key} (nd:ks.Nodup):(kput ks k).Nodup:=by
 unfold kput
 split
 ·exact nd
 ·rename_i h
  exact List.nodup_append.mpr ⟨nd,by simp,by intro a ha b hb e; simp at hb; subst hb; exact h (e ▸ ha)⟩
section
variable {K:W.Frag} {H:Hp} {O:List Addr}
def sr:∀ {ks:List Key} {ds:List D} {xs:List V} {k:Key},Reps K H O ds xs->(∀ d,zw ks ds k=some d->∃ v,zw ks xs k=some v /\ Rep K H O d v) /\ (zw ks ds k=none->zw ks xs k=none)
 | [],ds,xs,k,r=>⟨(λd h=>by cases ds <;> cases h),(λ_=>by cases xs <;> rfl)⟩
 | k' :: ks,[],xs,k,r=>by
  cases r
  exact ⟨(λd h=>by cases h),λ_=>rfl⟩
 | k' :: ks,d' :: ds,xs,k,r=>by
  obtain ⟨v,ws,rfl,q,t⟩:=r
  rw [zw,zw]
  by_cases e:k'=k
  ·rw [if_pos e,if_pos e]
   exact ⟨(λd h=>by cases h; exact ⟨v,rfl,q⟩),(λh=>by cases h)⟩
  ·rw [if_neg e,if_neg e]
   exact sr t
def vo:∀ {ks:List Key} {ds:List D} {xs:List V} {k:Key} {d:D} {v:V},Reps K H O ds xs->Rep K H O d v->Reps K H O (dput ks ds k d) (dput ks xs k v)
 | [],ds,xs,k,d,v,r,q=>by
  have e1:dput ([]:List Key) ds k d=[d]:=by cases ds <;> rfl
  have e2:dput ([]:List Key) xs k v=[v]:=by cases xs <;> rfl
  rw [e1,e2]
  exact Reps.one q
 | k' :: ks,[],xs,k,d,v,r,q=>by
  cases r
  exact Reps.one q
 | k' :: ks,d' :: ds,xs,k,d,v,r,q=>by
  obtain ⟨v',ws,rfl,q',t⟩:=r
  rw [dput,dput]
  by_cases e:k'=k
  ·rw [if_pos e,if_pos e]
   exact ⟨v,ws,rfl,q,t⟩
  ·rw [if_neg e,if_neg e]
   exact ⟨v',_,rfl,q',vo t q⟩
end
def keyD:D->Option Key
 | .int i=>some (.inl i)
 | .str x=>some (.inr x)
 | _=>none
def vz {K:W.Frag} {H:Hp} {O:List Addr} {d:D} {v:V} {k:Key} (h:View K H O d v) (e:keyD d=some k):v=kV k:=by
 cases d with
 | int i=>cases e; exact h
 | str i=>cases e; exact h
 | _=>cases e
section
variable {X:Cx} {a b c e o:Expr} {es:List Expr} {ta tb tc te td:TD} {t:TDs} {pos:Pos}
def Qt:ED Γ X (.Dict [] [] pos) (λ_ φ=>φ (df (.dk [] []))):=λH₀=>impE Rp λσ H Q q=>by
 obtain ⟨ρ,o,R,φ,hφ,k⟩:=q
 intro p hp
 exact k (.ref p) (df (.dk [] [])) _ (zo hp _) ⟨p,rfl,hp,R.ofree hp,[],zg,rfl,List.nodup_nil,rfl⟩ hφ
def Pk (hu:X.A.units + 1 < cLine):OpR X (compareOp .In) (λx y H Q=>∃ a kvs k,y=.ref a /\ H a=some (.dK kvs) /\ x=kV k /\ Q (.bl (valV kvs k).isSome) H):=by
 intro pn s σ H x y v u Q I rx ry h
 obtain ⟨a,kvs,k,rfl,ha,rfl,q⟩:=h
 cases ry
 exact d_in hu I (DGet.k ha) rx λs' I'=>⟨.bl _,H,I',rfl,q⟩
def rh {α:Type} {ks:List Key} {xs:List α} {k:Key} (h:ks.length=xs.length):(zw ks xs k).isSome=decide (k ∈ ks):=by
 by_cases hk:k ∈ ks
 ·rw [decide_eq_true hk]
  cases e:zw ks xs k with
  | none=>exact absurd hk ((xx h).mp e)
  | some _=>rfl
 ·rw [decide_eq_false hk,(xx h).mpr hk]
  rfl
def qu:D->Bool
 | .non=>true
 | .bl _=>true
 | .int _=>true
 | .str _=>true
 | _=>false
def inD (x:D) (l:List D):Bool:=l.any λy=>eqD y x
def sIn (neg:Bool):D->D->(EV->Prop)->Prop:=λx y φ=>match y with
 | .dk ks _=>(match keyD x with | some k=>φ (dv (.bl (if neg then !decide (k ∈ ks) else decide (k ∈ ks)))) | none=>False)
 | .lst l=>qu x=true /\ l.all qu=true /\ φ (dv (.bl (if neg then !inD x l else inD x l)))
 | .tup l=>qu x=true /\ l.all qu=true /\ φ (dv (.bl (if neg then !inD x l else inD x l)))
 | .str z=>(match x with | .str p=>φ (dv (.bl (if neg then !(!(Builtin.Str.occurrences z p 0 z.length 1).isEmpty) else !(Builtin.Str.occurrences z p 0 z.length 1).isEmpty))) | _=>False)
 | _=>False
def rq {K:W.Frag} {H:Hp} {O:List Addr} {d:D} {v:V} (h:View K H O d v) (f:qu d=true):qt v=true /\ ∀ (e:D) (w:V),View K H O e w->qu e=true->eqV v w=eqD d e:=by
 cases d with
 | non=>cases (show v=_ from h); exact ⟨rfl,λe w he fe=>by cases e <;> first | (cases (show w=_ from he); rfl) | cases fe⟩
 | bl b=>cases (show v=_ from h); exact ⟨rfl,λe w he fe=>by cases e <;> first | (cases (show w=_ from he); rfl) | cases fe⟩
 | int b=>cases (show v=_ from h); exact ⟨rfl,λe w he fe=>by cases e <;> first | (cases (show w=_ from he); rfl) | cases fe⟩
 | str b=>cases (show v=_ from h); exact ⟨rfl,λe w he fe=>by cases e <;> first | (cases (show w=_ from he); rfl) | cases fe⟩
 | _=>cases f
def Zl {K:W.Frag} {H:Hp} {O:List Addr} {x:D} {v:V} (hx:View K H O x v) (fx:qu x=true):∀ {l:List D} {xs:List V},Reps K H O l xs->l.all qu=true->xs.all qt=true /\ inV v xs=inD x l
 | [],_,r,_=>by cases r; exact ⟨rfl,rfl⟩
 | d :: l,xs,r,f=>by
  obtain ⟨w,ws,rfl,q,t⟩:=r
  rw [List.all_cons,Bool.and_eq_true] at f
  obtain ⟨i1,i2⟩:=Zl hx fx t f.2
  obtain ⟨g1,g2⟩:=rq q.view f.1
  refine ⟨by rw [List.all_cons,g1,i1]; rfl,?_⟩
  unfold inV inD at *
  rw [List.any_cons,List.any_cons,i2,g2 x v hx fx]
def Ul {K:W.Frag} {neg:Bool}:uk K (λx y H Q=>(∃ a kvs k,y=.ref a /\ H a=some (.dK kvs) /\ x=kV k /\ Q (.bl (if neg then !(valV kvs k).isSome else (valV kvs k).isSome)) H) \/ rIn K neg x y H Q \/ ∃ i j,x=.str i /\ y=.str j /\ Q (.bl (if neg then !(!(Builtin.Str.occurrences j i 0 j.length 1).isEmpty) else !(Builtin.Str.occurrences j i 0 j.length 1).isEmpty)) H) (sIn neg):=by
 intro H O x y vx vy φ Q ho hx hy h k
 unfold sIn at h
 split at h
 ·split at h
  ·rename_i ks ds kk ek
   obtain ⟨a,xs,rfl,q,l,nd,r⟩:=hy
   refine .inl ⟨a,_,kk,rfl,q,vz hx ek,?_⟩
   rw [vg,rh (by rw [l,r.length])]
   exact k _ _ H (Same.refl H) (by exact rfl) h
  ·exact h.elim
 ·obtain ⟨f1,f2,h⟩:=h
  obtain ⟨a,xs,rfl,q,r⟩:=hy
  obtain ⟨g1,g2⟩:=Zl hx f1 r f2
  refine .inr (.inl ⟨a,xs,rfl,.inl (SqL.of q),(rq hx f1).1,g1,?_⟩)
  rw [g2]
  exact k _ _ H (Same.refl H) (by exact rfl) h
 ·obtain ⟨f1,f2,h⟩:=h
  obtain ⟨a,xs,rfl,q,r⟩:=hy
  obtain ⟨g1,g2⟩:=Zl hx f1 r f2
  refine .inr (.inl ⟨a,xs,rfl,.inr q.1,(rq hx f1).1,g1,?_⟩)
  rw [g2]
  exact k _ _ H (Same.refl H) (by exact rfl) h
 ·split at h
  ·exact .inr (.inr ⟨_,_,hx,hy,k _ _ H (Same.refl H) (by exact rfl) h⟩)
  ·exact h.elim
 ·exact h.elim
def Jz (hu:X.A.units + 64 < cLine) (ha:ED Γ X a ta) (hb:ED Γ X b tb) (hm:behindInMarks .In b=false:=by with_unfolding_all rfl):ED Γ X (.Compare a [.In] [b] pos) (d2 (sIn false) ta tb):=X0 ((Pk (by omega)).or (fm.or fk)) Ul ha hb hm
def Gk (hu:X.A.units + 64 < cLine) (ha:ED Γ X a ta) (hb:ED Γ X b tb) (hm:behindInMarks .In b=false:=by with_unfolding_all rfl):ET Γ X (.Compare a [.In] [b] pos) (tBo (d2 (sIn false) ta tb)):=cw ((Pk (by omega)).or (fm.or fk)) Ul ha hb hm
def sIxx:D->D->(EV->Prop)->Prop:=λx y φ=>match x with
 | .dk ks ds=>(match keyD y with
  | some k=>(match zw ks ds k with
   | some d=>φ (dv d)
   | none=>False)
  | none=>False)
 | x=>sIx x y φ
def M4 (hu:X.A.units + 1 < cLine):IxR X (λx y H Q=>∃ a kvs k v,x=.ref a /\ H a=some (.dK kvs) /\ y=kV k /\ valV kvs k=some v /\ Q v H):=by
 intro value slice pn s σ H x y v u Q I rx ry h hs
 obtain ⟨a,kvs,k,w,rfl,ha,rfl,e,q⟩:=h
 cases rx
 have g:DGet H a (kV k) (some w):=by rw [<- e]; exact DGet.k ha
 exact tail_any (Zw I g) PySem.F.slot_dict_getitem.lookup (b6 hu I g ry λw' s' I' rw'=>⟨w,H,I',rw',q⟩) hs
def Q2:uk X.K (λx y H Q=>rIx X.K x y H Q \/ ∃ a kvs k v,x=.ref a /\ H a=some (.dK kvs) /\ y=kV k /\ valV kvs k=some v /\ Q v H) sIxx:=by
 intro H O x y vx vy φ Q ho hx hy h k
 cases x with
 | dk ks ds =>
  obtain ⟨a,xs,rfl,q,l,nd,r⟩:=hx
  unfold sIxx at h
  dsimp only at h
  split at h
  ·rename_i kk ek
   split at h
   ·rename_i d ed
    obtain ⟨v,ev,rv⟩:=(sr (ks:=ks) (k:=kk) r).1 d ed
    exact .inr ⟨a,_,kk,v,rfl,q,vz hy ek,by rw [vg]; exact ev,k _ _ H (Same.refl H) (RV.val rv) h⟩
   ·exact h.elim
  ·exact h.elim
 | _=>exact .inl (Nq H O _ y vx vy φ Q ho hx hy h k)
def y0 (hu:X.A.units + 64 < cLine) (ha:ED Γ X a ta) (hb:ED Γ X b tb) (hs:S9 b:=by intro _ _; rfl):ED Γ X (.Subscript a b pos) (d2 sIxx ta tb):=λH₀=>impE (G8 (Jf.or (M4 (by omega))) (ha H₀) (hb H₀) hs) (Q6 Q2)
def Gq (td tk tx:TD):TD:=λρ φ=>td ρ λr=>match r.d with
 | .dk ks ds=>tk ρ λy=>tx ρ λz=>(match z.k with | .own=>False | _=>True) /\ (match keyD y.d with
  | some k=>φ (dv ((zw ks ds k).getD z.d))
  | none=>False)
 | _=>False
end
section
variable {X:Cx} {x:Str} {e ke:Expr} {te tk:TD} {np pos pos':Pos}
def Vn (i:Nat) (tk te:TD):TDS:=λρ Z=>match slot ρ i with
 | some ⟨.own,.dk ks ds⟩=>te ρ λr=>tk ρ λkr=>(match r.k with | .own=>False | _=>True) /\ ds.length <= 100000 /\ (match keyD kr.d with
  | some k=>Z.nx (setS ρ i (dO (.dk (kput ks k) (dput ks ds k r.d))))
  | none=>False)
 | _=>False
def Oo (i:Nat) (hu:X.A.units + 64 < cLine) (hk:ED Γ X ke tk) (he:ED Γ X e te) (hN:X.N[i]?=some x:=by rfl) (hv:Vis X.env.scope x:=by first | exact Or.inl rfl | exact Or.inr (Or.inl rfl) | exact Or.inr (Or.inr rfl)) (hd:(x == ("__debug__" : Str))=false:=by decide)
  (hcd:(x == ("__classdict__" : Str))=false:=by decide) (hs:swapsWith e (some (.Subscript (.Name x np) ke pos')) pos.line X.env=pure false:=by rfl):SD Γ X (.Assign [.Subscript (.Name x np) ke pos'] e pos) (Vn i tk te):=λH₀ =>
 impS (bz (by omega) (wf hN hv hd hcd) (hk H₀) (he H₀) hs) λD σ H h=>by
  obtain ⟨ρ,o,R,Z,hZ,k1,k2,k3,k4⟩:=h
  unfold Vn at hZ
  split at hZ
  ·rename_i ks ds es
   obtain ⟨v0,ev0,q0⟩:=R.slots i _ (yc es)
   rcases q0 with ⟨k,_⟩ | ⟨_,a,rfl,m,c⟩
   ·cases k
   obtain ⟨xs,hx,hl,nd,rx⟩:=c
   refine ⟨ρ,o,R,_,hZ,λv r H1 s1 rv h1=>⟨.ref a,ev0,ρ,o,R.to s1,_,h1,λv2 r2 H2 s2 rv2 h2=>?_⟩⟩
   obtain ⟨h0,hlen,h2⟩:=h2
   split at h2
   ·rename_i k ek
    have hk:v2=kV k:=vz rv2.view ek
    subst hk
    have s12:=s1.trans s2
    have hx2:=s12 _ _ hx
    have rx2:=Reps.grow (Grow.same s12) _ _ rx
    have xl:ks.length=xs.length:=by rw [hl,rx.length]
    refine ⟨a,_,rfl,DPut.k hx2 ?_,?_⟩
    ·rw [List.length_zip,xl,Nat.min_self,rx.length]
     exact Nat.lt_of_le_of_lt hlen (by decide)
    ·rw [jh nd xl]
     obtain ⟨R3,g3⟩:=(R.to s12).chg (d':=.dk (kput ks k) (dput ks ds k r.d)) (ho:=.dK ((kput ks k).zip (dput ks xs k v))) (yc es) ev0 m ⟨λ_ z=>(by cases z),λ_ _ z=>(by cases z)⟩ λgr =>
      ⟨dput ks xs k v,zg,g6 hl,ko nd,gr _ _ (vo rx2 ((rv.same s2).solid (wg h0)))⟩
     exact k1 _ σ _ o ((Grow.same s12).trans g3) R3 h2
   ·exact h2.elim
  ·exact hZ.elim
end
def jy {X:Cx} {pn:List (Addr × Obj)} {σ:St} {H:Hp} {s:Shared} {M:Model} {A:Around} {E:Value->Shared->Prop} {i:Nat} {x:Str} {pos:Pos} {Q:Unit->Shared->Prop} (I:Inv X pn σ H s) (hN:X.N.Nodup) (hi:X.N[i]?=some x) (hk:X.env.scope.names.lookup x=some .local)
  (h:∀ s',Inv X pn (σ.set i none) H s'->Q () s'):wpAny M A (do bindName X.env x .none; unbindBehindTheSuite X.env x pos) Q E s:=by
 obtain ⟨m,hn,hl⟩:=id I.loc
 have hcls:(X.env.scope.kind == .class || (X.env.scope.kind == .module && X.env.locals != X.env.globals))=false:=by rw [I.ok.kind]; rfl
 have hiσ:i < σ.length:=by rw [I.len]; exact (List.getElem?_eq_some_iff.mp hi).1
 have cne:=I.cne
 have tracked:∀ {a:Addr} {h':Heap},(∃ o,s.heap.get? a=some o /\ H a=none)->Heap.SameBut a s.heap h'->HOk X.prog X.w H h':=λ{a h'} ha hs b ob e=>by
  obtain ⟨_,_,hfree⟩:=ha
  refine (I.hok b ob e).stay (λc w' hc q=>(hs.2 c ?_).trans q) (λ_ q=>q) λ_ _ q=>q
  rintro rfl
  rcases hc with rfl | hc
  ·rw [hfree] at e; cases e
  ·rw [hfree] at hc; cases hc
 refine wpAny_nameGoes_keeps hk hn hcls λh' v hn' hs=>?_
 obtain ⟨oL,_,_,hoL,_⟩:=id hn
 refine h _ ⟨I.ok,I.os,I.bare,⟨λb o e n hb hx=>?_,λb o e n hb hx=>?_,I.base.free,λb o e hx=>?_,I.base.tups,I.base.frzs,I.base.tbls⟩,⟨_,hn',λj y v' e1 e2 e3=>?_⟩,λy c e=>?_,I.free,I.freeC,λp hp=>?_,tracked ⟨oL,hoL,I.free⟩ hs,by simpa using I.len⟩
 ·exact (hs.2 b (Nat.ne_of_lt (Nat.lt_of_lt_of_le (Heap.lt_size e) I.ok.above))).trans (I.base.keep b o e n hb hx)
 ·obtain ⟨sl,e1⟩:=I.base.slot b o e n hb hx
  exact ⟨sl,(hs.2 b (Nat.ne_of_lt (Nat.lt_of_lt_of_le (Heap.lt_size e) I.ok.above))).trans e1⟩
 ·obtain ⟨o',e1⟩:=I.base.there b o e hx
  exact ⟨o',(hs.2 b (Nat.ne_of_lt (Nat.lt_of_lt_of_le (Heap.lt_size e) I.ok.above))).trans e1⟩
 ·by_cases hj:j=i
  ·subst hj
   rw [List.getElem?_set_self hiσ] at e2
   cases e2
  ·rw [List.getElem?_set_ne (Ne.symm hj)] at e2
   obtain ⟨u',r',q⟩:=hl j y v' e1 e2 e3
   refine ⟨u',r',?_⟩
   rcases q with ⟨k,e⟩ | ⟨k,c,e,z⟩
   ·refine .inl ⟨k,?_⟩
    have:y ≠ x:=λe=>hj (jk hN e1 (e ▸ hi))
    simp [this,e]
   ·exact .inr ⟨k,c,e,z.sameBut hs (cne y c e)⟩
 ·obtain ⟨w',z⟩:=I.cell y c e
  exact ⟨w',z.sameBut hs (cne y c e)⟩
 ·obtain ⟨e,n,ne,nf,d⟩:=I.pin p hp
  exact ⟨(hs.2 p.1 ne).trans e,n,ne,nf,d⟩
def clrS:DE->Nat->DE
 | [],_=>[]
 | _ :: r,0=>none :: r
 | x :: r,i + 1=>x :: clrS r i
def Zy:∀ (ρ:DE) (i:Nat),clrS ρ i=ρ.set i none
 | [],_=>rfl
 | _ :: _,0=>rfl
 | x :: r,i + 1=>by rw [clrS,Zy r i,List.set_cons_succ]
def REnv.clr {K:W.Frag} {H₀ H:Hp} {σ:St} {ρ:DE} {o:List (Nat × Addr)} (R:REnv K H₀ H σ ρ o) (i:Nat):REnv K H₀ H (σ.set i none) (clrS ρ i) o where
 same:=R.same
 fresh:=R.fresh
 trk:=R.trk
 mtb:=R.mtb
 nda:=R.nda
 len:=by rw [Zy,List.length_set,List.length_set]; exact R.len
 slots:=λj r e=>by
  rw [Zy] at e
  by_cases hj:j=i
  ·subst hj
   rcases Nat.lt_or_ge j ρ.length with z | z
   ·rw [List.getElem?_set_self z] at e
    cases e
   ·rw [List.getElem?_eq_none (by rw [List.length_set]; exact z)] at e
    cases e
  ·rw [List.getElem?_set_ne (Ne.symm hj)] at e
   obtain ⟨w,ew,q⟩:=R.slots j r e
   exact ⟨w,by rw [List.getElem?_set_ne (Ne.symm hj)]; exact ew,q⟩
def frzE (ρ:DE):DE:=ρ.map λx=>x.map λr=>dv r.d
def REnv.frz {K:W.Frag} {H₀ H:Hp} {σ:St} {ρ:DE} {o:List (Nat × Addr)} (R:REnv K H₀ H σ ρ o):REnv K H H σ (frzE ρ) [] where
 same:=Same.refl H
 fresh:=λ_ z=>absurd z (by simp)
 trk:=λ_ z=>absurd z (by simp)
 mtb:=λ_ z=>absurd z (by simp)
 nda:=List.nodup_nil
 len:=by unfold frzE; rw [zLm]; exact R.len
 slots:=λj r e=>by
  unfold frzE at e
  rw [List.getElem?_map] at e
  cases e1:ρ[j]? with
  | none=>rw [e1] at e; cases e
  | some x =>
   rw [e1] at e
   cases x with
   | none=>cases e
   | some r' =>
    have e':some (dv r'.d)=some r:=Option.some.inj e
    cases e'
    obtain ⟨v,ev,q⟩:=R.slots j r' e1
    refine ⟨v,ev,.inl ⟨rfl,?_⟩⟩
    rcases q with ⟨_,q⟩ | ⟨_,a,rfl,m,c⟩
    ·exact Rep.sub (O':=[]) (λ_ z=>absurd z (by simp)) _ _ q
    ·exact (c.sub (O':=[]) λ_ z=>absurd z (by simp)).rep (by simp)
def REnv.unfrz {K:W.Frag} {H₀ H H1:Hp} {σ:St} {ρ:DE} {o1:List (Nat × Addr)} (s:Same H₀ H) (R:REnv K H H1 σ ρ o1):REnv K H₀ H1 σ ρ o1 :=
 ⟨s.trans R.same,λp hp=>s.free (R.fresh p hp),R.trk,R.mtb,R.nda,R.slots,R.len⟩
def REnv.gr {K:W.Frag} {H H1:Hp} {σ:St} {ρ:DE} {o1:List (Nat × Addr)} {O:List Addr} (R:REnv K H H1 σ ρ o1):Grow O (o1.map Prod.snd) H H1 :=
 ⟨λb u h n=>⟨R.same b u h,λz=>by
  obtain ⟨p,hp,e⟩:=List.mem_map.mp z
  have:=R.fresh p hp
  rw [e,h] at this
  cases this⟩,λb xs h=>R.same b _ h,λb ob u h=>R.same b _ h⟩
def XP (Γ:Hp->Prop) (X:Cx) (χ:DE->Addr->Prop):Prop:=∀ (H₀:Hp),Γ H₀->∀ (ρ:DE) (o:List (Nat × Addr)) (pn:List (Addr × Obj)) (σ:St) (H:Hp) (s:Shared) (e:Value) (s':Shared),Inv X pn σ H s->REnv X.K H₀ H σ ρ o ->
 CX1 X.prog X.w X.stack H s (λcls _ H'=>Same H H' /\ ∃ C,cls=.ref C /\ χ ρ C) e s'->X.xe e s'
def XR (Γ:Hp->Prop) (X:Cx) (χ:DE->Addr->Prop):Prop:=∀ (H₀:Hp),Γ H₀->∀ (ρ:DE) (o:List (Nat × Addr)) (pn:List (Addr × Obj)) (σ:St) (H:Hp) (s:Shared) (a C:Addr) (vs:List Value) (h':Heap),Inv X pn σ H s->REnv X.K H₀ H σ ρ o ->
 Heap.MadeExcOf s.heap h' a (.ref C) vs->χ ρ C->X.xe (.ref a) { s with heap:=h' }
abbrev FTX:=List D->(EV->Prop)->(Addr->Prop)->Prop
def spX (K:W.Frag) (n:Nat) (T:FTX):Sp:=λvs H Q E=>∃ ds φ χ,ds.length=n /\ Reps K H [] ds vs /\ T ds φ χ /\ (∀ v r H',Same H H'->RV K H H' [] r v->xw r->φ r->Q v H') /\ ∀ C H',Same H H'->χ C->E (.ref C) none H'
structure FX (P:Program) (w:World) (K:W.Frag) (mg:Str->Option Value) (base:Heap) (k:Nat) (x:Str) (ps:List Str) (T:FTX):Prop where
 ex:∃ f fd,FnOk P w K mg base (CX1 P w) k f fd ps (spX K ps.length T) /\ qo K fd ps [] /\ W.keepIn K (.ref f)=true /\ mg x=some (.ref f)
def O3 (n:Nat) (T:FTX) (χ:DE->Addr->Prop) (t:TDs):TD:=λρ φ=>t ρ λrs=>Nat.beq rs.length n=true /\ T (rs.map EV.d) φ (χ ρ)
def ym {X:Cx} {x:Str} {ps:List Str} {T:FTX} {k:Nat} {e:Expr} {es:List Expr} {t:TDs} {p pos:Pos} {χ:DE->Addr->Prop} (F:FX X.prog X.w X.K X.mg X.base k x ps T) (hr:Room k X.A) (hx:XP Γ X χ) (ha:EA Γ X (e :: es) t) (hg:Gl X x:=by rfl) (hdb:(x == ("__debug__" : Str))=false:=by decide)
  (he:starEach (e :: es) X.env=(false,eval e X.env) :: starEach es X.env:=by rfl) (hpl:(backTo pos (starEach es X.env)).any (·.1)=false:=by rfl):ED Γ X (.Call (.Name x p) (e :: es) [] pos) (O3 ps.length T χ t):=λH₀ pn s σ H Q I h=>by
 obtain ⟨f,fd,ok,b,kp,m⟩:=F.ex
 obtain ⟨ρ,o,R,φ,hφ,kk⟩:=h
 refine wpAny_Call_Name_kw (v8 I hg m ?_ hdb)
 refine W.callWith_K (h₀:=X.base) I.ok.mod.kin kp (thn (ha H₀ pos pn s σ H (λvs H1=>Same H H1 /\ spX X.K ps.length T vs H1 Q (λcls _ H'=>Same H1 H' /\ ∃ C,cls=.ref C /\ χ ρ C)) I ⟨ρ,o,R,_,hφ,λvs rs H1 s1 rvs h1=>?_⟩) λus s1 ⟨vs,H1,I1,r,sm,q⟩=>⟨I1.kIn,?_⟩) he hpl
 ·refine ⟨s1,rs.map EV.d,φ,χ ρ,by rw [zLm]; exact Nat.eq_of_beq_eq_true h1.1,rvs.reps0,h1.2,λv r H2 s2 rv pr h2=>?_,λC H' sm c=>⟨sm,C,rfl,c⟩⟩
  exact kk v r H2 (s1.trans s2) (RV.start (rv.lift pr λa e=>R.ofree (s1.free e)) s1) h2
 ·have hl:(us ++ []).length=ps.length:=by rw [List.append_nil,<- r.length]; exact ok.len _ _ _ _ q
  have hb:=b s1 us I1.kIn hl
  rw [List.append_nil] at hb
  refine wpAny_call (codeAny_mono (ok.run X.A X.stack s1 H1 ⟨us,[]⟩ us vs Q _ hr I1.env0 hb r q) λr s' hq=>?_)
  cases r with
  | error e=>exact hx H₀.1 H₀.2 ρ o pn σ H1 s1 e s' I1 (R.to sm) hq
  | ok fl =>
   cases fl with
   | ret u=>exact I1.after hq
   | next=>exact False.elim hq
   | brk=>exact False.elim hq
   | cont=>exact False.elim hq
section
variable {P:Program} {w:World} {K:W.Frag} {mg:Str->Option Value} {base:Heap}
def Xm {N:List Str} {ds:List D} {vs:List V} {H:Hp} (r:Reps K H [] ds vs):REnv K H H (L2.start N vs) (wd N.length ds) []:=by
 have rl:=r.length
 refine ⟨Same.refl H,(λ_ z=>absurd z (by simp)),(λ_ z=>absurd z (by simp)),(λ_ z=>absurd z (by simp)),List.nodup_nil,λi r' e=>?_,?_⟩
 ·unfold wd at e
  rcases Nat.lt_or_ge i ds.length with hi | hi
  ·rw [List.getElem?_append_left (by simpa using hi),List.getElem?_map] at e
   have ed:ds[i]?=some ds[i]:=by simp [hi]
   rw [ed] at e
   have e':some (dv ds[i])=some r':=Option.some.inj e
   cases e'
   obtain ⟨v,ev,rv⟩:=r.get ed
   refine ⟨v,?_,.inl ⟨rfl,rv⟩⟩
   unfold L2.start
   rw [List.getElem?_append_left (by rw [zLm,rl]; exact hi),List.getElem?_map,ev]
   rfl
  ·rw [List.getElem?_append_right (by simpa using hi),List.getElem?_replicate] at e
   split at e <;> cases e
 ·unfold L2.start wd
  simp [rl]
def Jr {x qual:Str} {st:Stmt} {f:Addr} {fd:FuncData} {N ps:List Str} {k:Nat} {T:FTX} (F:Fun K x qual st f fd) (S:zj N ps (zb st))
  (qY:∀ (qZ:Value) (A:Around) (outer:List Env) (s:Shared) (H:Hp) (E:XK) (ds:List D) (φ:EV->Prop) (χ:Addr->Prop),Room k (A.deeper (envOfC qual (zb st) s.heap.objs.size f qZ))->ds.length=ps.length->T ds φ χ ->
   XP (Same H) (cxOf (CX1 P w) P w K mg base N qual (zb st) f qZ A outer s H E) (λ_=>χ)->XR (Same H) (cxOf (CX1 P w) P w K mg base N qual (zb st) f qZ A outer s H E) (λ_=>χ) ->
   ∃ t,SDs (Same H) (cxOf (CX1 P w) P w K mg base N qual (zb st) f qZ A outer s H E) (zm st) t /\ t (wd N.length ds) { nx:=λ_=>φ (dv .non),rt:=λr=>xw r /\ φ r }):FnOk P w K mg base (CX1 P w) (k + 1) f fd ps (spX K ps.length T):=by
 obtain ⟨oc,od,kV,doc,pm,an,qZ,ct,osl,rfl,lk,hcd⟩:=F.ex
 refine Js lk hcd S (λvs H Q E h=>?_) λA outer s H vs Q E hr h=>?_
 ·obtain ⟨ds,φ,χ,hl,r,_⟩:=h
  rw [r.length,hl]
 ·obtain ⟨ds,φ,χ,hl,r,hT,kk,kx⟩:=h
  obtain ⟨t,ht,hq⟩:=qY qZ A outer s H E ds φ χ hr hl hT (λH₀ g ρ o pn σ H1 s1 e s' J R hc=>Nf J hc λC H' ⟨sm,C',e',c⟩=>by cases e'; exact kx _ H' ((g.trans R.same).trans sm) c)
   (λH₀ g ρ o pn σ H1 s1 a C vs h' J R hx c=>Np J hx (kx C H1 (g.trans R.same) c))
  refine ⟨Uq K H t,ht ⟨H,Same.refl H⟩,wd N.length ds,[],Xm r,_,hq,λρ' σ' H' o' g R' q=>?_,λ_ _ _ _ _ _ q=>q.elim,λ_ _ _ _ _ _ q=>q.elim,λv r' H' s' rv q=>kk v r' H' s' rv q.1 q.2⟩
  exact kk .non (dv .non) H' R'.same rfl trivial q
def cb {x qual:Str} {st:Stmt} {f:Addr} {fd:FuncData} {N ps:List Str} {k:Nat} {T:FTX} (F:Fun K x qual st f fd) (S:zj N ps (zb st)) (b:qo K fd ps []) (m:mg x=some (.ref f))
  (qY:∀ (qZ:Value) (A:Around) (outer:List Env) (s:Shared) (H:Hp) (E:XK) (ds:List D) (φ:EV->Prop) (χ:Addr->Prop),Room k (A.deeper (envOfC qual (zb st) s.heap.objs.size f qZ))->ds.length=ps.length->T ds φ χ ->
   XP (Same H) (cxOf (CX1 P w) P w K mg base N qual (zb st) f qZ A outer s H E) (λ_=>χ)->XR (Same H) (cxOf (CX1 P w) P w K mg base N qual (zb st) f qZ A outer s H E) (λ_=>χ) ->
   ∃ t,SDs (Same H) (cxOf (CX1 P w) P w K mg base N qual (zb st) f qZ A outer s H E) (zm st) t /\ t (wd N.length ds) { nx:=λ_=>φ (dv .non),rt:=λr=>xw r /\ φ r }):FX P w K mg base (k + 1) x ps T:=⟨f,fd,Jr F S qY,b,F.kp,m⟩
end
def Tw {K:W.Frag} {h:Heap} {C:Addr} {bmB:List Value} {newId:String} (X:K.In h) (q:W.excIn K C bmB newId=true) :
  ∃ bm N nm q bs hdct sn sub ab col dd k0 k1 k2 k3 k5 mN,h.get? C=some (excClassObj nm q C N bs bm hdct sn sub ab col dd k0 k1 k2 k3 k5 newId) /\ h.Ns N mN /\ mN "__init__" = none /\ OwnTail h bmB bm:=by
 unfold W.excIn at q
 split at q
 ·rename_i dd cd sl ho
  split at q
  ·rename_i C' bm k0 k1 k2 k3 n k5 hm hs
   simp only [Bool.and_eq_true,beq_iff_eq,Bool.not_eq_true'] at q
   obtain ⟨⟨⟨⟨⟨rfl,rfl⟩,hdel⟩,ht⟩,hok⟩,hni⟩:=q
   obtain ⟨nm,bs,mro,ns,qn,hd,sn,sub,ab,col,del⟩:=cd
   dsimp only at hm hdel hok hni
   subst hm hdel
   have hsl:sl=#[k0,k1,k2,k3,some (.builtin n),k5]:=by
    obtain ⟨l⟩:=sl
    simp only at hs
    rw [hs]
   subst hsl
   exact ⟨bm,ns,nm,qn,bs,hd,sn,sub,ab,col,dd,k0,k1,k2,k3,k5,_,X _ _ ho,.of_isNs (W.isNs_of_in X hok),W.nsMap_none_of_in X hok hni,W.tail_of_in X ht⟩
  ·cases q
 ·cases q
def Pd (χ:DE->Addr->Prop) (C:Addr) (t:TDs):TDS:=λρ _=>t ρ λrs=>Nat.ble rs.length 9=true /\ χ ρ C
def Yb {X:Cx} {x:Str} {C:Addr} {B newId initId:String} {bmB:List Value} {e:Expr} {es:List Expr} {t:TDs} {np cpos pos:Pos} {χ:DE->Addr->Prop} (FB:ExcBaseFacts B newId initId bmB) (hm:X.mg x=some (.ref C)) (hC:W.excIn X.K C bmB newId=true) (hh:X.A.handled=none) (hx:XR Γ X χ)
  (ha:EA Γ X (e :: es) t) (hg:Gl X x:=by rfl) (hdb:(x == ("__debug__" : Str))=false:=by decide) (he:starEach (e :: es) X.env=(false,eval e X.env) :: starEach es X.env:=by rfl) (hpl:(backTo cpos (starEach es X.env)).any (·.1)=false:=by rfl) :
  SD Γ X (.Raise (some (.Call (.Name x np) (e :: es) [] cpos)) none pos) (Pd χ C t):=λH₀ pn s σ H D I h=>by
 obtain ⟨ρ,o,R,Z,hZ,_⟩:=h
 obtain ⟨bm,N,nm,q,bs,hdct,sn,sub,ab,col,dd,k0,k1,k2,k3,k5,mN,hC',hN,hni,T⟩:=Tw I.ok.mod.kin hC
 refine wpAny_Raise_call_subT (C:=C) (nm:=nm) (q:=q) (N:=N) (bs:=bs) (bm:=bm) (hdct:=hdct) (sn:=sn) (sub:=sub) (ab:=ab) (col:=col) (dd:=dd) (k0:=k0) (k1:=k1) (k2:=k2) (k3:=k3) (k5:=k5)
  FB (mN:=mN) (T.hasType FB.hasBase) hh (by rw [he]; show (false || (backTo cpos (starEach es X.env)).any (·.1))=false; rw [hpl]; rfl) hni (v8 I hg hm ⟨rfl,?_⟩ hdb)
 have go:=ha H₀ cpos pn s σ H (λvs H1=>vs.length <= 9 /\ REnv X.K H₀.1 H1 σ ρ o /\ χ ρ C) I ⟨ρ,o,R,_,hZ,λvs rs H1 s1 rvs h1=>⟨by rw [rvs.length]; exact Nat.le_of_ble_eq_true h1.1,R.to s1,h1.2⟩⟩
 rw [he] at go ⊢
 refine Calls.evalArgs_plain (wpAny_mono go (λus s2 ⟨vs,H1,I1,r,hl,R1,c⟩=>⟨rfl,?_,I1.bk _ _ hC',hN.keeps I1.bk,T.keeps I1.bk,λh' a mx=>hx H₀.1 H₀.2 ρ o pn σ H1 s2 a C us h' I1 R1 mx c⟩) λ_ _ y=>y)
 rw [<- r.length]
 exact Nat.le_trans hl (by decide)
end DL
namespace DL
open PySem PySem.Spec L2 L3 PySem.W PySem.Builtin PySem.Builtin.ObjectAttr PySem.Builtin.Getset_descriptor
open PyProof.Rows hiding St InstAt
section
variable {prog:Program} {w:World} {A:Around} {E:Value->Shared->Prop} {s:Shared} {K:W.Frag} {a C:Addr}
def Mg {R:Result->Shared->Prop} {tp:Value} (X:K.In s.heap) (T:Looks (model prog w) s.heap (typeOf (.ref a)) (.ref C)) (hm:mroIn K C (.type "object")=some true)
  (h:R (.ok (.ret (.ref C))) s):codeAny (model prog w) A (.call (.builtin "getset_descriptor.__get__") ⟨[.builtin "object.__class__", .ref a,tp],[]⟩) R s:=by
 obtain ⟨hh,g,dr,t,os⟩:=s
 have L0:=T
 have L1:=looks_mroIn (M:=model prog w) X hm
 refine codeAny_call_builtin KF.slot_gs.plain KF.entry_gs (KF.slot_gs.check _ _ _ _ _ _ _ _ KF.type_class (KF.args_gs _ _ _) ?_)
 unfold Builtin.«getset_descriptor.__get__» descrGet
 rw [dga_obj]
 refine wpAny_bind (wpAny_pure ?_)
 unfold descrGetter descrCheckInstance descrNameAndClass isInstance
 simp only [KF.owner_class]
 repeat lk
 refine ⟨Code.quiet_builtin _ (by decide +kernel),codeAny_builtin KF.entry_class ?_⟩
 unfold Builtin.«object.__class__» shownTypeOf
 repeat lk
 exact h
structure Wr (K:W.Frag) (C:Addr):Prop where
 ga:findIn K (.ref C) "__getattribute__" = some (some (.builtin "BaseException.__getattribute__"))
 hk:findIn K (.ref C) "__getattr__" = some none
 ha:findIn K (.ref C) "__class__" = some (some (.builtin "object.__class__"))
 hn:specialIn K (.builtin "object.__class__") "__get__" = some (some (.builtin "getset_descriptor.__get__"))
 htk:takesIn K (.builtin "object.__class__")=some true
 hm:mroIn K C (.type "object")=some true
 hb:subIn K (.ref C) (.type "BaseException")=some true
 hd:hasDictIn K C=true
def Tc {Q:Option Value->Shared->Prop} (Y:Wr K C) (X:K.In s.heap) (T:Looks (model prog w) s.heap (typeOf (.ref a)) (.ref C)) (h:Q (some (.ref C)) { s with toks:=s.toks + 1 }):wpAny (model prog w) A (getAttr? (.ref a) "__class__") Q E s:=by
 obtain ⟨hh,g,d,t,os⟩:=s
 have L0:=T
 have L1:=looks_findIn (M:=model prog w) X Y.ga
 have L2:=looks_findIn (M:=model prog w) X Y.hk
 have L3:=looks_findIn (M:=model prog w) X Y.ha
 have L4:=looks_specialIn (M:=model prog w) X Y.hn
 have L5:=looks_takesIn (M:=model prog w) X Y.htk
 have L6:=looks_subIn (M:=model prog w) X Y.hb
 have LF:Looks (model prog w) hh (find (.ref a) (.ref C) "__class__") (.bind (.builtin "getset_descriptor.__get__") (.builtin "object.__class__")) :=
  L3.andThen ((show Looks (model prog w) hh (getOf (some (.builtin "object.__class__"))) (some (.builtin "getset_descriptor.__get__")) from L4).andThen ((show Looks (model prog w) hh (dataDescriptor? (some (.builtin "object.__class__")) (some (.builtin "getset_descriptor.__get__"))) (some (.builtin "getset_descriptor.__get__", .builtin "object.__class__")) from L5.andThen .now).andThen (Looks.tag .now)))
 have hx2:(Value.builtin "BaseException.__getattribute__" == Value.builtin "object.__getattribute__")=false:=by decide +kernel
 unfold getAttr? getAttrBy? getAttrBy
 refine wpAny_bind (wpAny_mkText (wpAny_bind (wpAny_attempt (wpAny_holding (wpAny_bind (L0.at (wpAny_bind (L1.at ?_))))))))
 dsimp only
 rw [hx2,Bool.and_false,if_neg Bool.false_ne_true]
 unfold getAttrByItsOwn hookBefore
 rw [if_pos (show onTheHeap (Value.ref C)=true from rfl)]
 refine wpAny_bind (L2.at ?_)
 refine wpAny_bind (wpAny_attempt (wpAny_holding ?_))
 unfold callGetattribute boundAndCalled
 rw [Bool.false_and,if_neg Bool.false_ne_true]
 refine wpAny_bind (wpAny_of_eq (PySem.F.attr_ValueError.ga.bind (.ref a)) ?_)
 dsimp only
 refine wpAny_call (codeAny_call_builtin PySem.F.attr_ValueError.ga.plain PySem.F.entry_bexc_ga ?_)
 have hkd:builtinKind "BaseException.__getattribute__" = some .slot:=by decide +kernel
 have hsplit:splitId "BaseException.__getattribute__" = some ("BaseException", "__getattribute__"):=by decide +kernel
 have LI:Looks (model prog w) hh (isInstance (.ref a) (.type "BaseException")) true:=L0.andThen L6
 have hga:=PySem.F.args_bexc_ga (.ref a) (.str "__class__" t)
 have body:wpAny (model prog w) A.in1 (Builtin.«object.__getattribute__» ⟨[.ref a,.str "__class__" t],[]⟩) (λfin s'=>match fin with | .done (.ret v)=>v=.ref C /\ s'=⟨hh,g,d,t + 1,os⟩ | _=>False) (λ_ _=>False) ⟨hh,g,d,t + 1,os⟩:=by
  unfold Builtin.«object.__getattribute__» slotArgs
  (repeat (first | (refine wpAny_bind (wpAny_holding (wpAny_call (Mg X T Y.hm ?_)))) | lk))
  exact ⟨rfl,rfl⟩
 simp only [checkBuiltinCall,hkd,hsplit]
 refine wpAny_bind (LI.at ?_)
 rw [if_neg (by decide)]
 refine wpAny_of_eq (a:=()) hga (wpAny_mono body (λfin s' z=>?_) λ_ _ z=>z.elim)
 rcases fin with (_ | _ | _ | v) | _ <;> first | exact z.elim | skip
 obtain ⟨rfl,rfl⟩:=z
 exact wpAny_pure (wpAny_pure h)
end
end DL
namespace DL
open PySem PySem.Spec L2 L3
open PyProof.Rows hiding St
variable {Γ:Hp->Prop}
def Q9 {K:W.Frag} {a C:Addr} (Y:Wr K C):W.KitX K (.ref a) (.ref C) (λh=>∃ o,h.get? a=some o /\ o.cls=.ref C /\ W.notCls o=true) where
 ty:=λ_ _ _ p=>by
  obtain ⟨o,h1,h2,_⟩:=p
  exact h2 ▸ (W.Looks.ld h1).andThen .now
 it:=λ_ _ X _=>by
  obtain ⟨cdD,hcD,_⟩:=W.any_some Y.hd
  unfold W.clsIn at hcD
  split at hcD
  ·rename_i c' d' cd' sl' ho
   intro A' Q' E' s' k q
   unfold isType loadHead
   exact wpAny_bind (wpAny_loadPart (k _ _ (X _ _ ho)) (wpAny_pure q))
  ·cases hcD
 ne:=λh tp dd its n sl X htp=>by
  obtain ⟨cdD,hcD,_⟩:=W.any_some Y.hd
  refine Bool.eq_false_iff.mpr λq=>?_
  have e:C=tp:=Value.ref.inj (beq_iff_eq.mp q)
  subst e
  unfold W.clsIn at hcD
  split at hcD
  ·rename_i c' d' cd' sl' ho
   have z:=(X _ _ ho).symm.trans htp
   cases z
  ·cases hcD
 ca:=λ{prog w A E Q s} X p k=>by
  obtain ⟨o,h1,h2,_⟩:=p
  exact Tc Y X (h2 ▸ (W.Looks.ld h1).andThen .now) k
section
variable {X:Cx} {p np pos:Pos} {e:Expr} {te:TD} {c:Str} {C0:Addr}
def Kk (hm:X.mg c=some (.ref C0)) (hg:Gl X c:=by rfl) (hd:(c == ("__debug__" : Str))=false:=by decide):PE X (.Name c np) (λσ H Q=>Q (.ref C0) H):=λpn s σ H Q I h=>v8 I hg hm ⟨.ref C0,H,I,rfl,h⟩ hd
def X4:w5 X (.builtin "isinstance") (λxs H Q=>∃ a C y z b,xs=[.ref a,y] /\ (∀ u,RelV y u->u=z) /\ H a=some (ExcO a C) /\ W.kitOne X.K (.ref C) z=some b /\ Wr X.K C /\ Q (.bl b) H):=by
 intro pn s σ H xs us Q I r h
 obtain ⟨a,C,y,z,b,rfl,hz,hH,ek,Y,q⟩:=h
 obtain ⟨u,v,rfl,ru,rv⟩:=Ob r
 cases (show u=Value.ref a from ru)
 have:=hz v rv
 subst this
 have ob:=I.hok a _ hH
 exact W.kia_one (Q9 Y) I.kIn ob.1 ek (λz=>nomatch z) λtk=>⟨.bl b,H,I.tok tk,rfl,q⟩
def dIsE (K:W.Frag) (z:Value) (te:TD):TD:=λρ φ=>te ρ λr=>match r.d with
 | .exc C=>∃ b,W.kitOne K (.ref C) z=some b /\ Wr K C /\ φ (dv (.bl b))
 | _=>False
def Yq {t:TA} {y:V} {z:Value} {H₀:Hp} (hz:∀ u,RelV y u->u=z) (ht:∀ σ H Q,v7 X.K H₀ te σ H (λv H1=>Q [v,y] H1)->t σ H Q) :
  ∀ σ H Q,v7 X.K H₀ (dIsE X.K z te) σ H Q->tCB (λxs H Q=>∃ a C y z b,xs=[.ref a,y] /\ (∀ u,RelV y u->u=z) /\ H a=some (ExcO a C) /\ W.kitOne X.K (.ref C) z=some b /\ Wr X.K C /\ Q (.bl b) H) t σ H Q:=λσ H Q q=>by
 obtain ⟨ρ,o,R,φ,hφ,kk⟩:=q
 refine ht σ H _ ⟨ρ,o,R,_,hφ,λv r H1 s1 rv h1=>?_⟩
 have vw:=rv.view
 split at h1
 ·rename_i C hd
  rw [hd] at vw
  obtain ⟨b,ek,Y,h2⟩:=h1
  obtain ⟨a,rfl,hH,_⟩:=vw
  exact ⟨a,C,y,z,b,rfl,hz,hH,ek,Y,kk _ _ H1 s1 (by exact rfl) h2⟩
 ·exact h1.elim
def yz {K0:W.Frag} (hK:X.K=K0) (hi:X.mg "isinstance" = none) (hc:X.mg c=some (.ref C0)) (he:ED Γ X e te) (hg:Gl X "isinstance":=by rfl) (hg2:Gl X c:=by rfl) (hd:(c == ("__debug__" : Str))=false:=by decide)
  (hs:starEach [e,.Name c np] X.env=(false,eval e X.env) :: starEach [.Name c np] X.env:=by rfl) (hpl:(backTo pos (starEach [.Name c np] X.env)).any (·.1)=false:=by rfl):ED Γ X (.Call (.Name "isinstance" p) [e,.Name c np] [] pos) (dIsE K0 (.ref C0) te):=λH₀=>by
 subst hK
 exact impE (jj X4 hg hi x9 (xi (he H₀) (xi (Kk hc hg2 hd) uq) hs) (by decide) (by decide) hs hpl) (Yq (y:=.ref C0) (λu h=>h) λσ H Q q=>by
  obtain ⟨ρ,o,R,φ,hφ,kk⟩:=q
  exact ⟨ρ,o,R,φ,hφ,kk⟩)
end
def Ys {X:Cx} {pn pins' pn':List (Addr × Obj)} {σ:St} {H:Hp} {s:Shared} {A':Around} {calm':Bool} {xe':Value->Shared->Prop} (I:Inv X pn σ H s) (hfr:A'.frames=X.A.frames) (hc:calm'=true->A'.handled=none) (hp:∀ p ∈ pn' ++ pins',p ∈ X.pn ++ pn) :
  Inv { X with A:=A',calm:=calm',pn:=pn',xe:=xe' } pins' σ H s :=
 ⟨⟨I.ok.mod,I.ok.kind,I.ok.glob,I.ok.blt,I.ok.above,I.ok.inj,I.ok.has,I.ok.cab,hc,hfr.trans I.ok.frames,I.ok.stk,I.ok.exf,I.ok.bs,I.ok.bsz,I.ok.noex,I.ok.exfs,I.ok.funs,I.ok.frf⟩,
  I.os,I.bare,I.base,I.loc,I.cell,I.free,I.freeC,λp h=>I.pin p (hp p h),I.hok,I.len⟩
abbrev Xtry (X:Cx) (pn:List (Addr × Obj)) (xe:Value->Shared->Prop):Cx:={ X with pn:=pn,xe:=xe }
abbrev Xhan (X:Cx) (a:Addr):Cx:={ X with A:=X.A.mark (some (.ref a)),calm:=false,xe:=λ_ _=>False }
def hanZ (j:Nat) (Z:DZ):DZ:={ nx:=λρ=>Z.nx (clrS ρ j),rt:=Z.rt,bk:=λρ=>Z.bk (clrS ρ j),ct:=λρ=>Z.ct (clrS ρ j) }
def sTry (K:W.Frag) (C0:Addr) (j:Nat) (tb:(DE->Addr->Prop)->TDS) (ts:TDS):TDS:=λρ Z =>
 tb (λρ' C=>W.exmOne K (.ref C) (.ref C0)=some true /\ ts (setS ρ' j (dv (.exc C))) (hanZ j Z)) (frzE ρ) Z
def Zo {P:Program} {w:World} {outer:List Env} {H H':Hp} {h h2 B:Heap} {a C:Addr} {t:Value} (F:FlyB P w outer H h H' B h2) (fl:Heap.FlyingW B outer a (.ref C) t h2) (hf:∀ b ∈ frs outer,H' b=none) :
  H' a=none /\ Un (frs outer) [] H (upd H' a (ExcO a C)) h h2 /\ HOk P w (upd H' a (ExcO a C)) h2:=by
 obtain ⟨oe,vs,hoe,hcl,hd,_⟩:=fl.first
 have nfr:a ∉ frs outer:=λz=>by
  obtain ⟨_,o',e2,nf⟩:=fl.2.2.1.mem z
  rw [hoe] at e2
  cases e2
  exact nf vs hd
 have nB:=fl.2.1
 have na:H' a=none:=by
  cases e:H' a with
  | none=>rfl
  | some u =>
   have:=F.cov a oe hoe nfr (.inl (by rw [e]; exact λz=>nomatch z))
   rw [nB] at this
   cases this
 have nh:∀ o,h.get? a ≠ some o:=λo q=>by
  have:=F.cov a oe hoe nfr (.inr ⟨o,q⟩)
  rw [nB] at this
  cases this
 refine ⟨na,⟨F.un.keep,F.un.slot,λb o q n hx=>?_,F.un.there,λb xs q=>?_,λb o u q=>?_,λb ps q=>?_⟩,λb u e=>?_⟩
 ·rw [zi (λz=>nh o (by rw [<- z]; exact q))]
  exact F.un.free b o q n hx
 ·have:=F.un.tups b xs q
  rw [zi (zf this na)]
  exact this
 ·have:=F.un.frzs b o u q
  rw [zi (zf this na)]
  exact this
 ·obtain ⟨m,this⟩:=F.un.tbls b ps q
  exact ⟨m,by rw [zi (zf this na)]; exact this⟩
 ·by_cases hb:b=a
  ·subst hb
   rw [zg] at e
   cases e
   refine ⟨⟨oe,hoe,hcl,by unfold W.notCls; rw [hd]⟩,⟨oe,hoe⟩,λh1 h2 ⟨o,q1,q2⟩ k=>⟨o,k o q1,q2⟩⟩
  ·rw [zi hb] at e
   exact (F.hok b u e).stay (λ_ _ _ q=>q) (λc q=>by rw [zi (zf q na)]; exact q) λc xs q=>by rw [zi (zf q na)]; exact q
def Ln {X:Cx} {K0:W.Frag} (hK:X.K=K0) (j:Nat) {n c:Str} {C0:Addr} {body:List Stmt} {b₀:Stmt} {suite:List Stmt} {np hpos pos:Pos} {tb:(DE->Addr->Prop)->TDS} {ts:TDS} (hN:X.N.Nodup) (hm:X.mg c=some (.ref C0))
  (hb:∀ (Γ':Hp->Prop) (pn:List (Addr × Obj)) (xe:Value->Shared->Prop) (χ:DE->Addr->Prop),XP Γ' (Xtry X pn xe) χ->SDs Γ' (Xtry X pn xe) body (tb χ))
  (hs:∀ a,SDs Γ (Xhan X a) (b₀ :: suite) ts) (hst:X.stack=X.env :: X.outer:=by rfl) (hfr:X.env.frame=some X.env.locals:=by rfl) (hcm:X.calm=true:=by rfl)
  (hi:X.N[j]?=some n:=by rfl) (hk:X.env.scope.names.lookup n=some .local:=by rfl) (hg:Gl X c:=by rfl) (hdb:(c == ("__debug__" : Str))=false:=by decide) :
  SD Γ X (.Try body [.ExceptHandler (some (.Name c np)) (some n) (b₀ :: suite) hpos] [] [] pos) (sTry K0 C0 j tb ts):=λH₀ pn s σ H D I h=>by
 subst hK
 obtain ⟨ρ,o,R,Z,hZ,k1,k2,k3,k4⟩:=h
 refine wpAny_Try_except ?_
 have hfrm:X.A.frames=some (X.env :: X.outer):=by rw [<- hst]; exact I.ok.frames
 have back:∀ {xe:Value->Shared->Prop} {σ':St} {H':Hp} {s':Shared},Inv (Xtry X (X.pn ++ pn) xe) [] σ' H' s'->Inv X pn σ' H' s':=λ{xe σ' H' s'} J =>
  Ys (X:=Xtry X (X.pn ++ pn) xe) (A':=X.A) (calm':=X.calm) (pn':=X.pn) (xe':=X.xe) J rfl (λz=>I.ok.hd z) (λp hp=>List.mem_append_left _ hp)
 have go:=hb (λH'=>H'=H) (X.pn ++ pn) (λe s₁=>wpAny (model X.prog X.w) X.A (noteFrame e X.env) (λ_ s₂=>wpAny (model X.prog X.w) X.A (setFlight e none) (λ_ s₃=>wpAny (model X.prog X.w) X.A (handleBy e X.env [.ExceptHandler (some (.Name c np)) (some n) (b₀ :: suite) hpos]) (SP X pn D) X.xe s₃) X.xe s₂) X.xe s₁)
  (λρ' C=>W.exmOne X.K (.ref C) (.ref C0)=some true /\ ts (setS ρ' j (dv (.exc C))) (hanZ j Z)) (λH₀' hH ρ1 o1 pins' σ1 H1 s1 e s' J R1 hc=>?_) ⟨H,rfl⟩ [] s σ H D
  (Ys (A':=X.A) (calm':=X.calm) (pn':=X.pn ++ pn) I rfl (λz=>I.ok.hd z) (λp hp=>by rwa [List.append_nil] at hp))
  ⟨frzE ρ,[],R.frz,Z,hZ,λρ' σ' H' o' g R' q=>k1 ρ' σ' H' o' R'.gr (R'.unfrz R.same) q,λρ' σ' H' o' g R' q=>k2 ρ' σ' H' o' R'.gr (R'.unfrz R.same) q,λρ' σ' H' o' g R' q=>k3 ρ' σ' H' o' R'.gr (R'.unfrz R.same) q,
   λv r H' sm rv q=>k4 v r H' (R.same.trans sm) (rv.start R.same) q⟩
 ·refine wpAny_mono go (λf s1 hf=>?_) (λe s1 he=>he)
  cases f with
  | next=>obtain ⟨σ',H',J,q⟩:=hf; exact sw pn s1 σ' H' D (back J) q
  | brk=>obtain ⟨σ',H',J,q⟩:=hf; exact ⟨σ',H',back J,q⟩
  | cont=>obtain ⟨σ',H',J,q⟩:=hf; exact ⟨σ',H',back J,q⟩
  | ret u=>obtain ⟨v,σ',H',J,rv,q⟩:=hf; exact ⟨v,σ',H',back J,rv,q⟩
 ·subst hH
  obtain ⟨a,C,t,H',B,rfl,hos,hbare,F,fl,sm,C',e',hmt,hts⟩:=hc
  cases e'
  have hf:∀ b ∈ frs X.stack,H' b=none:=λb hb=>by
   obtain ⟨_,o,ho,_⟩:=J.stack.mem hb
   exact F.un.free b o ho (J.stkFree b hb) (λz=>nomatch z)
  have fl':Heap.FlyingW B (X.env :: X.outer) a (.ref C) t s'.heap:=by rw [<- hst]; exact fl
  refine wpAny_looks_onW hfrm hfr fl' λh₄ held₄ u₄=>?_
  refine wpAny_landsW held₄ λh₅ fl₅ u₅=>?_
  have F5:FlyB X.prog X.w X.stack H1 s1.heap H' B h₅:=F.step fl₅.1 (u₄.trans u₅) fl.2.2.1 hf
  have inX:∀ {H2:Hp} {hh:Heap},Un (frs X.stack) [] H1 H2 s1.heap hh->HOk X.prog X.w H2 hh->Inv (Xhan X a) pn σ1 H2 { s' with heap:=hh }:=λ{H2 hh} un hok=>by
   have J5:=J.call' (s':={ s' with heap:=hh }) hos un hok hbare (λb z=>absurd z (by simp))
   exact Ys (X:=Xtry X (X.pn ++ pn) _) (A':=X.A.mark (some (.ref a))) (calm':=false) (pn':=X.pn) J5 rfl (λz=>nomatch z) (λp hp=>List.mem_append_left _ hp)
  have J5:=inX F5.un F5.hok
  refine wpAny_handleBy_cons (codeAny_handlers_test (v8 (X:=Xhan X a) J5 hg hm ?_ hdb)) (by intro q; cases q)
  have LT:W.Looks (model X.prog X.w) h₅ (typeOf (.ref a)) (.ref C):=by
   obtain ⟨ob,hob,hcls⟩:=fl₅.there
   exact hcls ▸ (W.Looks.ld hob).andThen .now
  refine (W.exm_one J5.kIn LT hmt).here ?_
  refine codeAny_handlers_suite_as ?_
  refine lands_againW fl₅ λh₆ fl₆ u₆=>?_
  have F6:FlyB X.prog X.w X.stack H1 s1.heap H' B h₆:=F5.step fl₆.1 u₆ (by rw [hst]; exact fl₅.2.2.1) hf
  obtain ⟨na,un6,ok6⟩:=Zo F6 (by rw [hst]; exact fl₆) hf
  refine jd (X:=Xhan X a) (i:=j) (v:=.ref a) (inX un6 ok6) hN hi (.inl hk) rfl (λs7 I7=>?_) (.inr hk)
  have sm6:Same H' (upd H' a (ExcO a C)):=λb u e=>by rw [zi (zf e na)]; exact e
  have R6:=((R1.unfrz R.same).to sm).to sm6
  have R7:=R6.setV j (d:=.exc C) (v:=.ref a) ⟨a,rfl,zg,(R1.to sm).ofree na⟩
  have gr:Grow (o.map Prod.snd) (o1.map Prod.snd) H₀' (upd H' a (ExcO a C)):=(R1.gr.trans (Grow.same sm)).trans (Grow.same sm6)
  have suite:=hs a H₀ pn s7 _ _ { nx:=λσ2 H2=>D.nx (σ2.set j none) H2,rt:=D.rt,bk:=λσ2 H2=>D.bk (σ2.set j none) H2,ct:=λσ2 H2=>D.ct (σ2.set j none) H2 } I7
   ⟨_,o1,R7,hanZ j Z,hts,λρ' σ' H2 o' g R' q=>k1 _ _ H2 o' (gr.trans g) (R'.clr j) q,λρ' σ' H2 o' g R' q=>k2 _ _ H2 o' (gr.trans g) (R'.clr j) q,λρ' σ' H2 o' g R' q=>k3 _ _ H2 o' (gr.trans g) (R'.clr j) q,k4⟩
  have backH:∀ {σ':St} {H':Hp} {s':Shared},Inv (Xhan X a) pn σ' H' s'->Inv X pn σ' H' s':=λ{σ' H' s'} J =>
   Ys (X:=Xhan X a) (A':=X.A) (calm':=X.calm) (pn':=X.pn) (xe':=X.xe) J rfl (λz=>I.ok.hd z) (λp hp=>hp)
  refine wpAny_mono suite (λf s8 hf=>?_) (λ_ _ z=>z.elim)
  cases f with
  | next=>obtain ⟨σ',H2,J8,q⟩:=hf; exact jy (X:=X) (backH J8) hN hi hk λs9 I9=>⟨_,H2,I9,q⟩
  | brk=>obtain ⟨σ',H2,J8,q⟩:=hf; exact jy (X:=X) (backH J8) hN hi hk λs9 I9=>⟨_,H2,I9,q⟩
  | cont=>obtain ⟨σ',H2,J8,q⟩:=hf; exact jy (X:=X) (backH J8) hN hi hk λs9 I9=>⟨_,H2,I9,q⟩
  | ret u=>obtain ⟨v,σ',H2,J8,rv,q⟩:=hf; exact jy (X:=X) (backH J8) hN hi hk λs9 I9=>⟨v,_,H2,I9,rv,q⟩
end DL
namespace DL
open PySem PySem.Spec L2 L3
open PyProof.Rows hiding St
def S6 (x y:Str):(x ++ y).cps.toList=x.cps.toList ++ y.cps.toList:=by
 show (x.cps ++ y.cps).toList=_
 simp
end DL
namespace DL
open PySem PySem.Spec L2 L3
open PyProof.Rows hiding St
variable {Γ:Hp->Prop}
open PySem.Builtin.Int (intBits)
def cp10 {j:Int} (h0:0 <= j) (h1:j <= 1000):CPow 10 j=True:=by
 refine eq_true ⟨h0,by omega,by decide⟩
def V3 {k:Nat}:((10:Int) ^ k=0)=False:=by
 refine eq_false ?_
 have:(0:Int) < 10 ^ k:=Int.pow_pos (by decide)
 omega
def yr {i j:Int} (h:j ≠ 0) (h1:j.natAbs <= 1000000000000):FdOk i j=True:=eq_true (fdOk (m:=64) h (PySem.intBits_le_iff.mpr (by omega)))
def Tv (l:List D) (k:Nat):cutD l none (some (k:Int))=l.take k:=by
 unfold cutD
 rw [HT.sIx_none,HT.sIx_nat,List.drop_zero,Nat.sub_zero]
 rw [List.take_eq_take_iff]
 omega
def P0 (l:List D) (j k:Nat):cutD l (some (j:Int)) (some (k:Int))=(l.drop j).take (k - j):=by
 unfold cutD
 rw [HT.sIx_nat,HT.sIx_nat]
 by_cases h:j <= l.length
 ·rw [Nat.min_eq_left h,List.take_eq_take_iff,List.length_drop]
  omega
 ·rw [show min j l.length=l.length by omega,List.drop_of_length_le (Nat.le_refl _),List.drop_of_length_le (by omega)]
  simp
def ua {α:Type} {l:List α} {i:Int} {x:α} (h0:0 <= i) (h:l[i.toNat]?=some x):atI l i=some x:=by
 have:=gi h
 rwa [Int.toNat_of_nonneg h0] at this
def vf {α:Type} {l:List α} (h:l ≠ []) (x:Int):∃ r ∈ l,atI l (x.fmod (l.length:Int))=some r:=by
 have hp:(0:Int) < (l.length:Int):=by
  have:=List.length_pos_iff.mpr h
  omega
 have h0:=Int.fmod_nonneg_of_pos x hp
 have h1:=Int.fmod_lt_of_pos x hp
 have hl:(x.fmod (l.length:Int)).toNat < l.length:=by omega
 exact ⟨l[(x.fmod (l.length:Int)).toNat],List.getElem_mem hl,ua h0 (by simp [hl])⟩
def G6 {α:Type} (a b:α) (x:Int):∃ r,(r=a \/ r=b) /\ atI [a,b] (x.fmod 2)=some r:=by
 obtain ⟨r,hr,e⟩:=vf (l:=[a,b]) (by simp) x
 exact ⟨r,by simpa using hr,e⟩
def G5 {α:Type} (a b c:α) (x:Int):∃ r,(r=a \/ r=b \/ r=c) /\ atI [a,b,c] (x.fmod 3)=some r:=by
 obtain ⟨r,hr,e⟩:=vf (l:=[a,b,c]) (by simp) x
 exact ⟨r,by simpa using hr,e⟩
def yn (x m:Int) (h:0 < m):0 <= x.fmod m /\ x.fmod m < m:=⟨Int.fmod_nonneg_of_pos x h,Int.fmod_lt_of_pos x h⟩
def qm {x:Int} {m:Nat} (h:x.natAbs < 2 ^ m):intBits x <= m:=PySem.intBits_le_iff.mpr h
def vt (x:Str):x.length=x.cps.toList.length:=by
 show x.cps.size=_
 simp
def Mr (x y:Str):(x ++ y).length=x.length + y.length:=by
 rw [vt,S6,zLa,<- vt,<- vt]
end DL
namespace DL
open PySem PySem.Spec L2 L3
def xg {ti:TID} {g:TGD} {tb:TDS} {ρ:DE} {Z:DZ} (ds:List D) (h:∀ φ:List D->Prop,φ ds->ti ρ φ) (P:Nat->DE->Prop) (h0:P 0 ρ)
  (ht:∀ i d ρ,ds[i]?=some d->P i ρ->g d ρ λρ'=>tb ρ' { Z with nx:=P (i + 1),ct:=P (i + 1),bk:=Z.nx }) (hd:∀ ρ,P ds.length ρ->Z.nx ρ):sFor ti g tb ρ Z:=h _ ⟨P,h0,ht,hd⟩
def xc {ti:TID} {n:Nat} {js:List Nat} {g:TGD} {tc:TDb} {te:TD} {ρ:DE} {φ:EV->Prop} (ds:List D) (h:∀ ψ:List D->Prop,ψ ds->ti ρ ψ) (f:D->Option D) (hl:ds.length <= 100000)
  (ht:∀ d ∈ ds,g d (ρ0 n js ρ) λρ'=>tc ρ' λc=>(c=true->te ρ' λr=>(match r.k with | .own=>False | _=>True) /\ f d=some r.d) /\ (c=false->f d=none)) (hφ:φ (df (.lst (ds.filterMap f)))):Tu ti n js g tc te ρ φ:=h _ ⟨f,hl,ht,hφ⟩
def ud {lo:Int} {n i:Nat} {d:D} (h:(rngD lo n)[i]?=some d):i < n /\ d=.int (lo + (i:Int)):=by
 unfold rngD at h
 rw [List.getElem?_map] at h
 cases e:(List.range n)[i]? with
 | none=>rw [e] at h; cases h
 | some m =>
  rw [e] at h
  have hi:=(List.getElem?_eq_some_iff.mp e).1
  rw [List.length_range] at hi
  rw [List.getElem?_range hi] at e
  cases e
  cases h
  exact ⟨hi,rfl⟩
def sk {lo:Int} {n:Nat}:(rngD lo n).length=n:=by unfold rngD; simp
def S5 {α β:Type} (f:α->β) (l:List α) (i:Int):atI (l.map f) i=(atI l i).map f:=by
 unfold atI
 rw [zLm]
 cases ixN l.length i with
 | none=>rfl
 | some j=>simp
end DL
namespace DL
open PySem PySem.Spec L2 L3
open PyProof.Rows hiding St
def sy {X:Cx} {K0:W.Frag} {es:List Expr} {k:Nat} {t:TGs} {n:Nat} {pos:Pos} (hK:X.K=K0) (hc:X.calm=true) (h:PGs X es t) (hn:(assignEach es X.env).length=n:=by rfl) (hst:(assignEach es X.env).findIdx? (·.1)=none:=by rfl):PG X (.Tuple es k pos) (gTup K0 n t):=by
 subst hK
 exact K9 hc h hn hst
def P3 {K:W.Frag} {C:Addr} (hd:W.hasDictIn K C=true):(W.clsIn K C).isSome=true:=by
 obtain ⟨cd,hc,_⟩:=W.any_some hd
 rw [hc]; rfl
def fu {K:W.Frag} {C C0:Addr} {b:Bool} (ty:W.typeIn K (.ref C0)=some (.type "type")) (hd:W.hasDictIn K C0=true) (h:W.subIn K (.ref C) (.ref C0)=some b):W.kitCls K (.ref C) (.ref C0)=some b:=by
 unfold W.kitCls
 dsimp only
 rw [if_pos (by rw [P3 hd,ty]; rfl)]
 exact h
def Jt {K:W.Frag} {C C0:Addr} {b:Bool} (hb:W.subIn K (.ref C0) (.type "BaseException")=some true) (ty:W.typeIn K (.ref C0)=some (.type "type")) (hd:W.hasDictIn K C0=true) (h:W.subIn K (.ref C) (.ref C0)=some b):W.exmOne K (.ref C) (.ref C0)=some b:=by
 unfold W.exmOne
 rw [if_pos (by rw [hb]; rfl)]
 exact fu ty hd h
def Qa {K:W.Frag} {C:Addr}:W.kitOne K (.ref C) (.ref C)=some true:=by
 unfold W.kitOne
 rw [if_pos (beq_self_eq_true _)]
def w8 {K:W.Frag} {C C0:Addr} {b:Bool} (hn:C ≠ C0) (ty:W.typeIn K (.ref C0)=some (.type "type")) (hd:W.hasDictIn K C0=true) (h:W.subIn K (.ref C) (.ref C0)=some b):W.kitOne K (.ref C) (.ref C0)=some b:=by
 unfold W.kitOne
 rw [if_neg (λz=>hn (Value.ref.inj (beq_iff_eq.mp z)))]
 exact fu ty hd h
abbrev excV (K:W.Frag) (C:Addr):Prop:=W.excIn K C [.type "ValueError", .type "Exception", .type "BaseException", .type "object"] "ValueError.__new__" = true
end DL
namespace DL
open PySem PySem.Spec L2 L3
open PyProof.Rows hiding St
variable {Γ:Hp->Prop}
def zipD (xs ys:List D):List D:=List.zipWith (λx y=>D.tup [x,y]) xs ys
def seqD:D->Option (List D)
 | .lst ds=>some ds
 | .tup ds=>some ds
 | .scr ns=>some (ns.map D.int)
 | _=>none
def Sx {ds:List D}:seqD (.lst ds)=some ds:=rfl
def Sv {ds:List D}:seqD (.tup ds)=some ds:=rfl
def Sw {ns:List Int}:seqD (.scr ns)=some (ns.map D.int):=rfl
def SeqP (b:Bool) (K:W.Frag) (H:Hp) (O:List Addr) (l:Addr) (d:D):Prop:=match d with
 | .lst ds=>b=false /\ ∃ xs,H l=some (.lst xs) /\ l ∉ O /\ Reps K H O ds xs
 | .tup ds=>b=true /\ ∃ xs,SqT K H l xs /\ Reps K H O ds xs
 | .scr ns=>b=false /\ Scr K H l ns
 | _=>False
def SeqP.of {K:W.Frag} {H:Hp} {O:List Addr} {d:D} {v:V} {ds:List D} (h:Rep K H O d v) (e:seqD d=some ds):∃ b l,v=.ref l /\ SeqP b K H O l d:=by
 cases d with
 | lst es=>obtain ⟨a,xs,rfl,q,n,r⟩:=h; exact ⟨false,a,rfl,rfl,xs,q,n,r⟩
 | tup es=>obtain ⟨a,xs,rfl,q,r⟩:=h; exact ⟨true,a,rfl,rfl,xs,q.1,r⟩
 | scr ns=>obtain ⟨a,rfl,q⟩:=h; exact ⟨false,a,rfl,rfl,q⟩
 | _=>cases e
def SeqP.sq {b:Bool} {K:W.Frag} {H:Hp} {O:List Addr} {l:Addr} {d:D} {ds:List D} (h:SeqP b K H O l d) (e:seqD d=some ds):∃ xs,SqK b K H l xs /\ Reps K H O ds xs:=by
 cases d with
 | lst es=>obtain ⟨rfl,xs,q,n,r⟩:=h; cases e; exact ⟨xs,SqL.of q,r⟩
 | tup es=>obtain ⟨rfl,xs,q,r⟩:=h; cases e; exact ⟨xs,q,r⟩
 | scr ns=>obtain ⟨rfl,q⟩:=h; cases e; exact ⟨_,q.seq,Reps.ints ns⟩
 | _=>cases e
def SeqP.grow {b:Bool} {K:W.Frag} {H H':Hp} {O O':List Addr} {l:Addr} {d:D} (h:SeqP b K H O l d) (g:Grow O O' H H'):SeqP b K H' O' l d:=by
 cases d with
 | lst es=>obtain ⟨rfl,xs,q,n,r⟩:=h; exact ⟨rfl,xs,(g.keep _ _ q n).1,(g.keep _ _ q n).2,Reps.grow g _ _ r⟩
 | tup es=>obtain ⟨rfl,xs,q,r⟩:=h; exact ⟨rfl,xs,je g q,Reps.grow g _ _ r⟩
 | scr ns=>obtain ⟨rfl,q⟩:=h; exact ⟨rfl,t8 g q⟩
 | _=>exact h.elim
section
variable {X:Cx} {pn:List (Addr × Obj)} {σ:St} {H:Hp} {s:Shared}
def Jg {K:W.Frag} {b1 b2:Bool} {l1 l2:Addr} {d1 d2:D} {xs ys:List D} (e1:seqD d1=some xs) (e2:seqD d2=some ys):ItD K (Itz b1 b2 K l1 l2) (zipD xs ys) (λH O=>SeqP b1 K H O l1 d1 /\ SeqP b2 K H O l2 d2) where
 go:=λH O i d ⟨p1,p2⟩ e=>by
  obtain ⟨us,q1,r1⟩:=p1.sq e1
  obtain ⟨vs,q2,r2⟩:=p2.sq e2
  unfold zipD at e
  rw [List.getElem?_zipWith] at e
  cases ex:xs[i]? with
  | none=>rw [ex] at e; cases e
  | some x =>
   cases ey:ys[i]? with
   | none=>rw [ex,ey] at e; cases e
   | some y =>
    rw [ex,ey] at e
    cases e
    obtain ⟨u,eu,ru⟩:=r1.get ex
    obtain ⟨v,ev,rv⟩:=r2.get ey
    refine ⟨⟨us,vs,u,v,q1,q2,eu,ev⟩,λz H' yl=>?_⟩
    obtain ⟨T,u',v',hT,rfl,eu',ev',rfl⟩:=yl
    have eu':=eu' _ q1
    have ev':=ev' _ q2
    rw [eu] at eu'
    rw [ev] at ev'
    cases eu'
    cases ev'
    have sm:Same H (upd H T (.tup [u,v])):=λb w hb=>by rw [zi (zf hb hT)]; exact hb
    refine ⟨sm,T,[u,v],rfl,⟨.inl (.inl zg),zg⟩,?_⟩
    exact ⟨u,[v],rfl,Rep.grow (Grow.same sm) _ _ ru,v,[],rfl,Rep.grow (Grow.same sm) _ _ rv,rfl⟩
 stop:=λH O ⟨p1,p2⟩=>by
  obtain ⟨us,q1,r1⟩:=p1.sq e1
  obtain ⟨vs,q2,r2⟩:=p2.sq e2
  refine ⟨us,vs,q1,q2,?_⟩
  have h1:=r1.length
  have h2:=r2.length
  unfold zipD
  rw [List.length_zipWith,h1,h2]
  omega
 keep:=λO O' H H' ⟨p1,p2⟩ g=>⟨p1.grow g,p2.grow g⟩
def iZ (t:TDs):TID:=λρ φ=>t ρ λrs=>match rs with
 | [⟨k1,d1⟩,⟨k2,d2⟩]=>(match k1 with | .own=>False | _=>True) /\ (match k2 with | .own=>False | _=>True) /\ match seqD d1,seqD d2 with
  | some xs,some ys=>φ (zipD xs ys)
  | _,_=>False
 | _=>False
def Jx {es:List Expr} {kk:Nat} {tp:Pos} {a b:Expr} {t:TDs} {p pos:Pos} (hm:X.mg "zip" = none) (ha:EA Γ X [a,b] t) (hg:Gl X "zip":=by rfl)
  (he:starEach [a,b] X.env=(false,eval a X.env) :: starEach [b] X.env:=by rfl) (hpl:(backTo pos (starEach [b] X.env)).any (·.1)=false:=by rfl):EI Γ X (.Tuple es kk tp) (.Call (.Name "zip" p) [a,b] [] pos) (iZ t):=λH₀=>impI (K7 hg hm (ha H₀) he hpl) λσ H R q=>by
 obtain ⟨ρ,o,RE,φ,hφ,k⟩:=q
 refine ⟨ρ,o,RE,_,hφ,λvs rs H1 s1 rvs h1=>?_⟩
 split at h1
 ·rename_i k1 d1 k2 d2
  obtain ⟨n1,n2,h1⟩:=h1
  obtain ⟨v1,w1,rfl,q1,v2,w2,rfl,q2,rfl⟩:=rvs
  have p1:=q1.solid (wg n1)
  have p2:=q2.solid (wg n2)
  split at h1
  ·rename_i xs ys e1 e2
   obtain ⟨b1,l1,rfl,z1⟩:=SeqP.of p1 e1
   obtain ⟨b2,l2,rfl,z2⟩:=SeqP.of p2 e2
   obtain ⟨us,y1,_⟩:=z1.sq e1
   obtain ⟨ws,y2,_⟩:=z2.sq e2
   exact ⟨b1,b2,l1,l2,us,ws,rfl,y1,y2,k _ _ _ H1 s1 (Jg e1 e2) ⟨z1,z2⟩ h1⟩
  ·exact h1.elim
 ·exact h1.elim
def ints_of:∀ {ns:List Int} {its:List Value},Vals (ns.map V.int) its->∃ xs:List (Int × Tok),its=xs.map (λp=>Value.int p.1 p.2) /\ xs.map (·.1)=ns
 | [],_,h=>by cases h; exact ⟨[],rfl,rfl⟩
 | n :: ns,_,h=>by
  cases h with
  | cons r t =>
   obtain ⟨xs,e1,e2⟩:=ints_of t
   obtain ⟨tk,rfl⟩:=r
   exact ⟨(n,tk) :: xs,by rw [e1]; rfl,by rw [<- e2]; rfl⟩
def S0 (hc:X.calm=true):w5 X (.builtin "sum") (λxs H Q=>∃ (p:Addr) (ns:List Int),xs=[.ref p] /\ SqL X.K H p (ns.map V.int) /\ Q (.int ns.sum) H):=by
 intro pn s σ H xs us Q I r h
 obtain ⟨p,ns,rfl,hq,q⟩:=h
 obtain ⟨u,rfl,rx⟩:=ux r
 cases rx
 obtain ⟨its,rv,pl,hz⟩:=I.list hq
 obtain ⟨xs,e1,e2⟩:=ints_of rv
 have hl:s.heap.IsList p (intItems xs.toArray):=by
  have:=pl.isList
  rw [e1] at this
  unfold intItems
  simpa using this
 refine sum_intListG (I.ok.hd hc) hl λh' tk t' hk=>?_
 rw [preSum_eq,List.take_of_length_le (by simp)]
 rw [show xs.toArray.toList.map (·.1)=ns from e2]
 exact ⟨.int ns.sum,H,I.kept (t':=tk) hk,⟨t',rfl⟩,q⟩
def qq:List D->Option (List Int)
 | []=>some []
 | .int n :: r=>(qq r).map (n :: ·)
 | _ :: _=>none
def jw:∀ {ds:List D} {ns:List Int},qq ds=some ns->ds=ns.map D.int
 | [],ns,h=>by cases h; rfl
 | d :: r,ns,h=>by
  cases d with
  | int n =>
   cases e:qq r with
   | none=>unfold qq at h; rw [e] at h; cases h
   | some ms =>
    unfold qq at h
    rw [e] at h
    cases h
    rw [jw e]
    rfl
  | _=>cases h
def dw:∀ (ns:List Int),qq (ns.map D.int)=some ns
 | []=>rfl
 | n :: ns=>by rw [List.map_cons,qq,dw ns]; rfl
def wo {K:W.Frag} {H:Hp} {O:List Addr}:∀ {ns:List Int} {xs:List V},Reps K H O (ns.map D.int) xs->xs=ns.map V.int
 | [],_,h=>h
 | n :: ns,xs,h=>by
  obtain ⟨v,r,rfl,q,t⟩:=h
  rw [wo t]
  cases (show v=_ from q)
  rfl
def sSum:FT:=λds φ=>match ds with
 | [.lst l]=>match qq l with
  | some ns=>φ (dv (.int ns.sum))
  | none=>False
 | _=>False
def Ml {e:Expr} {es:List Expr} {t:TDs} {p pos:Pos} (hm:X.mg "sum" = none) (ha:EA Γ X (e :: es) t) (hc:X.calm=true:=by rfl) (hg:Gl X "sum":=by rfl) (he:starEach (e :: es) X.env=(false,eval e X.env) :: starEach es X.env:=by rfl) (hpl:(backTo pos (starEach es X.env)).any (·.1)=false:=by rfl):ED Γ X (.Call (.Name "sum" p) (e :: es) [] pos) (dCB sSum t) :=
 wa (S0 hc) (λH O ds vs φ Q ho hv h k=>by
  unfold sSum at h
  split at h
  ·rename_i l
   split at h
   ·rename_i ns en
    obtain ⟨v,ws,rfl,⟨a,xs,rfl,q,r⟩,rfl⟩:=hv
    have el:=jw en
    subst el
    have:=wo r
    subst this
    exact ⟨a,ns,rfl,SqL.of q,k _ _ H (Same.refl H) (by exact rfl) h⟩
   ·exact h.elim
  ·exact h.elim) hm (by kernel_rfl) ha hg (by decide) (by decide) he hpl
end
def frzS:DE->Nat->DE
 | [],_=>[]
 | x :: r,0=>x.map (λr=>dv r.d) :: r
 | x :: r,i + 1=>x :: frzS r i
def Yv:∀ (ρ:DE) (i j:Nat),(frzS ρ i)[j]?=if j=i then ρ[j]?.map (λx=>x.map λr=>dv r.d) else ρ[j]?
 | [],i,j=>by simp [frzS]
 | x :: r,0,0=>rfl
 | x :: r,0,j + 1=>by simp [frzS]
 | x :: r,i + 1,0=>by simp [frzS]
 | x :: r,i + 1,j + 1=>by
  have:=Yv r i j
  simp only [frzS,List.getElem?_cons_succ,this]
  by_cases h:j=i
  ·simp [h]
  ·rw [if_neg h,if_neg (by omega)]
def Yu:∀ (ρ:DE) (i:Nat),(frzS ρ i).length=ρ.length
 | [],_=>rfl
 | _ :: _,0=>rfl
 | x :: r,i + 1=>by simp [frzS,Yu r i]
def REnv.frz1 {K:W.Frag} {H₀ H:Hp} {σ:St} {ρ:DE} {o:List (Nat × Addr)} (R:REnv K H₀ H σ ρ o) (i:Nat):∃ o',REnv K H₀ H σ (frzS ρ i) o' /\ ∀ p ∈ o',p ∈ o:=by
 refine ⟨o.filter λp=>decide (p.1 ≠ i),?_,λp hp=>(List.mem_filter.mp hp).1⟩
 have sub:∀ p ∈ o.filter (λp=>decide (p.1 ≠ i)),p ∈ o:=λp hp=>(List.mem_filter.mp hp).1
 have subA:∀ a ∈ (o.filter (λp=>decide (p.1 ≠ i))).map Prod.snd,a ∈ o.map Prod.snd:=λa ha=>by
  obtain ⟨p,hp,e⟩:=List.mem_map.mp ha
  exact List.mem_map.mpr ⟨p,sub p hp,e⟩
 exact {
  same:=R.same
  fresh:=λp hp=>R.fresh p (sub p hp)
  trk:=λp hp=>R.trk p (sub p hp)
  mtb:=λp hp=>R.mtb p (sub p hp)
  nda:=List.Nodup.sublist (List.Sublist.map _ List.filter_sublist) R.nda
  len:=by rw [Yu]; exact R.len
  slots:=λj r e=>by
   rw [Yv] at e
   by_cases hj:j=i
   ·rw [if_pos hj] at e
    cases e1:ρ[j]? with
    | none=>rw [e1] at e; cases e
    | some x =>
     rw [e1] at e
     cases x with
     | none=>cases e
     | some r' =>
      have e':some (dv r'.d)=some r:=Option.some.inj e
      cases e'
      obtain ⟨v,ev,q⟩:=R.slots j r' e1
      refine ⟨v,ev,.inl ⟨rfl,?_⟩⟩
      rcases q with ⟨_,q⟩ | ⟨_,a,rfl,m,c⟩
      ·exact Rep.sub subA _ _ q
      ·refine (c.sub subA).rep λz=>?_
       obtain ⟨p,hp,ep⟩:=List.mem_map.mp z
       have:=Zk R.nda (sub p hp) m ep
       have hne:=of_decide_eq_true (List.mem_filter.mp hp).2
       rw [this] at hne
       exact hne hj
   ·rw [if_neg hj] at e
    obtain ⟨v,ev,q⟩:=R.slots j r e
    refine ⟨v,ev,?_⟩
    rcases q with ⟨k,q⟩ | ⟨k,a,e1,m,c⟩
    ·exact .inl ⟨k,Rep.sub subA _ _ q⟩
    ·exact .inr ⟨k,a,e1,List.mem_filter.mpr ⟨m,decide_eq_true hj⟩,c.sub subA⟩ }
def sFrz (i:Nat) (t:TDS):TDS:=λρ Z=>t (frzS ρ i) Z
def Lo (i:Nat) {X:Cx} {st:Stmt} {t:TDS} (h:SD Γ X st t):SD Γ X st (sFrz i t):=λH₀=>impS (h H₀) λD σ H h=>by
 obtain ⟨ρ,o,R,Z,hZ,k1,k2,k3,k4⟩:=h
 obtain ⟨o',R',sub⟩:=R.frz1 i
 have g:Grow (o.map Prod.snd) (o'.map Prod.snd) H H:=⟨λb u h n=>⟨h,λz=>n (by
  obtain ⟨p,hp,e⟩:=List.mem_map.mp z
  exact List.mem_map.mpr ⟨p,sub p hp,e⟩)⟩,λb xs h=>h,λb ob u h=>h⟩
 exact ⟨_,o',R',Z,hZ,λρ2 σ2 H2 o2 g2 R2 q2=>k1 ρ2 σ2 H2 o2 (g.trans g2) R2 q2,λρ2 σ2 H2 o2 g2 R2 q2=>k2 ρ2 σ2 H2 o2 (g.trans g2) R2 q2,λρ2 σ2 H2 o2 g2 R2 q2=>k3 ρ2 σ2 H2 o2 (g.trans g2) R2 q2,k4⟩
section
variable {X:Cx} {p np pos:Pos} {e:Expr} {te:TD} {c:Str} {T:String}
def Kb (hm:X.mg c=none) (hv:bootBuiltins c=some (.type T)) (hg:Gl X c:=by rfl) (hn:c ≠ "__name__":=by decide) (hd:(c == ("__debug__" : Str))=false:=by decide):PE X (.Name c np) (λσ H Q=>Q (.ty T) H):=λpn s σ H Q I h=>uu I hg hm hv ⟨.ty T,H,I,rfl,h⟩ hn hd
def To {K0:W.Frag} (hK:X.K=K0) (hi:X.mg "isinstance" = none) (hc:X.mg c=none) (hv:bootBuiltins c=some (.type T)) (he:ED Γ X e te) (hg:Gl X "isinstance":=by rfl) (hg2:Gl X c:=by rfl) (hn:c ≠ "__name__":=by decide) (hd:(c == ("__debug__" : Str))=false:=by decide)
  (hs:starEach [e,.Name c np] X.env=(false,eval e X.env) :: starEach [.Name c np] X.env:=by rfl) (hpl:(backTo pos (starEach [.Name c np] X.env)).any (·.1)=false:=by rfl):ED Γ X (.Call (.Name "isinstance" p) [e,.Name c np] [] pos) (dIsE K0 (.type T) te):=λH₀=>by
 subst hK
 exact impE (jj X4 hg hi x9 (xi (he H₀) (xi (Kb hc hv hg2 hn hd) uq) hs) (by decide) (by decide) hs hpl) (Yq (y:=.ty T) (λu h=>h) λσ H Q q=>by
  obtain ⟨ρ,o,R,φ,hφ,kk⟩:=q
  exact ⟨ρ,o,R,φ,hφ,kk⟩)
end
def blsD:List D->Option (List Bool)
 | []=>some []
 | .bl b :: r=>(blsD r).map (b :: ·)
 | _ :: _=>none
def S4:∀ {ds:List D} {bs:List Bool},blsD ds=some bs->ds=bs.map D.bl
 | [],bs,h=>by cases h; rfl
 | d :: r,bs,h=>by
  cases d with
  | bl n =>
   cases e:blsD r with
   | none=>unfold blsD at h; rw [e] at h; cases h
   | some ms =>
    unfold blsD at h
    rw [e] at h
    cases h
    rw [S4 e]
    rfl
  | _=>cases h
def tu:∀ (bs:List Bool),blsD (bs.map D.bl)=some bs
 | []=>rfl
 | b :: bs=>by rw [List.map_cons,blsD,tu bs]; rfl
def Yh {K:W.Frag} {H:Hp} {O:List Addr}:∀ {bs:List Bool} {xs:List V},Reps K H O (bs.map D.bl) xs->xs=bs.map V.bl
 | [],_,h=>h
 | n :: bs,xs,h=>by
  obtain ⟨v,r,rfl,q,t⟩:=h
  rw [Yh t]
  cases (show v=_ from q)
  rfl
section
variable {X:Cx} {e:Expr} {es:List Expr} {t:TDs} {p pos:Pos}
def Vo (g:List Bool->Bool):FT:=λds φ=>match ds with
 | [.lst l]=>match blsD l with
  | some bs=>φ (dv (.bl (g bs)))
  | none=>False
 | _=>False
def Q4 {f:List V->Bool} {g:List Bool->Bool} (hf:∀ bs:List Bool,f (bs.map V.bl)=g bs):Sb X.K (rAll X.K f) (Vo g):=by
 intro H O ds vs φ Q ho hv h k
 unfold Vo at h
 split at h
 ·rename_i l
  split at h
  ·rename_i bs en
   obtain ⟨v,ws,rfl,⟨a,xs,rfl,q,r⟩,rfl⟩:=hv
   have el:=S4 en
   subst el
   have:=Yh r
   subst this
   refine ⟨a,_,rfl,.inl (SqL.of q),λy hy=>?_,?_⟩
   ·obtain ⟨b,_,rfl⟩:=List.mem_map.mp hy
    rfl
   ·rw [hf]
    exact k _ _ H (Same.refl H) (by exact rfl) h
  ·exact h.elim
 ·exact h.elim
def g0 (hm:X.mg "all" = none) (ha:EA Γ X (e :: es) t) (hc:X.calm=true:=by rfl) (hg:Gl X "all":=by rfl) (he:starEach (e :: es) X.env=(false,eval e X.env) :: starEach es X.env:=by rfl) (hpl:(backTo pos (starEach es X.env)).any (·.1)=false:=by rfl):ED Γ X (.Call (.Name "all" p) (e :: es) [] pos) (dCB (Vo λbs=>bs.all id) t) :=
 wa (ba hc) (Q4 λbs=>by
  induction bs with
  | nil=>rfl
  | cons b bs ih=>rw [List.map_cons,List.all_cons,List.all_cons,ih]; cases b <;> rfl) hm (by kernel_rfl) ha hg (by decide) (by decide) he hpl
end
end DL
namespace HT
open PySem PyProof.Rows
section
variable {prog:Program} {w:World} {A:Around} {E:Value->Shared->Prop} {s:Shared}
def getItem_tuple_whole {t sl:Addr} {items:Array Value} {vl vu:Value} {lo hi:Option Int} {Q:Value->Shared->Prop} (ht:IsTup s.heap t items) (hs:s.heap.IsSliceOf sl vl vu .none) (pl:IsPart vl lo) (pu:IsPart vu hi)
  (hw:sIx items.size 0 lo=0 /\ sIx items.size items.size hi=items.size)
  (h:∀ tk,Q (.ref t) { s with toks:=tk }):wpAny (model prog w) A (getItem (.ref t) (.ref sl)) Q E s:=by
 obtain ⟨os,hos,hcs,hds⟩:=id hs
 have hTs:s.TypeIs (.ref sl) "slice":=⟨os,hos,hcs⟩
 unfold getItem
 try with_reducible refine wpAny_holding ?_
 first | refine wpAny_bind (wpAny_pure ?_) | skip
 refine wpAny_bind (wpAny_sequenceKey ht.typeIs (by decide) ?_)
 refine wpAny_bind (wpAny_callSpecial?_slot (name:=Str.ofString "__getitem__") ht.typeIs PyProof.Rows.slot_tuple_getitem
  (wpAny_call_entry PyProof.Rows.slot_tuple_getitem ht.typeIs entry_tuple_getitem ?_ (args_tuple_getitem _ _)))
 show wpAny _ _ (Builtin.Tuple.tupleItemsOf (.ref t) >>= _) _ _ s
 refine wpAny_bind (tupleItemsOf_ ht ?_)
 refine wpAny_bind (wpAny_typeOf hTs ?_)
 rw [if_pos (by decide)]
 refine wpAny_bind (we hs pl pu ?_)
 have hyes:((((sIx items.size 0 lo:Nat):Int) == 0 && (1:Int) == 1 && (sIx items.size items.size hi - sIx items.size 0 lo) == items.size)=true):=by
  rw [hw.1,hw.2]
  simp
 show wpAny _ _ (if (((sIx items.size 0 lo:Nat):Int) == 0 && (1:Int) == 1 && (sIx items.size items.size hi - sIx items.size 0 lo) == items.size)=true then _ else _) _ _ s
 rw [if_pos hyes]
 refine wpAny_bind (m:=Builtin.Tuple.tupleIsExact _) (wpAny_bind (wpAny_typeOf ht.typeIs (wpAny_pure ?_)))
 rw [if_pos (by decide)]
 exact wpAny_bind (wpAny_rule (wpAny_pure ⟨_,rfl,wpAny_pure (h s.toks)⟩))
def cat_tup0 {t b:Addr} {ws:List Value} {Q:Value->Shared->Prop} (ht:IsTup s.heap t #[]) (hb:IsTup s.heap b ws.toArray)
  (h1:Q (.ref b) s):wpAny (model prog w) A (binaryOp .Add (.ref t) (.ref b)) Q E s:=by
 obtain ⟨⟨cls,dd,data,sl⟩,ho,hc,n,hd⟩:=id ht
 obtain ⟨⟨cls2,dd2,data2,sl2⟩,ho2,hc2,n2,hd2⟩:=id hb
 simp only at hc hd hc2 hd2
 subst hc hd hc2 hd2
 exact concat_meets ⟨_,ho,rfl⟩ ⟨_,ho2,rfl⟩ noFill_tuple_add seq_tuple_add PySem.F.slot_tuple_add PySem.F.entry_tuple_add (PySem.F.args_tuple_add_2 _ _)
   (tuple_addW0 t b #[] ws.toArray n n2 dd dd2 sl sl2 (by simp)) ⟨ho,ho2,h1⟩
end
end HT
namespace L2
open PySem PySem.Spec PyProof.Rows
section
variable {X:Cx}
def rSlW (K:W.Frag):V->Option Int->Option Int->Hp->VK->Prop:=λx lo hi H Q=>∃ a xs,x=.ref a /\ SqT K H a xs /\
 (HT.sIx xs.length 0 lo=0 /\ HT.sIx xs.length xs.length hi=xs.length) /\ Q (.ref a) H
def Og:SlR X (rSlW X.K):=by
 intro pn s σ H x v vl vu lo hi sl Q I rx hs pl pu h
 obtain ⟨a,xs,rfl,hx,hw,q⟩:=h
 cases rx
 obtain ⟨its,r,ht,hz⟩:=I.tuple hx
 have hlen:its.toArray.size=xs.length:=by rw [List.size_toArray]; exact r.length.symm
 refine ⟨"tuple", _,PyProof.Rows.slot_tuple_getitem.lookup,ht.typeIs,?_⟩
 exact HT.getItem_tuple_whole ht hs pl pu (by rw [hlen]; exact hw) λtk=>⟨.ref a,H,I.tok tk,rfl,q⟩
def K1 (K:W.Frag):R2:=λx y H Q=>∃ a b ys,x=.ref a /\ y=.ref b /\ SqT K H a [] /\ SqT K H b ys /\ Q (.ref b) H
def Ru:OpR X (binaryOp .Add) (K1 X.K):=by
 intro pn s σ H x y v u Q I rx ry h
 obtain ⟨a,b,ys,rfl,rfl,ha,hb,q⟩:=h
 cases rx
 cases ry
 obtain ⟨its,r1,p1,_⟩:=I.tuple ha
 obtain ⟨its2,r2,p2,_⟩:=I.tuple hb
 cases r1
 exact HT.cat_tup0 p1 p2 ⟨.ref b,H,I,rfl,q⟩
end
end L2
namespace DL
open PySem PySem.Spec L2 L3
open PyProof.Rows hiding St
variable {Γ:Hp->Prop}
def RV.anew {K:W.Frag} {H0 H:Hp} {O:List Addr} {r:EV} {v:V} (h:RV K H0 H O r v) (p:xw r):RepN K H (λa=>a ∉ O /\ H0 a=none) r.d v:=by
 obtain ⟨k,d⟩:=r
 cases k with
 | val=>exact Rep.toN _ _ p h
 | own=>exact p.elim
 | new=>exact h
 | fre =>
  obtain ⟨a,rfl,m,n,c⟩:=h
  cases d with
  | lst ds=>obtain ⟨xs,q,r⟩:=c; exact ⟨a,xs,rfl,q,⟨n,m⟩,Reps.toN _ _ p r⟩
  | dk ks ds=>obtain ⟨xs,q,l,nd,r⟩:=c; exact ⟨a,xs,rfl,q,⟨n,m⟩,l,nd,Reps.toN _ _ p r⟩
  | dt ks ds=>obtain ⟨xs,q,l,nd,r⟩:=c; exact ⟨a,xs,rfl,q,⟨n,m⟩,l,nd,Reps.toN _ _ p r⟩
  | fd m'=>exact ⟨a,rfl,c,n,m⟩
  | _=>exact c.elim
def ji:List EV->Prop
 | []=>True
 | r :: rs=>xw r /\ ji rs
def RVs.anew {K:W.Frag} {H0 H:Hp} {O:List Addr}:∀ {rs:List EV} {vs:List V},RVs K H0 H O rs vs->ji rs->yg K H (λa=>a ∉ O /\ H0 a=none) (rs.map EV.d) vs
 | [],_,h,_=>h
 | r :: rs,vs,h,p=>by
  obtain ⟨v,ws,e,h1,t⟩:=h
  exact ⟨v,ws,e,h1.anew p.1,RVs.anew t p.2⟩
section
variable {X:Cx} {a b e ix:Expr} {es:List Expr} {t:TDs} {ta tb te tk:TD} {pos:Pos}
def Hf (t:TDs):TD:=λρ φ=>t ρ λrs=>ji rs /\ Nat.ble rs.length 1000=true /\ φ ⟨.new,.tup (rs.map EV.d)⟩
def Mk {x1} (h:EA Γ X es t):ED Γ X (.Tuple es x1 pos) (Hf t):=λH₀=>impE (U0 (h H₀)) λσ H Q q=>by
 obtain ⟨ρ,o,R,φ,hφ,k⟩:=q
 refine ⟨ρ,o,R,_,hφ,λvs rs H1 s1 rvs h1=>⟨by rw [rvs.length]; exact jo h1.2.1,λp hp=>?_⟩⟩
 refine k _ ⟨.new,.tup (rs.map EV.d)⟩ _ (s1.trans (zo hp _)) ⟨p,vs,rfl,⟨SqT.of zg,zg⟩,yg.to (zo hp _) (λ_ z=>z) _ _ (rvs.anew h1.1)⟩ h1.2.2
def Hh (ta tb:TD):TD:=λρ φ=>ta ρ λx=>tb ρ λy=>match x.d,y.d with
 | .tup p,.tup q=>xw x /\ xw y /\ p.length + q.length <= sizeLine /\ φ ⟨.new,.tup (p ++ q)⟩
 | _,_=>False
def Mp (ha:ED Γ X a ta) (hb:ED Γ X b tb):ED Γ X (.BinOp a .Add b pos) (Hh ta tb):=λH₀=>impE (Ke (U5.or Ru) (ha H₀) (hb H₀)) λσ H Q q=>by
 obtain ⟨ρ,o,R,φ,hφ,k⟩:=q
 refine ⟨ρ,o,R,_,hφ,λv1 r1 H1 s1 rv1 h1=>⟨ρ,o,R.to s1,_,h1,λv2 r2 H2 s2 rv2 h2=>?_⟩⟩
 have n1:=λp=>(rv1.same s2).anew p
 have n2:=λp=>(rv2.start s1).anew p
 obtain ⟨k1,d1⟩:=r1
 obtain ⟨k2,d2⟩:=r2
 cases d1 with
 | tup p =>
  cases d2 with
  | tup q =>
   obtain ⟨p1,p2,hl,hn⟩:=h2
   obtain ⟨a1,xs,rfl,q1,r1⟩:=n1 p1
   obtain ⟨a2,ys,rfl,q2,r2⟩:=n2 p2
   have l1:=r1.length
   have l2:=r2.length
   cases p with
   | nil =>
    have e:xs=[]:=List.eq_nil_of_length_eq_zero l1
    subst e
    exact .inr ⟨a1,a2,ys,rfl,rfl,q1.1,q2.1,k _ ⟨.new,.tup q⟩ H2 (s1.trans s2) ⟨a2,ys,rfl,q2,r2⟩ hn⟩
   | cons d p =>
    refine .inl ⟨a1,a2,xs,ys,rfl,rfl,q1.1,q2.1,(λz=>by subst z; cases l1),by rw [l1,l2]; exact hl,λz=>?_,λz p' hp=>?_⟩
    ·subst z
     have e:q=[]:=List.eq_nil_of_length_eq_zero l2.symm
     subst e
     rw [List.append_nil] at hn
     exact k _ ⟨.new,.tup (d :: p)⟩ H2 (s1.trans s2) ⟨a1,xs,rfl,q1,r1⟩ hn
    ·exact k _ ⟨.new,.tup (d :: p ++ q)⟩ _ ((s1.trans s2).trans (zo hp _)) ⟨p',xs ++ ys,rfl,⟨SqT.of zg,zg⟩,yg.to (zo hp _) (λ_ z=>z) _ _ (r1.append r2)⟩ hn
  | _=>exact h2.elim
 | _=>exact h2.elim
def dSlT (te:TD) (tl th:TDo):TD:=λρ φ=>te ρ λx=>tl ρ λl=>th ρ λu=>match x.d with
 | .tup ds=>φ (dv (.tup (cutD ds l u)))
 | _=>False
def Wk {ds:List D} {l u:Option Int} (h:HT.sIx ds.length 0 l=0 /\ HT.sIx ds.length ds.length u=ds.length):cutD ds l u=ds:=by
 unfold cutD
 rw [h.1,h.2]
 simp
def Tj {lo hi:Option Expr} {tl th:TDo} {p2:Pos} (he:ED Γ X e te) (hl:EO Γ X lo tl) (hu:EO Γ X hi th):ED Γ X (.Subscript e (.Slice lo hi none p2) pos) (dSlT te tl th):=λH₀ =>
 impE (Yl (Og.or Pc) (he H₀) (hl H₀) (hu H₀)) λσ H Q q=>by
  obtain ⟨ρ,o,R,φ,hφ,k⟩:=q
  refine ⟨ρ,o,R,_,hφ,λv r H1 s1 rv h1=>⟨ρ,o,R.to s1,_,h1,λl H2 s2 h2=>⟨ρ,o,R.to (s1.trans s2),_,h2,λu H3 s3 h3=>?_⟩⟩⟩
  have s12:=s1.trans s2
  have s13:=s12.trans s3
  have vw:=(rv.same (s2.trans s3)).view
  obtain ⟨kd,d⟩:=r
  cases d with
  | tup ds =>
   obtain ⟨a,xs,rfl,q,r⟩:=vw
   by_cases hw:HT.sIx ds.length 0 l=0 /\ HT.sIx ds.length ds.length u=ds.length
   ·refine .inl ⟨a,xs,rfl,q.1,by rw [r.length]; exact hw,?_⟩
    have h3':φ (dv (.tup ds)):=by
     have:=h3
     simp only [Wk hw] at this
     exact this
    exact k _ (dv (.tup ds)) _ s13 ⟨a,xs,rfl,q,r⟩ h3'
   ·refine .inr ⟨a,xs,rfl,q.1,by rw [r.length]; exact hw,λp hp=>?_⟩
    exact k _ _ _ (s13.trans (zo hp _)) (RV.start (fc hp (t9 r l u)) s13) h3
  | _=>exact h3.elim
def popD (ds:List D):Option (List D × D):=match ds.getLast? with
 | some d=>some (ds.dropLast,d)
 | none=>none
def Rl (ds:List D) (d:D):popD (ds ++ [d])=some (ds,d):=by
 unfold popD
 simp
end
end DL
namespace DL
open PySem PySem.Spec L2 L3
open PyProof.Rows hiding St
def nsD (ns:List Int):List D:=ns.map D.int
def Y4:D->Bool
 | .int _=>true
 | _=>false
def uo:D->Bool
 | .ty _=>false
 | .cn _=>false
 | .scr _=>false
 | .dz _=>false
 | .exc _=>false
 | .fd _=>false
 | .ob _ _ _=>false
 | _=>true
def g1 (g:D->(EV->Prop)->Prop):FT:=λds φ=>match ds with
 | [d]=>g d φ
 | _=>False
def g2 (g:D->D->(EV->Prop)->Prop):FT:=λds φ=>match ds with
 | [d,e]=>g d e φ
 | _=>False
def g3 (g:D->D->D->(EV->Prop)->Prop):FT:=λds φ=>match ds with
 | [d,e,f]=>g d e f φ
 | _=>False
def Wg {g:D->(EV->Prop)->Prop} {ds:List D} {φ:EV->Prop} (h:g1 g ds φ):∃ d,ds=[d] /\ g d φ:=by
 unfold g1 at h
 split at h
 ·exact ⟨_,rfl,h⟩
 ·exact h.elim
def Tb {g:D->D->(EV->Prop)->Prop} {ds:List D} {φ:EV->Prop} (h:g2 g ds φ):∃ d e,ds=[d,e] /\ g d e φ:=by
 unfold g2 at h
 split at h
 ·exact ⟨_,_,rfl,h⟩
 ·exact h.elim
def Qk {g:D->D->D->(EV->Prop)->Prop} {ds:List D} {φ:EV->Prop} (h:g3 g ds φ):∃ d e f,ds=[d,e,f] /\ g d e f φ:=by
 unfold g3 at h
 split at h
 ·exact ⟨_,_,_,rfl,h⟩
 ·exact h.elim
def sf:FT:=g1 λd φ=>uo d=true /\ φ (dv (.bl (Y4 d)))
def ya {t u:TDS} {ρ:DE} {Z:DZ} (J:DE->Prop) (h1:t ρ { Z with nx:=J }) (h2:∀ ρ2,J ρ2->u ρ2 Z):sSeq (sCut t) u ρ Z:=⟨J,h1,h2⟩
def t0:bootBuiltins "ValueError" = some (.type "ValueError"):=by decide +kernel
def rb:W.kitMeta "ValueError" = true:=by decide +kernel
def Ny {K:W.Frag} {C:Addr} {T:String} {b:Bool} (hm:W.kitMeta T=true) (h:W.subIn K (.ref C) (.type T)=some b):W.kitOne K (.ref C) (.type T)=some b:=by
 unfold W.kitOne
 rw [if_neg (λz=>by cases beq_iff_eq.mp z)]
 unfold W.kitCls
 dsimp only
 rw [if_pos hm]
 exact h
end DL
namespace L2
open PySem PySem.Spec PyProof.Rows
def StrD (h:Heap) (a:Addr) (kvs:List (Str × Value)):Prop :=
 ∃ o es ep,h.get? a=some o /\ o.cls=.type "dict" /\ o.data=.dict es ep /\ es.size=kvs.length /\ (∀ (i:Nat) (e:DictEntry),es[i]?=some e->∃ k v t,kvs[i]?=some (k,v) /\ e.key=.str k t /\ e.val=v) /\ (kvs.map (·.1)).Nodup
section
variable {prog:Program} {w:World} {A:Around} {E:Value->Shared->Prop} {s:Shared}
def StrD.typeIs {a:Addr} {kvs:List (Str × Value)} (h:StrD s.heap a kvs):s.TypeIs (.ref a) "dict":=by
 obtain ⟨o,es,ep,g,c,_⟩:=h
 exact ⟨o,g,c⟩
def tw {d:Addr} {Q:Unit->Shared->Prop} (hd:(d == sysModules)=false) (h:Q () s):wpAny (model prog w) A (Builtin.Dict.showsAll d) Q E s:=by
 unfold Builtin.Dict.showsAll
 rw [hd]
 exact wpAny_pure h
def bq {d:Addr} {o:Obj} {es:Array DictEntry} {ep:Nat} {x:Str} {t:Tok} {hs:Int} {i:Nat} {Q:Option Nat->Shared->Prop} (ho:s.heap.get? d=some o) (hd:o.data=.dict es ep)
  (hall:es.all (λe=>isExactStrKey e.key)=true) (hi:i < es.size) (hf:(es.findIdx? λe=>e.key.isStr x)=some i) (hk:∃ t',es[i].key=.str x t') (h:Q (some i) s) :
  wpAny (model prog w) A (dictFind d (.str x t) hs) Q E s:=by
 unfold dictFind
 try with_reducible refine wpAny_holding ?_
 refine wpAny_bind (wpAny_dictEntries ho hd ?_)
 dsimp only
 rw [if_pos hall]
 unfold foundByValue
 rw [hf]
 dsimp only
 rw [show es[i]?=some es[i] by simp [hi]]
 dsimp only
 refine wpAny_bind (wpAny_dictEpoch ho hd ?_)
 obtain ⟨t',hk⟩:=hk
 rw [hk]
 refine wpAny_bind (SeqAt.EqAt.str_str (A:=A) (s:=s) x t' x t prog w E _ ?_)
 refine wpAny_bind (wpAny_dictEpoch ho hd ?_)
 simp only [bne_self_eq_false,Bool.false_eq_true,if_false,beq_self_eq_true,if_true]
 exact wpAny_bind (wpAny_rule (wpAny_pure h))
def Uy {x y:Str} {t:Tok} (h:(Value.str y t).isStr x=true):y=x:=by
 simpa [Value.isStr] using h
def Xk {a b:Addr} {kvs1 kvs2:List (Str × Value)} {id:String} {Q:Bool->Shared->Prop} (ha:StrD s.heap a kvs1) (hb:StrD s.heap b kvs2)
  (na:(a == sysModules)=false) (nb:(b == sysModules)=false) (hk:kvs1.map (·.1)=kvs2.map (·.1))
  (hv:∀ (i:Nat) p q,kvs1[i]?=some p->kvs2[i]?=some q->∀ (A:Around) (Q:Bool->Shared->Prop),Q true s->wpAny (model prog w) A (eqBool p.2 q.2) Q E s)
  (h:Q true s):wpAny (model prog w) A (Builtin.Dict.samePairs id a b) Q E s:=by
 obtain ⟨o1,es1,ep1,g1,x1,d1,l1,p1,n1⟩:=ha
 obtain ⟨o2,es2,ep2,g2,x2,d2,l2,p2,n2⟩:=hb
 have lk:kvs1.length=kvs2.length:=by have:=congrArg List.length hk; simpa using this
 have ls:es1.size=es2.size:=by omega
 have hall:es2.all (λe=>isExactStrKey e.key)=true:=by
  rw [Array.all_eq_true]
  intro i hi
  obtain ⟨k,v,t,_,e,_⟩:=p2 i es2[i] (by simp [hi])
  rw [e]
  rfl
 unfold Builtin.Dict.samePairs
 refine wpAny_bind (tw na (wpAny_bind (tw nb (wpAny_bind (wpAny_dictEntries g1 d1 (wpAny_bind (wpAny_dictEntries g2 d2 ?_)))))))
 rw [if_neg (by simp [ls])]
 refine wpAny_bind (wpAny_dictEpoch g1 d1 ?_)
 rw [Std.Legacy.Range.forIn_eq_forIn_range']
 refine wpAny_bind (wpAny_forIn_list _ (λrest r s'=>r=(none,()) /\ s'=s /\ ∀ i ∈ rest,i < es1.size) _ ?_ ?_ _ _ ⟨rfl,rfl,λi hi=>?_⟩)
 ·rintro i rest _ _ ⟨rfl,rfl,hi⟩
  have hlt:=hi i (List.mem_cons_self ..)
  refine wpAny_bind (wpAny_dictEntries g1 d1 ?_)
  have e1:es1[i]?=some es1[i]:=by simp [hlt]
  rw [e1]
  obtain ⟨k,v,t,q1,q2,q3⟩:=p1 i es1[i] e1
  have h2:i < es2.size:=by omega
  have e2:es2[i]?=some es2[i]:=by simp [h2]
  obtain ⟨k2,v2,t2,r1,r2,r3⟩:=p2 i es2[i] e2
  have ekk:k=k2:=by
   have:=congrArg (λl=>l[i]?) hk
   simp [q1,r1] at this
   exact this
  subst ekk
  have hfind:(es2.findIdx? λe=>e.key.isStr k)=some i:=by
   rw [Array.findIdx?_eq_some_iff_getElem]
   refine ⟨h2,by rw [r2]; simp [Value.isStr],λj hj=>?_⟩
   have hj2:j < es2.size:=by omega
   obtain ⟨k3,v3,t3,u1,u2,u3⟩:=p2 j es2[j] (by simp [hj2])
   intro z
   rw [u2] at z
   have e3:=Uy z
   have hj3:j < (kvs2.map (·.1)).length:=by rw [zLm]; exact (List.getElem?_eq_some_iff.mp u1).1
   have hi3:i < (kvs2.map (·.1)).length:=by rw [zLm]; exact (List.getElem?_eq_some_iff.mp r1).1
   refine List.pairwise_iff_getElem.mp n2 j i hj3 hi3 hj ?_
   have a1:=(List.getElem?_eq_some_iff.mp u1).2
   have a2:=(List.getElem?_eq_some_iff.mp r1).2
   rw [List.getElem_map,List.getElem_map,a1,a2]
   exact e3
  dsimp only
  rw [q2,q3]
  refine wpAny_bind (wpAny_holding (wpAny_bind ?_))
  refine bq g2 d2 hall h2 hfind ⟨t2,r2⟩ ?_
  refine wpAny_bind (wpAny_dictEntries g2 d2 ?_)
  rw [e2]
  refine wpAny_holding ?_
  rw [r3]
  refine hv i (k,v) (k,v2) q1 r1 _ _ ?_
  rw [if_neg (by decide)]
  refine wpAny_bind (wpAny_dictEpoch g1 d1 ?_)
  rw [if_neg (by simp)]
  exact wpAny_pure ⟨rfl,rfl,λj hj=>hi j (List.mem_cons_of_mem _ hj)⟩
 ·rintro _ _ ⟨rfl,rfl,_⟩
  exact wpAny_pure h
 ·have:=List.mem_range'.mp hi
  obtain ⟨j,hj,rfl⟩:=this
  simpa using hj
def Yi {a b:Addr} {kvs1 kvs2:List (Str × Value)} (ha:StrD s.heap a kvs1) (hb:StrD s.heap b kvs2) (na:(a == sysModules)=false) (nb:(b == sysModules)=false)
  (hk:kvs1.map (·.1)=kvs2.map (·.1)) (hv:∀ (i:Nat) p q,kvs1[i]?=some p->kvs2[i]?=some q->∀ A,SeqAt.EqAt A s p.2 q.2 true) (hu:A.units < cLine):SeqAt.RcAt A s (.ref a) (.ref b) true:=λprog w E Q h=>by
 refine wpAny_richCompare_same_room (op:=.Eq) ha.typeIs hb.typeIs F.slot_dict_eq ?_ hu
 refine wpAny_call_entry F.slot_dict_eq ha.typeIs F.entry_dict_eq ?_ (F.args_dict_eq_2 _ _)
 unfold Builtin.«dict.__eq__»
 show wpAny _ _ (Builtin.Dict.dictSlotArgs "__eq__" ⟨[.ref a,.ref b],[]⟩ >>= _) _ _ _
 refine wpAny_bind ?_
 unfold Builtin.Dict.dictSlotArgs
 refine wpAny_bind (wpAny_notOrdered_dict ha.typeIs ?_)
 show wpAny _ _ (pure (Value.ref a,Value.ref b)) _ _ _
 refine wpAny_pure ?_
 dsimp only
 refine wpAny_bind (wpAny_isInstance hb.typeIs isSubtype_dict_dict ?_)
 simp only [Bool.not_true,Bool.false_eq_true,if_false]
 refine wpAny_bind (wpAny_pure (wpAny_bind (wpAny_pure (wpAny_bind ?_))))
 exact Xk ha hb na nb hk (λi p q h1 h2 A Q hq=>hv i p q h1 h2 A prog w E Q hq) (wpAny_pure ⟨_,rfl,(λz=>nomatch z),h⟩)
def Qm {a b:Addr} {kvs1 kvs2:List (Str × Value)} (ha:StrD s.heap a kvs1) (hb:StrD s.heap b kvs2) (na:(a == sysModules)=false) (nb:(b == sysModules)=false)
  (hk:kvs1.map (·.1)=kvs2.map (·.1)) (hv:∀ (i:Nat) p q,kvs1[i]?=some p->kvs2[i]?=some q->∀ A,SeqAt.EqAt A s p.2 q.2 true) (hu:A.units < cLine):SeqAt.EqAt A s (.ref a) (.ref b) true:=by
 by_cases e:a=b
 ·subst e
  exact SeqAt.EqAt.same _
 ·intro prog w E Q h
  unfold eqBool
  refine wpAny_holding ?_
  refine wpAny_ite_split (λhab=>absurd (Value.ref.inj (eq_of_beq hab)) e) (λ_=>?_)
  exact wpAny_bind (Yi ha hb na nb hk hv hu prog w E _ (wpAny_truthy_bool h))
end
end L2
namespace DL
open PySem PySem.Spec L2 L3
open PyProof.Rows hiding St
variable {Γ:Hp->Prop}
def Ym {prog:Program} {w:World} {K:Type} [DecidableEq K] {knd:KeyKind prog w K}:∀ {es:List DictEntry} {kvs:List (K × Value)},Pairs knd es kvs->∀ {i:Nat} {e:DictEntry},es[i]?=some e->∃ kv,kvs[i]?=some kv /\ knd.is kv.1 e.key=true /\ e.val=kv.2
 | _,_,.nil,_,_,h=>by simp at h
 | _,_,.cons h1 h2 r,0,e,h=>by
  simp at h
  subst h
  exact ⟨_,rfl,h1,h2⟩
 | _,_,.cons h1 h2 r,i + 1,e,h=>by
  obtain ⟨kv,a,b⟩:=Ym r (i:=i) (by simpa using h)
  exact ⟨kv,by simpa using a,b⟩
def U3 {prog:Program} {w:World} {K:Type} [DecidableEq K] {knd:KeyKind prog w K} {es:List DictEntry} {kvs:List (K × Value)} (h:Pairs knd es kvs):es.length=kvs.length:=by
 induction h with
 | nil=>rfl
 | cons _ _ _ ih=>simp [ih]
def Gf:∀ {kvs:List (Key × V)} {vs:List (Key × Value)},KV kvs vs->∀ {i:Nat} {p:Key × Value},vs[i]?=some p->∃ q,kvs[i]?=some q /\ q.1=p.1 /\ RelV q.2 p.2:=by
 intro kvs vs h
 induction h with
 | nil=>intro i p h; simp at h
 | cons h1 _ ih =>
  intro i p h
  cases i with
  | zero =>
   simp at h
   subst h
   exact ⟨_,rfl,h1⟩
  | succ i =>
   obtain ⟨q,e,r⟩:=ih (i:=i) (by simpa using h)
   exact ⟨q,by simpa using e,r⟩
def M9 (d:D):Prop:=∃ (ks:List Str) (ns:List Int),d=.dk (ks.map Sum.inr) (ns.map D.int)
section
variable {X:Cx} {pn:List (Addr × Obj)} {σ:St} {H:Hp} {s:Shared}
def Vd (I:Inv X pn σ H s) {a:Addr} {ks:List Str} {ns:List Int} (ha:H a=some (.dK ((ks.map Sum.inr).zip (ns.map V.int)))) (l:ks.length=ns.length) (nd:ks.Nodup) :
  (a == sysModules)=false /\ ∃ vs:List (Str × Value),StrD s.heap a vs /\ vs.map (·.1)=ks /\ ∀ (i:Nat) p,vs[i]?=some p->∃ n t,ns[i]?=some n /\ p.2=.int n t:=by
 obtain ⟨_,na,va,ka,o,es,ep,g,x,d,k,p,n⟩:=g9 I.hok ha
 have l1:va.length=ks.length:=by
  have:=ka.length
  rw [List.length_zip,zLm,zLm] at this
  omega
 have l2:=U3 p
 have fact:∀ (i:Nat) (q:Key × Value),va[i]?=some q->∃ x n t,ks[i]?=some x /\ ns[i]?=some n /\ q=(Sum.inr x,.int n t):=by
  intro i q hq
  obtain ⟨q',f1,f2,f3⟩:=Gf ka hq
  rw [List.getElem?_zip_eq_some] at f1
  obtain ⟨f4,f5⟩:=f1
  rw [List.getElem?_map] at f4 f5
  cases ex:ks[i]? with
  | none=>rw [ex] at f4; cases f4
  | some x =>
   cases en:ns[i]? with
   | none=>rw [en] at f5; cases f5
   | some m =>
    rw [ex] at f4
    rw [en] at f5
    have g1:Sum.inr x=q'.1:=by simpa using f4
    have g2:V.int m=q'.2:=by simpa using f5
    rw [<- g2] at f3
    obtain ⟨t,f3⟩:=f3
    refine ⟨x,m,t,rfl,rfl,?_⟩
    rw [<- f3,g1,f2]
 refine ⟨na,ks.zip (va.map (·.2)),⟨o,es,ep,g,x.1,d,?_,?_,?_⟩,?_,?_⟩
 ·rw [List.length_zip,zLm,l1,Nat.min_self]
  have a1:es.toList.length=es.size:=by simp
  omega
 ·intro i e he
  obtain ⟨kv,h1,h2,h3⟩:=Ym p (i:=i) (e:=e) (by simpa using he)
  obtain ⟨x',m,t,f1,f2,rfl⟩:=fact i kv h1
  have hs:=y9 (k:=Sum.inr x') (v:=e.key) h2
  rcases hs with ⟨_,_,z,_⟩ | ⟨y,t',z,z2⟩
  ·cases z
  ·cases z
   refine ⟨x',.int m t,t',?_,z2,h3⟩
   rw [List.getElem?_zip_eq_some]
   refine ⟨f1,?_⟩
   rw [List.getElem?_map,h1]
   rfl
 ·rw [List.map_fst_zip (by rw [zLm]; omega)]
  exact nd
 ·exact List.map_fst_zip (by rw [zLm]; omega)
 ·intro i q hq
  rw [List.getElem?_zip_eq_some] at hq
  obtain ⟨h1,h2⟩:=hq
  rw [List.getElem?_map] at h2
  cases ev:va[i]? with
  | none=>rw [ev] at h2; cases h2
  | some kv =>
   rw [ev] at h2
   obtain ⟨x',m,t,f1,f2,rfl⟩:=fact i kv ev
   refine ⟨m,t,f2,?_⟩
   have:Value.int m t=q.2:=by simpa using h2
   exact this.symm
def Ts (I:Inv X pn σ H s) {ks:List Str} {ns:List Int} {x y:V} {u v:Value} (h1:Rep X.K H [] (.dk (ks.map Sum.inr) (ns.map D.int)) x) (h2:Rep X.K H [] (.dk (ks.map Sum.inr) (ns.map D.int)) y) (r1:RelV x u) (r2:RelV y v) :
  ∃ a b vs1 vs2,u=.ref a /\ v=.ref b /\ StrD s.heap a vs1 /\ StrD s.heap b vs2 /\ (a == sysModules)=false /\ (b == sysModules)=false /\ vs1.map (·.1)=vs2.map (·.1) /\ ∀ (i:Nat) p q,vs1[i]?=some p->vs2[i]?=some q->∀ A,SeqAt.EqAt A s p.2 q.2 true:=by
 obtain ⟨a,xs,rfl,ha,_,l1,n1,t1⟩:=h1
 obtain ⟨b,ys,rfl,hb,_,l2,n2,t2⟩:=h2
 have e1:=wo t1
 have e2:=wo t2
 subst e1
 subst e2
 have nd:ks.Nodup:=by
  have:=List.pairwise_map.mp n1
  exact this.imp λh e=>h (congrArg Sum.inr e)
 have l:ks.length=ns.length:=by simpa using l1
 obtain ⟨na,vs1,s1,m1,f1⟩:=Vd I ha l nd
 obtain ⟨nb,vs2,s2,m2,f2⟩:=Vd I hb l nd
 refine ⟨a,b,vs1,vs2,r1,r2,s1,s2,na,nb,m1.trans m2.symm,λi p q hp hq A=>?_⟩
 obtain ⟨n,t,g1,g2⟩:=f1 i p hp
 obtain ⟨m,t',g3,g4⟩:=f2 i q hq
 rw [g1] at g3
 cases g3
 rw [g2,g4]
 have:=SeqAt.EqAt.int_int (A:=A) (s:=s) n t n t'
 simpa using this
def okS (d:D):Prop:=okD 39 d \/ M9 d
def Qn (I:Inv X pn σ H s) {d:D} {x y:V} {u v:Value} {A:Around} (ok:okS d) (h1:Rep X.K H [] d x) (h2:Rep X.K H [] d y) (r1:RelV x u) (r2:RelV y v) (hu:A.units + 40 < cLine):SeqAt.EqAt A s u v true:=by
 rcases ok with ok | ⟨ks,ns,rfl⟩
 ·have:=(qc I 39 d d x y u v A ok ok h1 h2 r1 r2 (by omega)).2.2
  rw [Yx 39 d ok] at this
  exact this
 ·obtain ⟨a,b,vs1,vs2,rfl,rfl,s1,s2,na,nb,m,f⟩:=Ts I h1 h2 r1 r2
  exact Qm s1 s2 na nb m f (by omega)
end
section
variable {X:Cx} {a b:Expr} {ta tb:TD} {pos:Pos}
def rEqS (K:W.Frag) (neg:Bool):R2:=λx y H Q=>∃ d,Rep K H [] d x /\ Rep K H [] d y /\ ((∃ ds,d=.lst ds /\ ∀ e ∈ ds,okS e) \/ M9 d) /\ Q (.bl (!neg)) H
def in1_units {A:Around} (h:A.units + 64 < cLine):A.in1.units + 40 < cLine:=by
 show A.units + 1 + 40 < cLine
 omega
def Pf:∀ {xs:List V} {us:List Value},Vals xs us->∀ {i:Nat} {u:Value},us[i]?=some u->∃ x,xs[i]?=some x /\ RelV x u:=by
 intro xs us h
 induction h with
 | nil=>intro i u h; simp at h
 | cons h1 _ ih =>
  intro i u h
  cases i with
  | zero=>simp at h; subst h; exact ⟨_,rfl,h1⟩
  | succ i =>
   obtain ⟨x,e,r⟩:=ih (i:=i) (by simpa using h)
   exact ⟨x,by simpa using e,r⟩
def Te {pn:List (Addr × Obj)} {σ:St} {H:Hp} {s:Shared} (I:Inv X pn σ H s) {ds:List D} {x y:V} {u v:Value} {A:Around} (ok:∀ e ∈ ds,okS e) (h1:Rep X.K H [] (.lst ds) x) (h2:Rep X.K H [] (.lst ds) y) (r1:RelV x u) (r2:RelV y v) (hu:A.units + 64 < cLine) :
  SeqAt.RcAt A s u v true /\ SeqAt.RcNeAt A s u v false:=by
 obtain ⟨p,xs,rfl,hx,_,t1⟩:=h1
 obtain ⟨q,ys,rfl,hy,_,t2⟩:=h2
 cases (show u=Value.ref p from r1)
 cases (show v=Value.ref q from r2)
 obtain ⟨its,v1,i1,_⟩:=I.list (SqL.of hx)
 obtain ⟨its2,v2,i2,_⟩:=I.list (SqL.of hy)
 have l1:=t1.length
 have l2:=t2.length
 have m1:=v1.length
 have m2:=v2.length
 have hsz:its.toArray.size=its2.toArray.size:=by rw [List.size_toArray,List.size_toArray]; omega
 have items:∀ j (g1:j < its.toArray.size) (g2:j < its2.toArray.size),SeqAt.EqAt A.in1 s its.toArray[j] its2.toArray[j] ((λ_=>true) j):=by
  intro j g1 g2
  have g1':j < its.length:=by simpa using g1
  have g2':j < its2.length:=by simpa using g2
  obtain ⟨x',ex,rx⟩:=Pf v1 (i:=j) (u:=its[j]) (by simp [g1'])
  obtain ⟨y',ey,ry⟩:=Pf v2 (i:=j) (u:=its2[j]) (by simp [g2'])
  obtain ⟨d,ed,rd⟩:=t1.at ex
  obtain ⟨d',ed',rd'⟩:=t2.at ey
  rw [ed] at ed'
  cases ed'
  have:=Qn (A:=A.in1) I (ok d (List.mem_of_getElem? ed)) rd rd' rx ry (in1_units hu)
  simpa using this
 have e:(List.range its.toArray.size).all (λ_=>true)=true:=by simp
 have a1:=SeqAt.RcAt.lists i1.isList i2.isList hsz (by omega:A.units < cLine) items
 have a2:=SeqAt.RcNeAt.lists i1.isList i2.isList hsz (by omega:A.units < cLine) items
 rw [e] at a1 a2
 exact ⟨a1,a2⟩
end
end DL
namespace L2
open PySem PySem.Spec PyProof.Rows
section
variable {X:Cx} {tg:Expr}
def Wn:w5 X (.type "dict") (λxs H Q=>∃ a kvs,xs=[.ref a] /\ H a=some (.dK kvs) /\ ∀ p,H p=none->Q (.ref p) (upd H p (.dK kvs))):=by
 intro pn s σ H xs us Q I r h
 obtain ⟨a,kvs,rfl,ha,q⟩:=h
 obtain ⟨u,rfl,ru⟩:=ux r
 cases ru
 obtain ⟨z,na,va,ka,da⟩:=g9 I.hok ha
 have hb:=I.big
 refine kt_call_dict na da (by rw [<- ka.length]; exact z) λh' hd hs=>?_
 have keep:∀ b o,s.heap.get? b=some o->h'.get? b=some o:=λb o e=>by
  have hne:b ≠ s.heap.objs.size:=Nat.ne_of_lt (Heap.lt_size e)
  rw [hs.2 b hne]
  exact Heap.get?_push_of_some _ e
 refine ⟨.ref s.heap.objs.size,_,I.laid (t':=s.toks) (a:=s.heap.objs.size) (o:=.dK kvs) keep (Nat.le_refl _) ?_,rfl,q _ (I.hok.fresh (Nat.le_refl _))⟩
 exact b3 z (by simpa using (Nat.ne_of_gt hb)) ka hd
def Itd (lo:Int) (n:Nat):It:=⟨λi _=>i < n,λi H x H'=>H'=H /\ x=.int (lo + i * (-1)),λi _=>n <= i⟩
def V0 {P:Program} {w:World} {K:W.Frag} {tg:Expr} (it:Addr) (lo:Int) (n:Nat):Turn P w K tg (Itd lo n) [it] it (λi h=>IsRangeIter h it (lo + (i:Nat) * (-1)) ((n:Int) - (i:Nat)) (-1)) where
 mem:=by simp
 obj:=λi h st b hb=>by
  have e:b=it:=by simpa using hb
  subst e
  exact ⟨_,st,λv z=>by
   have z':Data.fields _=Data.cell v:=z
   cases z'⟩
 keep:=λi h h' st k=>k it (by simp) _ st
 item:=by
  intro X hP hw hK hc i pn s σ H E I hf st hg
  subst hP hw hK
  obtain ⟨f0,f1,f2,f3,f4,f5⟩:=hf it (by simp)
  have W:=Walks.range (prog:=X.prog) (w:=X.w) (I.ok.hd hc) it lo (-1) n
  refine W.item i s _ _ hg st λv h' tk hv st' kk=>?_
  obtain ⟨t,rfl⟩:=hv
  have I1:Inv X pn σ H { s with heap:=h',toks:=tk }:=I.turned (λb o hb e=>kk b o (by simpa using hb) e) f0 f1 f3 f4 f5
  exact ⟨_,rfl,T3 (s:={ s with heap:=h',toks:=tk }) (n:="range_iterator") st' rfl rfl (by decide) ⟨.int (lo + i * (-1)),H,I1,⟨t,rfl⟩,⟨rfl,rfl⟩,st',λb hb=>(hf b hb).1⟩⟩
 done:=by
  intro X hP hw hK hc i pn s σ H E I hf st hg
  subst hP hw hK
  obtain ⟨f0,f1,f2,f3,f4,f5⟩:=hf it (by simp)
  exact wpAny_pyNext_range_end (I.ok.hd hc) st (by have:n <= i:=hg; omega) λh' eb=>⟨rfl,I.turned (t':=s.toks) (λb o hb e=>eb b o hb e) f0 f1 f3 f4 f5⟩
 self:=λ_ _ _ _ _ st h=>wpAny_pyIter_rangeiter st h
def fb (a b:Int):Builtin.Range.rangeSize a b (-1)=if b < a then a - b else 0:=by
 unfold Builtin.Range.rangeSize
 simp
def Xj {a b:Int} (ha:-(2 ^ 62) <= a) (ha':a < 2 ^ 62) (hb:-(2 ^ 62) <= b) (hb':b < 2 ^ 62):Builtin.Range.small a b (-1)=true:=by
 unfold Builtin.Range.small
 rw [fb]
 simp only [Builtin.Range.rangeFitsLong,Bool.and_eq_true,Bool.or_eq_true,decide_eq_true_eq,beq_iff_eq,show ¬ (-1:Int) > 0 by decide,if_false]
 split <;> omega
def Xq {pn:List (Addr × Obj)} {σ:St} {H:Hp} {s:Shared} {R:It->Hp->Prop} {E:Value->Shared->Prop} {lo hi:Int} {t u v:Tok} {tk:Nat} (I:Inv X pn σ H s) (h1:-(2 ^ 62) <= lo) (h2:lo < 2 ^ 62) (h3:-(2 ^ 62) <= hi) (h4:hi < 2 ^ 62)
  (q:R (Itd lo (lo - hi).toNat) H):wpAny (model X.prog X.w) X.A (pyIter (.ref s.heap.objs.size)) (PIE X pn σ tg R) E { s with heap:=s.heap.push { cls:=.type "range", data:=.fields #[.int lo t,.int hi u,.int (-1) v] },toks:=tk }:=by
 refine wpAny_pyIter_range (IsRange.new ..) (Xj h1 h2 h3 h4) ?_
 have I1:Inv X pn σ H { s with heap:=s.heap.push { cls:=.type "range", data:=.fields #[.int lo t,.int hi u,.int (-1) v] },toks:=tk }:=I.kept λb o e=>Heap.get?_push_of_some _ e
 refine ⟨(s.heap.push { cls:=.type "range", data:=.fields #[.int lo t,.int hi u,.int (-1) v] }).objs.size,[(s.heap.push { cls:=.type "range", data:=.fields #[.int lo t,.int hi u,.int (-1) v] }).objs.size],_,_,H,rfl,
  I1.kept (t':=tk) λb o e=>Heap.get?_push_of_some _ e,V0 _ lo (lo - hi).toNat,?_,λb hb=>?_,q⟩
 ·have e1:lo + ((0:Nat):Int) * (-1)=lo:=by simp
  have e2:(((lo - hi).toNat:Nat):Int) - ((0:Nat):Int)=Builtin.Range.rangeSize lo hi (-1):=by rw [fb]; split <;> omega
  show IsRangeIter _ _ (lo + ((0:Nat):Int) * (-1)) ((((lo - hi).toNat:Nat):Int) - ((0:Nat):Int)) (-1)
  rw [e1,e2]
  exact Heap.get?_push_size _ rfl
 ·have e:b=(s.heap.push { cls:=.type "range", data:=.fields #[.int lo t,.int hi u,.int (-1) v] }).objs.size:=by simpa using hb
  subst e
  exact I1.fpOk (Nat.le_refl _) (I1.hok.fresh (Nat.le_refl _))
def Gh (ta:TA):TI:=λσ H R=>ta σ H λvs H1=>∃ i j:Int,vs=[.int i,.int j,.int (-1)] /\ (-(2 ^ 62) <= i /\ i < 2 ^ 62 /\ -(2 ^ 62) <= j /\ j < 2 ^ 62) /\ R (Itd i (i - j).toNat) H1
def Vy {a b c:Expr} {ta:TA} {p pos:Pos} (hg:Gl X "range") (hm:X.mg "range" = none) (ha:PA X [a,b,c] ta) (hs:starEach [a,b,c] X.env=(false,eval a X.env) :: starEach [b,c] X.env:=by rfl) (hpl:(backTo pos (starEach [b,c] X.env)).any (·.1)=false:=by rfl) :
  PI X tg (.Call (.Name "range" p) [a,b,c] [] pos) (Gh ta):=by
 intro pn s σ H R I h
 refine Call_ (uu I hg hm boot_range (PyProof.Rows.callWith_type1 (thn (ha pos pn s σ H _ I h) λus s1 ⟨vs,H1,I1,r1,q1⟩=>?_) hs hpl))
 obtain ⟨i,j,e,⟨q1,q2,q3,q4⟩,q⟩:=q1
 subst e
 cases r1 with
 | cons r rr =>
  cases rr with
  | cons r' rr =>
   cases rr with
   | cons r'' rr =>
    cases rr
    obtain ⟨t,rfl⟩:=r
    obtain ⟨t',rfl⟩:=r'
    obtain ⟨t'',rfl⟩:=r''
    exact call_range_3 (by decide) (Xq I1 q1 q2 q3 q4 q)
def G3:V->V->Hp->VK->Prop:=λo i H Q=>∃ p xs k v,o=.ref p /\ i=.int k /\ H p=some (.lst xs) /\ atI xs k=some v /\ Q v H
def T5:PGet X G3:=by
 intro pn s σ H o i ov iv Q I ro ri h
 obtain ⟨p,xs,k,z,rfl,rfl,hq,he,q⟩:=h
 cases ro
 obtain ⟨t,rfl⟩:=ri
 obtain ⟨its,r,pl,hz⟩:=I.list (SqL.of (K:=X.K) hq)
 obtain ⟨j,h1,h2,h3,h4,h5⟩:=gj he
 obtain ⟨w,ew,rw'⟩:=r.get h2
 have hl:=r.length
 have hn:=ut
 have fin:EP X pn σ Q w s:=⟨z,H,I,rw',q⟩
 by_cases h0:0 <= k
 ·have hj:k.toNat=j:=by
   rw [seqIndex_of h0 h5] at h1
   exact Option.some.inj h1
  exact wpAny_getItem_list pl.isList h0 (by omega) (by rw [hj]; simpa using ew) fin
 ·have hj:(k + (its.toArray.size:Int)).toNat=j:=by
   rw [seqIndex_neg (by omega) h4] at h1
   rw [List.size_toArray,<- hl]
   exact Option.some.inj h1
  exact wpAny_getItem_list_neg pl.isList (by omega) (by rw [List.size_toArray] <;> omega) (by omega) (by rw [hj]; simpa using ew) fin
end
end L2
namespace DL
open PySem PySem.Spec L2 L3
open PyProof.Rows hiding St
variable {Γ:Hp->Prop}
section
variable {X:Cx} {a b e:Expr} {es:List Expr} {t:TDs} {ta tb te:TD} {p pos:Pos} {tg:Expr}
def okL (d:D):Prop:=(∃ ds,d=.lst ds /\ ∀ e ∈ ds,okS e) \/ M9 d
def sEqS (neg:Bool):D->D->(EV->Prop)->Prop:=λx y φ=>x=y /\ okL x /\ φ (dv (.bl (!neg)))
def Kt (hu:X.A.units + 64 < cLine):OpR X (compareOp .Eq) (rEqS X.K false):=by
 intro pn s σ H x y v u Q I rx ry h
 obtain ⟨d,h1,h2,ok,q⟩:=h
 rcases ok with ⟨ds,rfl,ok⟩ | ⟨ks,ns,rfl⟩
 ·exact (Te I ok h1 h2 rx ry hu).1 X.prog X.w X.xe _ ⟨.bl _,H,I,rfl,q⟩
 ·obtain ⟨p,r,vs1,vs2,rfl,rfl,s1,s2,na,nb,m,f⟩:=Ts I h1 h2 rx ry
  exact Yi s1 s2 na nb m f (by omega) X.prog X.w X.xe _ ⟨.bl _,H,I,rfl,q⟩
def Q3 {K:W.Frag} {neg:Bool}:uk K (rEqS K neg) (sEqS neg):=by
 intro H O x y vx vy φ Q ho hx hy h k
 obtain ⟨rfl,ok,h⟩:=h
 exact ⟨x,hx.rep0,hy.rep0,ok,k _ _ H (Same.refl H) (by exact rfl) h⟩
def Hb (hu:X.A.units + 64 < cLine) (ha:ED Γ X a ta) (hb:ED Γ X b tb):ED Γ X (.Compare a [.Eq] [b] pos) (d2 (sEqS false) ta tb):=X0 (Kt hu) Q3 ha hb (ra _)
def sDictC:FT:=λds φ=>match ds with
 | [.dk ks l]=>φ (df (.dk ks l))
 | _=>False
def Qs (hm:X.mg "dict" = none) (ha:EA Γ X (e :: es) t) (hg:Gl X "dict":=by rfl) (he:starEach (e :: es) X.env=(false,eval e X.env) :: starEach es X.env:=by rfl) (hpl:(backTo pos (starEach es X.env)).any (·.1)=false:=by rfl):ED Γ X (.Call (.Name "dict" p) (e :: es) [] pos) (dCB sDictC t) :=
 u9 Wn (λH O ds vs φ Q ho hv h k=>by
  unfold sDictC at h
  split at h
  ·obtain ⟨v,ws,rfl,⟨a,xs,rfl,q,l,nd,r⟩,rfl⟩:=hv
   exact ⟨a,_,rfl,q,λp hp=>k _ (df (.dk _ _)) _ (zo hp _) ⟨p,rfl,hp,ho p hp,xs,zg,l,nd,Reps.grow (jx hp) _ _ r⟩ h⟩
  ·exact h.elim) hm j8 ha hg (by decide) (by decide) he hpl
def sLenD:FT:=λds φ=>match ds with
 | [.dk ks l]=>φ (dv (.int ks.length))
 | _=>False
def Mo (hm:X.mg "len" = none) (ha:EA Γ X (e :: es) t) (hg:Gl X "len":=by rfl) (he:starEach (e :: es) X.env=(false,eval e X.env) :: starEach es X.env:=by rfl) (hpl:(backTo pos (starEach es X.env)).any (·.1)=false:=by rfl):ED Γ X (.Call (.Name "len" p) (e :: es) [] pos) (dCB sLenD t) :=
 wa b9 (λH O ds vs φ Q ho hv h k=>by
  unfold sLenD at h
  split at h
  ·obtain ⟨v,ws,rfl,⟨a,xs,rfl,q,l,nd,r⟩,rfl⟩:=hv
   refine ⟨a,_,rfl,q,?_⟩
   rw [List.length_zip,r.length,<- l,Nat.min_self]
   exact k _ _ H (Same.refl H) (by exact rfl) h
  ·exact h.elim) hm PySem.boot_len ha hg (by decide) (by decide) he hpl
def jg (lo:Int) (n:Nat):List D:=(List.range n).map λ(i:Nat)=>D.int (lo + (i:Int) * (-1))
def M5 {K:W.Frag} {lo:Int} {n:Nat}:ItD K (Itd lo n) (jg lo n) (λ_ _=>True) where
 go:=λH O i d _ e=>by
  unfold jg at e
  rw [List.getElem?_map] at e
  cases en:(List.range n)[i]? with
  | none=>rw [en] at e; cases e
  | some m =>
   rw [en] at e
   cases e
   have hl:=(List.getElem?_eq_some_iff.mp en).1
   rw [List.length_range] at hl
   have:m=i:=by
    rw [List.getElem?_range hl] at en
    exact (Option.some.inj en).symm
   subst this
   refine ⟨hl,λx H' y=>?_⟩
   obtain ⟨e1,ex⟩:=y
   subst e1 ex
   exact ⟨Same.refl _,rfl⟩
 stop:=λH O _=>by show n <= _; unfold jg; simp
 keep:=λ_ _ _ _ _ _=>trivial
def Qy {lo:Int} {n i:Nat} {d:D} (h:(jg lo n)[i]?=some d):i < n /\ d=.int (lo - (i:Int)):=by
 unfold jg at h
 rw [List.getElem?_map] at h
 cases en:(List.range n)[i]? with
 | none=>rw [en] at h; cases h
 | some m =>
  rw [en] at h
  cases h
  have hl:=(List.getElem?_eq_some_iff.mp en).1
  rw [List.length_range] at hl
  have:m=i:=by
   rw [List.getElem?_range hl] at en
   exact (Option.some.inj en).symm
  subst this
  refine ⟨hl,?_⟩
  show D.int (lo + (m:Int) * (-1))=D.int (lo - (m:Int))
  rw [show lo + (m:Int) * (-1)=lo - (m:Int) by omega]
def Qx (lo:Int) (n:Nat):(jg lo n).length=n:=by unfold jg; simp
def iRD (t:TDs):TID:=λρ φ=>t ρ λrs=>match rs with
 | [⟨_,.int i⟩,⟨_,.int j⟩,⟨_,.int k⟩]=>k = -1 /\ (-(2 ^ 62) <= i /\ i < 2 ^ 62 /\ -(2 ^ 62) <= j /\ j < 2 ^ 62) /\ φ (jg i (i - j).toNat)
 | _=>False
def Tf {c:Expr} (hm:X.mg "range" = none) (ha:EA Γ X [a,b,c] t) (hg:Gl X "range":=by rfl) (hs:starEach [a,b,c] X.env=(false,eval a X.env) :: starEach [b,c] X.env:=by rfl) (hpl:(backTo pos (starEach [b,c] X.env)).any (·.1)=false:=by rfl):EI Γ X tg (.Call (.Name "range" p) [a,b,c] [] pos) (iRD t):=λH₀=>impI (Vy hg hm (ha H₀) hs hpl) λσ H R q=>by
 obtain ⟨ρ,o,RE,φ,hφ,k⟩:=q
 refine ⟨ρ,o,RE,_,hφ,λvs rs H1 s1 rvs h1=>?_⟩
 split at h1
 ·rename_i kd i kd2 j kd3 m
  obtain ⟨v,ws,rfl,rv,v2,ws2,rfl,rv2,v3,ws3,rfl,rv3,rfl⟩:=rvs
  cases (show v=_ from rv.view)
  cases (show v2=_ from rv2.view)
  cases (show v3=_ from rv3.view)
  obtain ⟨rfl,h2,h3⟩:=h1
  exact ⟨i,j,rfl,h2,k _ _ _ H1 s1 M5 trivial h3⟩
 ·exact h1.elim
def sClr (i:Nat):TDS:=λρ Z=>match slot ρ i with
 | some ⟨.own,.lst ds⟩=>Z.nx (setS ρ i (dO (.lst [])))
 | _=>False
def Ow (i:Nat) (tk te:TD):TDS:=λρ Z=>match slot ρ i with
 | some ⟨.own,.lst ds⟩=>tk ρ λkr=>match kr.d with
  | .int k=>(match ixN ds.length k with
   | some j=>(match ds[j]? with
    | some (.int x)=>te ρ λr=>(match r.d with
     | .int y=>Z.nx (setS ρ i (dO (.lst (ds.set j (.int (x + y))))))
     | _=>False)
    | _=>False)
   | none=>False)
  | _=>False
 | _=>False
def Vi (i:Nat) {x:Str} {ke:Expr} {tk:TD} {np tpos:Pos} (hk:ED Γ X ke tk) (he:ED Γ X e te) (hN:X.N[i]?=some x:=by rfl) (hv:Vis X.env.scope x:=by first | exact Or.inl rfl | exact Or.inr (Or.inl rfl) | exact Or.inr (Or.inr rfl)) (hd:(x == ("__debug__" : Str))=false:=by decide)
  (hcd:(x == ("__classdict__" : Str))=false:=by decide)
  (ha:∀ ov iv new,augStore ke ov iv new=(do holding [new,ov,iv] (setItem ov iv new); release [new,ov,iv] []; pure .next):=by intros; rfl):SD Γ X (.AugAssign (.Subscript (.Name x np) ke tpos) .Add e pos) (Ow i tk te):=λH₀ =>
 impS (N3 (wf hN hv hd hcd) (hk H₀) T5 (he H₀) Jl Su ha) λD σ H h=>by
  obtain ⟨ρ,o,R,Z,hZ,k1,k2,k3,k4⟩:=h
  unfold Ow at hZ
  split at hZ
  ·rename_i ds es
   obtain ⟨v0,ev0,q0⟩:=R.slots i _ (yc es)
   rcases q0 with ⟨k,_⟩ | ⟨_,a,rfl,m,c⟩
   ·cases k
   obtain ⟨xs,hx,rx⟩:=c
   refine ⟨.ref a,ev0,ρ,o,R,_,hZ,λv1 r1 H1 s1 rv1 h1=>?_⟩
   have vw:=rv1.view
   split at h1
   ·rename_i k ek
    rw [ek] at vw
    cases (show v1=_ from vw)
    split at h1
    ·rename_i j ej
     split at h1
     ·rename_i n en
      have hx1:=s1 _ _ hx
      have rx1:=Reps.grow (Grow.same s1) _ _ rx
      obtain ⟨z,ez,rz⟩:=rx1.get en
      cases (show z=_ from rz)
      refine ⟨a,xs,k,.int n,rfl,rfl,hx1,?_,ρ,o,R.to s1,_,h1,λv2 r2 H2 s2 rv2 h2=>?_⟩
      ·unfold atI
       rw [rx.length,ej]
       exact ez
      ·have vw2:=rv2.view
       split at h2
       ·rename_i y ey
        rw [ey] at vw2
        cases (show v2=_ from vw2)
        have s12:=s1.trans s2
        have hx2:=s12 _ _ hx
        have rx2:=Reps.grow (Grow.same s12) _ _ rx
        refine ⟨n,y,rfl,rfl,a,xs,k,j,rfl,rfl,hx2,by rw [rx.length]; exact ej,?_⟩
        obtain ⟨R3,g3⟩:=(R.to s12).chg (d':=.lst (ds.set j (.int (n + y)))) (ho:=.lst (xs.set j (.int (n + y)))) (yc es) ev0 m ⟨λ_ z=>(by cases z),λ_ _ z=>(by cases z)⟩ λgr =>
         ⟨xs.set j (.int (n + y)),zg,gr _ _ (rx2.set j (by exact rfl))⟩
        exact k1 _ σ _ o ((Grow.same s12).trans g3) R3 h2
       ·exact h2.elim
     ·exact h1.elim
    ·exact h1.elim
   ·exact h1.elim
  ·exact hZ.elim
end
section
variable {X:Cx} {es:List Expr} {t:TDs} {tpos pos:Pos}
def Yk:List EV->Prop
 | []=>True
 | r :: rs=>xw r.ret /\ Yk rs
def Lq (t:TDs):TDS:=λρ Z=>t ρ λrs=>Yk rs /\ Nat.ble rs.length 1000=true /\ Z.rt ⟨.new,.tup (rs.map EV.d)⟩
def RVs.rets {K:W.Frag} {H₀ H H':Hp} {σ:St} {ρ:DE} {o:List (Nat × Addr)} (R:REnv K H₀ H σ ρ o):∀ {rs:List EV} {vs:List V},RVs K H H' (o.map Prod.snd) rs vs->Yk rs->yg K H' (λa=>a ∉ ([]:List Addr) /\ H₀ a=none) (rs.map EV.d) vs
 | [],_,h,_=>h
 | r :: rs,vs,h,p=>by
  obtain ⟨v,ws,e,q,t⟩:=h
  have q':=(RV.ret R q).anew p.1
  exact ⟨v,ws,e,by
   have:r.ret.d=r.d:=rfl
   rw [this] at q'
   exact q',RVs.rets R t p.2⟩
def Ol {x1} (h:EA Γ X es t):SD Γ X (.Return (some (.Tuple es x1 tpos)) pos) (Lq t):=λH₀=>impS (Ph (U0 (h H₀))) λD σ H h=>by
 obtain ⟨ρ,o,R,Z,hZ,k1,k2,k3,k4⟩:=h
 refine ⟨ρ,o,R,_,hZ,λvs rs H1 s1 rvs h1=>⟨by rw [rvs.length]; exact jo h1.2.1,λp hp=>?_⟩⟩
 refine k4 _ ⟨.new,.tup (rs.map EV.d)⟩ _ (R.same.trans (s1.trans (zo hp _))) ?_ h1.2.2
 exact ⟨p,vs,rfl,⟨SqT.of zg,zg⟩,yg.to (zo hp _) (λ_ z=>z) _ _ (RVs.rets R rvs h1.1)⟩
end
end DL
namespace L2
open PySem PySem.Spec PyProof.Rows
section
variable {prog:Program} {w:World} {A:Around} {R:Result->Shared->Prop} {I:Addr} {fp wr:List Addr} {n:Nat} {P:Nat->Value->Prop} {St:Nat->Heap->Prop} {kw:List (Str × Value)}
structure Gx (bt:Nat->Nat->Bool) (P:Nat->Value->Prop) (St:Nat->Heap->Prop) (S:Addr) (j:Nat) (vb:Value) (s:Shared):Prop where
 st:St (j + 1) s.heap
 pb:P (argBest bt j) vb
 ob:∃ c,s.heap.get? S=some { cls:=.type "list", dict:=none,data:=.seq #[vb,vb] c,slots:=#[] }
def tm:(toString "max" ++ toString ".loop" : String) = "max.loop":=by decide
def Ry (W:Walks prog w A.in1 I fp wr n P St) (bt:Nat->Nat->Bool) (hcmp:CmpOf prog w A.in1 .Gt P bt) (S:Addr) (hSf:S ∉ fp):∀ (k j:Nat) (s:Shared) (vb:Value),n=j + 1 + k->Gx bt P St S j vb s ->
  (∀ v h' tk,P (argBest bt (n - 1)) v->(∀ b o,b ∉ wr->b ≠ S->s.heap.get? b=some o->h'.get? b=some o)->R (.ok (.ret v)) { s with heap:=h',toks:=tk })->codeAny (model prog w) A (.builtin "max.loop" ⟨[.ref I,.none,.ref S],kw⟩) R s:=by
 have hSw:S ∉ wr:=λh=>hSf (W.sub _ h)
 intro k
 induction k with
 | zero =>
  intro j s vb hn M hR
  obtain ⟨hst,hPb,c,hS⟩:=M
  have e:n=j + 1:=hn
  refine codeAny_builtin F.entry_max_loop ?_
  rw [Around.under_plainId F.plain_max_loop _]; show wpAny _ A.in1 (seqItems? (.ref S) >>= _) _ _ s
  refine wpAny_bind (wpAny_seqItems hS rfl ?_); show wpAny _ A.in1 (tryCatch (pyNext (.ref I)) _ >>= _) _ _ s
  refine wpAny_bind (wpAny_tryCatch (W.done s _ _ (by rw [e]; exact hst) λh' tk hk'=>?_))
  have hS':=hk' S _ hSw hS; show wpAny _ A.in1 (updateSeq S (λ_=>#[]) >>= _) _ _ _
  refine wpAny_bind (wpAny_updateSeq hS' rfl (wpAny_bind (wpAny_letGo (wpAny_pure ?_))))
  exact hR vb _ tk (by rw [e]; exact hPb) λb o hbw hbS z=>(Heap.get?_update_other _ _ (Ne.symm hbS)).trans (hk' b o hbw z)
 | succ k ih =>
  intro j s vb hn M hR
  obtain ⟨hst,hPb,c,hS⟩:=M
  refine codeAny_builtin F.entry_max_loop ?_
  rw [Around.under_plainId F.plain_max_loop _]; show wpAny _ A.in1 (seqItems? (.ref S) >>= _) _ _ s
  refine wpAny_bind (wpAny_seqItems hS rfl ?_); show wpAny _ A.in1 (tryCatch (pyNext (.ref I)) _ >>= _) _ _ s
  refine wpAny_bind (wpAny_tryCatch (W.item (j + 1) s _ _ (by omega) hst λv h' tk hP hst' hk'=>?_))
  have hS':=hk' S _ hSw hS; show wpAny _ A.in1 (tryCatch (holding [v,v] (richCompare .Gt v vb >>= _)) _ >>= _) _ _ _
  refine wpAny_bind (wpAny_tryCatch (wpAny_holding (wpAny_bind (hcmp (j + 1) (argBest bt j) v vb _ _ _ hP hPb (wpAny_bind (wpAny_holding (wpAny_truthy_bool (wpAny_bind (wpAny_letGo (wpAny_pure ?_))))))))))
  cases hb:bt (j + 1) (argBest bt j) with
  | true =>
   simp only [if_true]; refine wpAny_bind (wpAny_updateSeq hS' rfl (wpAny_bind (wpAny_letGo ?_))); rw [tm]
   refine wpAny_pure ⟨plainId_quiet F.plain_max_loop _,ih (j + 1) _ v (by omega) ⟨W.frame _ _ _ hst' λb hbf o z=>?_,by simp only [argBest,hb,if_true]; exact hP,_,Heap.get?_update_self _ hS' rfl⟩ λv' h'' tk'' hP' hk''=>?_⟩
   ·exact (Heap.get?_update_other _ _ (λy:S=b=>hSf (by rw [y]; exact hbf))).trans z
   ·exact hR v' h'' tk'' hP' λb o hbw hbS z=>hk'' b o hbw hbS ((Heap.get?_update_other _ _ (Ne.symm hbS)).trans (hk' b o hbw z))
  | false =>
   simp only [Bool.false_eq_true,if_false]; refine wpAny_bind (wpAny_letGo ?_); rw [tm]
   refine wpAny_pure ⟨plainId_quiet F.plain_max_loop _,ih (j + 1) _ vb (by omega) ⟨hst',by simp only [argBest,hb,Bool.false_eq_true,if_false]; exact hPb,c,hS'⟩ λv' h'' tk'' hP' hk''=>?_⟩
   exact hR v' h'' tk'' hP' λb o hbw hbS z=>hk'' b o hbw hbS (hk' b o hbw z)
def Ue {d:Value} {nm:Str} (W:Walks prog w A.in1 I fp wr n P St) (bt:Nat->Nat->Bool) (hcmp:CmpOf prog w A.in1 .Gt P bt) (S:Addr) (hSf:S ∉ fp) {s:Shared} {c:Nat} (hst:St 0 s.heap)
  (hS:s.heap.get? S=some { cls:=.type "list", dict:=none,data:=.seq #[] c,slots:=#[] })
  (hR:∀ v h' tk,(if n=0 then v=d else P (argBest bt (n - 1)) v)->(∀ b o,b ∉ wr->b ≠ S->s.heap.get? b=some o->h'.get? b=some o)->R (.ok (.ret v)) { s with heap:=h',toks:=tk }) :
  codeAny (model prog w) A (.builtin "max.loop" ⟨[.ref I,.none,.ref S],[(nm,d)]⟩) R s:=by
 have hSw:S ∉ wr:=λh=>hSf (W.sub _ h)
 refine codeAny_builtin F.entry_max_loop ?_
 rw [Around.under_plainId F.plain_max_loop _]; show wpAny _ A.in1 (seqItems? (.ref S) >>= _) _ _ s
 refine wpAny_bind (wpAny_seqItems hS rfl ?_); show wpAny _ A.in1 (tryCatch (pyNext (.ref I)) _ >>= _) _ _ s
 by_cases h0:n=0
 ·subst h0
  refine wpAny_bind (wpAny_tryCatch (W.done s _ _ hst λh' tk hk'=>?_))
  show wpAny _ A.in1 (rule _ >>= _) _ _ _
  refine wpAny_bind (wpAny_rule (wpAny_pure ?_))
  exact hR d _ tk (by rw [if_pos rfl]) λb o hbw hbS z=>hk' b o hbw z
 ·refine wpAny_bind (wpAny_tryCatch (W.item 0 s _ _ (Nat.pos_of_ne_zero h0) hst λv h' tk hP hst' hk'=>?_))
  have hS':=hk' S _ hSw hS; show wpAny _ A.in1 (updateSeq S (λ_=>#[v,v]) >>= _) _ _ _
  refine wpAny_bind (wpAny_updateSeq hS' rfl ?_); rw [tm]
  refine wpAny_pure ⟨plainId_quiet F.plain_max_loop _,Ry W bt hcmp S hSf (n - 1) 0 _ v (by omega) ⟨W.frame _ _ _ hst' λb hbf o z=>?_,hP,_,Heap.get?_update_self _ hS' rfl⟩ λv' h'' tk'' hP' hk''=>?_⟩
  ·exact (Heap.get?_update_other _ _ (λy:S=b=>hSf (by rw [y]; exact hbf))).trans z
  ·exact hR v' h'' tk'' (by rw [if_neg h0]; exact hP') λb o hbw hbS z=>hk'' b o hbw hbS ((Heap.get?_update_other _ _ (Ne.symm hbS)).trans (hk' b o hbw z))
end
section
variable {prog:Program} {w:World} {A:Around} {E:Value->Shared->Prop} {s:Shared} {l:Addr} {xs:Array (Int × Tok)}
def J3 (a v:Value):argsOk "max" ⟨[a],[(Str.ofString "default", v)]⟩:=by unfold argsOk; kernel_rfl
def Rz {d:Value} {Q:Value->Shared->Prop} (hh:A.handled=none) (hl:s.heap.IsList l (intItems xs))
  (h:∀ v h' tk,(if xs.size=0 then v=d else (intItems xs)[argBest (λi j=>decide (numAt xs i > numAt xs j)) (xs.size - 1)]?=some v)->(∀ b o,s.heap.get? b=some o->h'.get? b=some o)->Q v { s with heap:=h',toks:=tk }) :
  wpAny (model prog w) A (call (.builtin "max") [.ref l] [(Str.ofString "default", d)]) Q E s:=by
 refine kmb_tree F.kind_max F.plain_max F.entry_max (J3 _ _) ?_
 show wpAny _ A.in1 (Builtin.Builtins.bindParams "max" ["key", "default"] 0 ⟨[],[(Str.ofString "default", d)]⟩ >>= _) _ _ s
 refine wpAny_bind (wpAny_of_eq (show Builtin.Builtins.bindParams "max" ["key", "default"] 0 ⟨[],[(Str.ofString "default", d)]⟩=pure [none,some d] from rfl) ?_)
 refine wpAny_bind (wpAny_pure ?_)
 refine wpAny_bind (iter_intList hl λs₂ e st hfp hlI=>?_)
 subst e
 refine wpAny_bind (wpAny_newObj_type ?_)
 rw [tm]
 have W:=Walks.list (prog:=prog) (w:=w) (A:=A.in1) hh s.heap.objs.size l hlI (intItems xs)
 have hSf:(s.heap.push { cls:=.type "list_iterator", data:=.fields #[.ref l,.int 0 0] }).objs.size ∉ [s.heap.objs.size,l]:=λhm=>Nat.lt_irrefl _ (hfp _ hm)
 refine wpAny_pure ⟨plainId_quiet F.plain_max_loop _,Ue W _ (CmpOf.ints_gt (numAt xs) (λ_ _=>intItems_at)) _ hSf (W.frame _ _ _ st λb _ o z=>Heap.get?_push_of_some _ z) (Heap.get?_push_size _ rfl) λv h' tk hP hk=>?_⟩
 refine h v h' tk (by simpa [intItems] using hP) λb o z=>hk b o ?_ ?_ (Heap.get?_push_of_some _ (Heap.get?_push_of_some _ z))
 ·have hlt:=Heap.lt_size z
  intro hm
  have e:b=s.heap.objs.size:=by simpa using hm
  rw [e] at hlt
  exact Nat.lt_irrefl _ hlt
 ·have hlt:=Heap.lt_size z
  rw [size_push']
  exact Nat.ne_of_lt (Nat.lt_succ_of_lt hlt)
end
section
variable {X:Cx}
def maxI:Int->List Int->Int
 | d,[]=>d
 | _,n :: ns=>ns.foldl max n
def Yw:∀ (ns:List Int) (n:Int),(ns.foldl max n=n \/ ns.foldl max n ∈ ns) /\ n <= ns.foldl max n /\ ∀ m ∈ ns,m <= ns.foldl max n
 | [],n=>⟨.inl rfl,Int.le_refl _,λ_ h=>nomatch h⟩
 | k :: ns,n=>by
  obtain ⟨h1,h2,h3⟩:=Yw ns (max n k)
  rw [List.foldl_cons]
  refine ⟨?_,by omega,λm hm=>?_⟩
  ·rcases h1 with h1 | h1
   ·by_cases hnk:k <= n
    ·left; rw [h1]; omega
    ·right; rw [h1,show max n k=k by omega]; exact List.mem_cons_self ..
   ·exact .inr (List.mem_cons_of_mem _ h1)
  ·rcases List.mem_cons.mp hm with rfl | hm
   ·omega
   ·exact h3 m hm
def Nn {d:Int} {ns:List Int} {m:Int} (h1:m ∈ ns) (h2:∀ k ∈ ns,k <= m):maxI d ns=m:=by
 cases ns with
 | nil=>cases h1
 | cons n ns =>
  obtain ⟨a,b,c⟩:=Yw ns n
  show ns.foldl max n=m
  have e1:ns.foldl max n <= m:=by
   rcases a with a | a
   ·rw [a]; exact h2 n (List.mem_cons_self ..)
   ·exact h2 _ (List.mem_cons_of_mem _ a)
  have e2:m <= ns.foldl max n:=by
   rcases List.mem_cons.mp h1 with rfl | h1
   ·exact b
   ·exact c m h1
  omega
def P5 {xs:List (Int × Tok)} {ns:List Int} (e2:xs.map (·.1)=ns) {v:Value} {d:Int} (hp:xs.toArray.size ≠ 0) (hv:(intItems xs.toArray)[argBest (λi j=>decide (numAt xs.toArray i > numAt xs.toArray j)) (xs.toArray.size - 1)]?=some v):∃ t,v=.int (maxI d ns) t:=by
 obtain ⟨t,rfl⟩:=intItems_at hv
 obtain ⟨h1,h2⟩:=argBest_gt (numAt xs.toArray) (xs.toArray.size - 1)
 refine ⟨t,?_⟩
 have hns:ns=xs.toArray.toList.map (·.1):=by simpa using e2.symm
 rw [Nn (d:=d) (ns:=ns) (m:=numAt xs.toArray (argBest (λi j=>decide (numAt xs.toArray i > numAt xs.toArray j)) (xs.toArray.size - 1)))]
 ·rw [hns,numAt_eq]
  exact getD_mem (by rw [zLm,Array.length_toList]; omega)
 ·intro k hk
  rw [hns] at hk
  obtain ⟨j,hj,rfl⟩:=mem_getD hk
  rw [zLm,Array.length_toList] at hj
  rw [<- numAt_eq]
  exact h2 j (by omega)
def Hu (K:W.Frag) (te td:TE):TE:=λσ H Q=>te σ H λz H1=>∃ x,[z]=[x] /\ td σ H1 λy H2=>∃ (p:Addr) (ns:List Int) (d:Int),x=.ref p /\ y=.int d /\ SqL K H2 p (ns.map V.int) /\ Q (.int (maxI d ns)) H2
def N7 {e de:Expr} {te td:TE} {p kp pos:Pos} (hc:X.calm=true) (hg:Gl X "max") (hm:X.mg "max" = none) (he:PE X e te) (hd:PE X de td)
  (hs:starEach [e] X.env=(false,eval e X.env) :: starEach [] X.env:=by rfl)
  (hb:backTo pos (starEach [e] X.env)=(false,eval e X.env) :: backTo pos (starEach [] X.env):=by rfl) (hpl:(backTo pos (starEach [e] X.env)).any (·.1)=false:=by rfl)
  (hall:(backToKw pos (keywordEach [⟨some (Str.ofString "default"),de,kp⟩] X.env)).all (·.1.isSome)=true:=by rfl) (hkw:(backToKw pos (keywordEach [⟨some (Str.ofString "default"),de,kp⟩] X.env)).any (·.1.isNone)=false:=by rfl)
  (hz:∀ v:Value,((backToKw pos (keywordEach [⟨some (Str.ofString "default"),de,kp⟩] X.env)).filterMap (·.1)).zip [v]=[(Str.ofString "default", v)]:=by intro _; rfl) :
  PE X (.Call (.Name "max" p) [e] [⟨some (Str.ofString "default"),de,kp⟩] pos) (Hu X.K te td):=by
 intro pn s σ H Q I h
 refine wpAny_Call_Name_kw (uu I hg hm (show bootBuiltins "max" = some (.builtin "max") by kernel_rfl) ?_ (by decide) (by decide))
 refine callWith_kw ?_ hb hpl hall hkw
 have hA:=xi he uq hs pos pn s σ H (λvs H1=>∃ x,vs=[x] /\ td σ H1 λy H2=>∃ (p:Addr) (ns:List Int) (d:Int),x=.ref p /\ y=.int d /\ SqL X.K H2 p (ns.map V.int) /\ Q (.int (maxI d ns)) H2) I
  h
 refine thn hA λus s1 hq=>?_
 obtain ⟨vs,H1,I1,rv,x,rfl,q1⟩:=hq
 obtain ⟨u,rfl,ru⟩:=ux rv
 refine kws_cons (thn (hd pn s1 σ H1 _ I1 q1) λv s2 hq2=>kws_nil ?_)
 obtain ⟨y,H2,I2,ry,a,ns,d,rfl,rfl,hq,q⟩:=hq2
 rw [hz]
 cases ru
 obtain ⟨t,rfl⟩:=ry
 obtain ⟨its,rv2,pl,hz2⟩:=I2.list hq
 obtain ⟨xs,e1,e2⟩:=DL.ints_of rv2
 have hl:s2.heap.IsList a (intItems xs.toArray):=by
  have:=pl.isList
  rw [e1] at this
  unfold intItems
  simpa using this
 refine Rz (I2.ok.hd hc) hl λv h' tk hv hk=>?_
 by_cases hp:xs.toArray.size=0
 ·rw [if_pos hp] at hv
  subst hv
  have:xs=[]:=by simpa using hp
  subst this
  have en:ns=[]:=e2.symm
  subst en
  exact ⟨.int d,H2,I2.kept (t':=tk) hk,⟨t,rfl⟩,q⟩
 ·rw [if_neg hp] at hv
  obtain ⟨t',rfl⟩:=P5 (d:=d) e2 hp hv
  exact ⟨.int (maxI d ns),H2,I2.kept (t':=tk) hk,⟨t',rfl⟩,q⟩
end
end L2
namespace DL
open PySem PySem.Spec L2 L3
open PyProof.Rows hiding St
variable {Γ:Hp->Prop}
section
variable {X:Cx} {e de:Expr} {es:List Expr} {t:TDs} {te td:TD} {p kp pos:Pos}
def sMax:FT:=λds φ=>match ds with
 | [.lst l]=>match qq l with
  | some ns=>ns ≠ [] /\ φ (dv (.int (maxI 0 ns)))
  | none=>False
 | _=>False
def Hg (te td:TD):TD:=λρ φ=>te ρ λr=>td ρ λr2=>match r.d,r2.d with
 | .lst l,.int d=>(match qq l with
  | some ns=>φ (dv (.int (maxI d ns)))
  | none=>False)
 | _,_=>False
def Mm (hm:X.mg "max" = none) (he:ED Γ X e te) (hd:ED Γ X de td) (hc:X.calm=true:=by rfl) (hg:Gl X "max":=by rfl) (hs:starEach [e] X.env=(false,eval e X.env) :: starEach [] X.env:=by rfl)
  (hb:backTo pos (starEach [e] X.env)=(false,eval e X.env) :: backTo pos (starEach [] X.env):=by rfl) (hpl:(backTo pos (starEach [e] X.env)).any (·.1)=false:=by rfl)
  (hall:(backToKw pos (keywordEach [⟨some (Str.ofString "default"),de,kp⟩] X.env)).all (·.1.isSome)=true:=by rfl) (hkw:(backToKw pos (keywordEach [⟨some (Str.ofString "default"),de,kp⟩] X.env)).any (·.1.isNone)=false:=by rfl)
  (hz:∀ v:Value,((backToKw pos (keywordEach [⟨some (Str.ofString "default"),de,kp⟩] X.env)).filterMap (·.1)).zip [v]=[(Str.ofString "default", v)]:=by intro _; rfl) :
  ED Γ X (.Call (.Name "max" p) [e] [⟨some (Str.ofString "default"),de,kp⟩] pos) (Hg te td):=λH₀=>impE (N7 hc hg hm (he H₀) (hd H₀) hs hb hpl hall hkw hz) λσ H Q q=>by
 obtain ⟨ρ,o,R,φ,hφ,k⟩:=q
 refine ⟨ρ,o,R,_,hφ,λv r H1 s1 rv h1=>⟨v,rfl,ρ,o,R.to s1,_,h1,λv2 r2 H2 s2 rv2 h2=>?_⟩⟩
 have w1:=(rv.same s2).view
 have w2:=rv2.view
 obtain ⟨k1,d1⟩:=r
 obtain ⟨k2,d2⟩:=r2
 cases d1 with
 | lst l =>
  cases d2 with
  | int d =>
   dsimp only at h2
   split at h2
   ·rename_i ns en
    obtain ⟨a,xs,rfl,q,r⟩:=w1
    cases (show v2=_ from w2)
    have el:=jw en
    subst el
    have:=wo r
    subst this
    exact ⟨a,ns,d,rfl,rfl,SqL.of q,k _ _ H2 (s1.trans s2) (by exact rfl) h2⟩
   ·exact h2.elim
  | _=>exact h2.elim
 | _=>exact h2.elim
end
end DL
namespace L2
open PySem PySem.Spec PyProof.Rows
def wz:entryFor table "dict.update.loop" = some Builtin.«dict.update.loop»:=entryFor_of_tree (by kernel_rfl)
def yx:plainId "dict.update.loop" = true:=by decide +kernel
def qp:typeLookup (.type "list") "keys" = pure none:=by rw [typeLookup_type,builtinLookup_eq_fast]; kernel_rfl
section
variable {prog:Program} {w:World} {A:Around} {E:Value->Shared->Prop} {s:Shared}
def Ut {a:Addr} {xs:Array Value} {Q:Option Value->Shared->Prop} (hl:PlainL s.heap a xs) (hA:A.handled=none)
  (h:∀ h' tk,(∀ b o,s.heap.get? b=some o->h'.get? b=some o)->Q none { s with heap:=h',toks:=tk }):wpAny (model prog w) A (getAttr? (.ref a) "keys") Q E s:=by
 obtain ⟨o,k,hx,hc,hd,hdat⟩:=hl
 obtain ⟨c,dct,dat,sl⟩:=o
 simp only at hc hdat hd
 subst hc hdat hd
 obtain ⟨hp,g,d,tk,os⟩:=s
 have hT:∀ tk',(⟨hp,g,d,tk',os⟩:Shared).TypeIs (.ref a) "list":=λ_=>⟨_,hx,rfl⟩
 have f1:=sub_AttributeError
 have f3:=F.slot_list_getattribute.lookup
 have f4:=F.slot_list_getattribute.bind (.ref a)
 have f5:=am_list_getattr_none
 unfold getAttr? getAttrBy? getAttrBy
 repeat (any_goals (first | assumption | exact hT _ | ((with_reducible show wpAny _ _ (call (Value.builtin "list.__getattribute__") _ _) _ _ _); refine call_meets F.slot_list_getattribute (hT _) am_entry_list_getattribute (F.args_list_getattribute_2 _ _) (meets_getattribute_miss_list a xs k sl "keys" _ qp (by decide +kernel) (by size_fits)) ⟨hx,hA,λh' tk' e hx'=>?_⟩) | wp_step))
 obtain ⟨t',u',he⟩:=hx'.there
 show wpAny _ _ (getattributeRaised _ _ _ _ _ _ _) _ _ _
 unfold getattributeRaised
 repeat (any_goals (first | assumption | wp_step))
 exact h _ _ hx'.keeps
end
section
variable {prog:Program} {w:World} {K:Type} [DecidableEq K] {knd:KeyKind prog w K} {A:Around} {s:Shared} {R:Result->Shared->Prop}
def X8 (knd:KeyKind prog w K) (h:Heap) (v:Value) (kx:K × Value):Prop:=∃ b o n key,v=.ref b /\ h.get? b=some o /\ o.cls=.type "tuple" /\ o.data=.seq #[key,kx.2] n /\ knd.is kx.1 key=true
def Xh {kvs:List (K × Value)} {k:K} {x:Value} (h:k ∉ kvs.map (·.1)):stored kvs k x=kvs ++ [(k,x)]:=by
 unfold stored
 rw [if_neg]
 intro z
 rw [List.any_eq_true] at z
 obtain ⟨p,hp,e⟩:=z
 exact h (List.mem_map.mpr ⟨p,hp,by simpa using e⟩)
def Sm (hh:A.handled=none) (d it l:Addr) (hdi:d ≠ it) (hdl:d ≠ l) (hli:l ≠ it) (its:List Value) (more:List (K × Value)) (hlen:its.length=more.length) (hnd:(more.map (·.1)).Nodup) (hsz:more.length <= sizeLine) :
  ∀ (k i:Nat) (s:Shared),its.length=i + k->s.heap.IsListIter it l i->s.heap.IsList l its.toArray->s.heap.DictOf knd d (more.take i) ->
  (∀ (j:Nat) v kx,its[j]?=some v->more[j]?=some kx->X8 knd s.heap v kx) ->
  (∀ h' tk,h'.DictOf knd d more->(∀ b o,b ≠ d->b ≠ it->s.heap.get? b=some o->h'.get? b=some o)->R (.ok (.ret .none)) { s with heap:=h',toks:=tk }) ->
  codeAny (model prog w) A (.builtin "dict.update.loop" ⟨[.ref d,.ref it,rawInt (i:Int),.none],[]⟩) R s:=by
 intro k
 induction k with
 | zero =>
  intro i s hk hi hl hd hp hR
  refine codeAny_builtin wz ?_
  rw [Around.under_plainId yx _]
  have W:=Walks.list (prog:=prog) (w:=w) (A:=A.in1) hh it l hli its.toArray
  show wpAny _ A.in1 (pyNext (.ref it) >>= _) _ _ s
  refine wpAny_bind (W.done s _ _ ⟨by simpa [hk] using hi,hl⟩ λh' tk hk'=>?_)
  show wpAny _ A.in1 (Builtin.Dict.addKeywords d [] >>= _) _ _ _
  refine wpAny_bind (wpAny_pure (wpAny_pure ?_))
  refine hR h' tk ?_ λb o _ hb e=>hk' b o (by simpa using hb) e
  rw [List.take_of_length_le (by omega)] at hd
  obtain ⟨o,es,ep,ho,r⟩:=hd
  exact ⟨o,es,ep,hk' d o (by simpa using hdi) ho,r⟩
 | succ k ih =>
  intro i s hk hi hl hd hp hR
  refine codeAny_builtin wz ?_
  rw [Around.under_plainId yx _]
  have W:=Walks.list (prog:=prog) (w:=w) (A:=A.in1) hh it l hli its.toArray
  show wpAny _ A.in1 (pyNext (.ref it) >>= _) _ _ s
  refine wpAny_bind (W.item i s _ _ (by simp; omega) ⟨hi,hl⟩ λv h' tk hv hst' hk'=>?_)
  have hv':its[i]?=some v:=by simpa using hv
  have him:i < more.length:=by omega
  obtain ⟨kx,ekx⟩:∃ kx,more[i]?=some kx:=⟨more[i],List.getElem?_eq_getElem him⟩
  have hd':h'.DictOf knd d (more.take i):=by
   obtain ⟨o,es,ep,ho,r⟩:=hd
   exact ⟨o,es,ep,hk' d o (by simpa using hdi) ho,r⟩
  have hp':∀ (j:Nat) v kx,its[j]?=some v->more[j]?=some kx->X8 knd h' v kx:=λj v kx h1 h2=>by
   obtain ⟨b,o,n,key,e1,e2,e3,e4,e5⟩:=hp j v kx h1 h2
   refine ⟨b,o,n,key,e1,hk' b o ?_ e2,e3,e4,e5⟩
   intro z
   have:b=it:=by simpa using z
   subst this
   obtain ⟨o',ho',hc',_⟩:=hi
   rw [ho'] at e2
   cases e2
   rw [hc'] at e3
   exact absurd e3 (by decide)
  obtain ⟨b,o,n,key,rfl,hb,hbc,hbd,hkey⟩:=hp' i v kx hv' ekx
  have hT:({ s with heap:=h',toks:=tk }:Shared).TypeIs (.ref b) "tuple":=⟨o,hb,hbc⟩
  refine wpAny_bind (wpAny_holding ?_)
  refine wpAny_bind (wpAny_tryCatch ?_)
  show wpAny _ A.in1 (typeOf (.ref b) >>= _) _ _ _
  refine wpAny_bind (wpAny_typeOf hT ?_)
  show wpAny _ A.in1 (seqItems? (.ref b) >>= _) _ _ _
  refine wpAny_bind (wpAny_seqItems hb hbd (wpAny_pure ?_))
  show wpAny _ A.in1 (holding [key,kx.2] (dictSet d key kx.2)) _ _ _
  have hnew:kx.1 ∉ (more.take i).map (·.1):=by
   have e:more.take (i + 1)=more.take i ++ [kx]:=by rw [List.take_succ,ekx]; rfl
   have h4:((more.take (i + 1)).map (·.1)).Nodup:=hnd.sublist ((List.take_sublist _ _).map _)
   rw [e,zMa,List.nodup_append] at h4
   intro z
   exact h4.2.2 _ z kx.1 (by simp) rfl
  refine wpAny_holding (wpAny_dictSet_pairs (hsz:=by rw [List.length_take]; omega) hkey hd' λh2 dd hs=>?_)
  rw [Xh hnew,show more.take i ++ [(kx.1,kx.2)]=more.take (i + 1) by rw [List.take_succ,ekx]; rfl] at dd
  refine wpAny_pure ⟨plainId_quiet yx _,?_⟩
  have keep:∀ b o,b ≠ d->h'.get? b=some o->h2.get? b=some o:=λb o hb e=>(hs.2 b hb).trans e
  refine ih (i + 1) _ (by omega) ?_ ?_ dd ?_ λh3 tk3 d3 k3=>?_
  ·obtain ⟨o',ho',r'⟩:=hst'.1
   exact ⟨o',keep _ _ (Ne.symm hdi) ho',r'⟩
  ·obtain ⟨o',ho',r'⟩:=hst'.2
   exact ⟨o',keep _ _ (Ne.symm hdl) ho',r'⟩
  ·intro j v kx h1 h2'
   obtain ⟨b,o,n,key,e1,e2,e3,e4,e5⟩:=hp' j v kx h1 h2'
   refine ⟨b,o,n,key,e1,keep b o ?_ e2,e3,e4,e5⟩
   intro z
   subst z
   obtain ⟨o',es,ep,ho',hc',hdat,_⟩:=hd'
   rw [ho'] at e2
   cases e2
   rw [hdat] at e4
   cases e4
  ·exact hR h3 tk3 d3 λb o h1 h2' e=>k3 b o h1 h2' (keep b o h1 (hk' b o (by simpa using h2') e))
def ql {E:Value->Shared->Prop} {l:Addr} {its:List Value} {more:List (K × Value)} {Q:Value->Shared->Prop} (hh:A.handled=none) (hl:PlainL s.heap l its.toArray) (hlen:its.length=more.length) (hnd:(more.map (·.1)).Nodup) (hsz:more.length <= sizeLine)
  (hp:∀ (j:Nat) v kx,its[j]?=some v->more[j]?=some kx->X8 knd s.heap v kx)
  (h:∀ h' tk,h'.DictOf knd s.heap.objs.size more->(∀ b o,s.heap.get? b=some o->h'.get? b=some o)->Q (.ref s.heap.objs.size) { s with heap:=h',toks:=tk }) :
  wpAny (model prog w) A (call (.type "dict") [.ref l]) Q E s:=by
 refine callType_codes (Q₁:=λobj s₁=>obj=.ref s.heap.objs.size /\ s₁={ s with heap:=s.heap.push { cls:=.type "dict", data:=.dict #[] } }) F.kt_called_dict (F.kt_typeCall_dict_1 _) F.entry_dict_init (kt_code_dict_new _ ⟨rfl,rfl⟩) ?_
 rintro obj s₁ ⟨rfl,rfl⟩
 have hnew:(s.heap.push { cls:=.type "dict", data:=.dict #[] }).DictOf knd s.heap.objs.size []:=Heap.DictOf.new s.heap
 have k1:∀ b o,s.heap.get? b=some o->(s.heap.push { cls:=.type "dict", data:=.dict #[] }).get? b=some o:=λb o e=>Heap.get?_push_of_some _ e
 have hl1:=hl.keeps k1
 have hls:l < s.heap.objs.size:=by obtain ⟨o,n,e,_⟩:=hl; exact Heap.lt_size e
 refine ⟨hnew.typeIs,F.args_dict_init_2 _ _,?_⟩
 unfold Builtin.«dict.__init__»
 refine wpAny_bind ?_
 unfold Builtin.Dict.selfAndRest
 refine wpAny_bind (wpAny_notOrdered_dict hnew.typeIs ?_)
 show wpAny _ _ (pure (s.heap.objs.size,[Value.ref l])) _ _ _
 refine wpAny_pure ?_
 show wpAny _ _ (Builtin.Dict.updateFrom "dict.__init__" s.heap.objs.size (.ref l) [] .none) _ _ _
 unfold Builtin.Dict.updateFrom
 refine wpAny_bind (wpAny_typeOf hl1.isList.typeIs ?_)
 rw [if_pos (by decide)]
 refine wpAny_bind (Ut hl1 hh λh2 tk2 k2=>?_)
 rw [if_pos (by rfl)]
 refine wpAny_bind (wpAny_rule ?_)
 have hl2:=(hl1.keeps k2).isList
 have hlt:l < h2.objs.size:=by obtain ⟨o,e,_⟩:=hl2; exact Heap.lt_size e
 refine wpAny_bind (wpAny_pyIter_list hl2 ?_)
 have hdlt:s.heap.objs.size < h2.objs.size:=by
  obtain ⟨o,es,ep,ho,_⟩:=hnew
  exact Heap.lt_size (k2 _ _ ho)
 refine wpAny_pure ⟨plainId_quiet yx _,?_⟩
 refine Sm (knd:=knd) (A:=A.in1) hh s.heap.objs.size h2.objs.size l (Nat.ne_of_lt hdlt) (Nat.ne_of_gt hls) (Nat.ne_of_lt hlt) its more hlen hnd hsz its.length 0 _ (by omega) ?_ ?_ ?_ ?_ λh3 tk3 d3 k3=>?_
 ·exact ⟨_,Heap.get?_push_size _ rfl,rfl,rfl⟩
 ·exact hl2.push _
 ·obtain ⟨o,es,ep,ho,r⟩:=hnew
  exact ⟨o,es,ep,Heap.get?_push_of_some _ (k2 _ _ ho),r⟩
 ·intro j v kx h1 h2'
  obtain ⟨b,o,n,key,e1,e2,e3,e4,e5⟩:=hp j v kx h1 h2'
  exact ⟨b,o,n,key,e1,Heap.get?_push_of_some _ (k2 _ _ (k1 _ _ e2)),e3,e4,e5⟩
 ·refine ⟨rfl,h h3 tk3 d3 λb o e=>k3 b o ?_ ?_ (Heap.get?_push_of_some _ (k2 _ _ (k1 _ _ e)))⟩
  ·exact Nat.ne_of_lt (Heap.lt_size e)
  ·exact Nat.ne_of_lt (Nat.lt_trans (Heap.lt_size e) hdlt)
end
section
variable {X:Cx}
def Sa (K:W.Frag) (H:Hp):List V->List (Key × V)->Prop:=Paired λp kv=>∃ b,p=V.ref b /\ SqT K H b [kV kv.1,kv.2]
def Wm (hc:X.calm=true):w5 X (.type "dict") (λxs H Q=>∃ a ps kvs,xs=[.ref a] /\ SqL X.K H a ps /\ Sa X.K H ps kvs /\ (kvs.map (·.1)).Nodup /\ ∀ p,H p=none->Q (.ref p) (upd H p (.dK kvs))):=by
 intro pn s σ H xs us Q I r h
 obtain ⟨a,ps,kvs,rfl,ha,hp,hn,q⟩:=h
 obtain ⟨u,rfl,ru⟩:=ux r
 cases ru
 obtain ⟨its,rv,pl,hz⟩:=I.list ha
 have hlen:ps.length=kvs.length:=hp.length
 have hli:=rv.length
 have ex:∃ more:List (Key × Value),KV kvs more /\ ∀ (j:Nat) v kx,its[j]?=some v->more[j]?=some kx->X8 (zv X.prog X.w) s.heap v kx:=by
  clear hn q hz pl hlen hli ha
  induction rv generalizing kvs with
  | nil=>cases hp; exact ⟨[],.nil,λj v kx e=>by simp at e⟩
  | cons r1 r2 ih =>
   cases hp with
   | cons h t =>
    obtain ⟨more,k1,k2⟩:=ih _ t
    obtain ⟨b,rfl,sq⟩:=h
    cases r1
    obtain ⟨ts,rt,⟨o,e1,e2,n,e3⟩,_⟩:=I.tuple sq
    cases rt with
    | cons t1 rt =>
     cases rt with
     | cons t2 rt =>
      cases rt
      rename_i kk key x
      refine ⟨(_,x) :: more,.cons ⟨rfl,t2⟩ k1,λj v kx h1 h2=>?_⟩
      cases j with
      | zero =>
       simp at h1 h2
       subst h1 h2
       exact ⟨b,o,n,key,rfl,e1,e2,e3,d6 t1⟩
      | succ j=>exact k2 j v kx (by simpa using h1) (by simpa using h2)
 obtain ⟨more,k1,k2⟩:=ex
 have hml:kvs.length=more.length:=k1.length
 have hkeys:more.map (·.1)=kvs.map (·.1):=by
  clear hn q hp hlen k2 hml
  induction k1 with
  | nil=>rfl
  | cons h t ih=>rw [List.map_cons,List.map_cons,ih,h.1]
 have hb:=I.big
 refine ql (knd:=zv X.prog X.w) (I.ok.hd hc) pl (by omega) (by rw [hkeys]; exact hn) (by omega) k2 λh' tk hd keep=>?_
 refine ⟨.ref s.heap.objs.size,_,I.laid (t':=tk) (a:=s.heap.objs.size) (o:=.dK kvs) keep (Nat.le_refl _) ?_,rfl,q _ (I.hok.fresh (Nat.le_refl _))⟩
 exact b3 (by omega) (by simpa using (Nat.ne_of_gt hb)) k1 hd
end
end L2
namespace DL
open PySem PySem.Spec L2 L3
open PyProof.Rows hiding St
variable {Γ:Hp->Prop}
section
variable {X:Cx} {e ke:Expr} {es:List Expr} {t:TDs} {te tk:TD} {p p2 pos pos2:Pos}
def kD:Key->D
 | .inl i=>.int i
 | .inr x=>.str x
def U4 (ks:List Key) (ds:List D):List D:=(ks.zip ds).map λq=>.tup [kD q.1,q.2]
def sDictP:FT:=λxs φ=>match xs with
 | [.lst l]=>∃ ks ds,l=U4 ks ds /\ ks.length=ds.length /\ ks.Nodup /\ φ (df (.dk ks ds))
 | _=>False
def Ly {K:W.Frag} {H:Hp} {O:List Addr} {k:Key} {v:V} (h:Rep K H O (kD k) v):v=kV k:=by
 cases k with
 | inl i=>exact h
 | inr x=>exact h
def kj {K:W.Frag} {H:Hp} {O:List Addr}:∀ (ks:List Key) (ds:List D) (ps:List V),ks.length=ds.length->Reps K H O (U4 ks ds) ps->∃ xs,Sa K H ps (ks.zip xs) /\ Reps K H O ds xs
 | [],[],ps,_,h=>by
  cases (show ps=[] from h)
  exact ⟨[],.nil,rfl⟩
 | [],_ :: _,_,h,_=>by cases h
 | _ :: _,[],_,h,_=>by cases h
 | k :: ks,d :: ds,ps,hl,h=>by
  obtain ⟨v,ws,rfl,⟨a,zs,rfl,sq,r⟩,hr⟩:=h
  obtain ⟨v1,w1,rfl,r1,v2,w2,rfl,r2,rfl⟩:=r
  cases Ly r1
  obtain ⟨xs,h1,h2⟩:=kj ks ds ws (by simpa using hl) hr
  exact ⟨v2 :: xs,.cons ⟨a,rfl,sq.1⟩ h1,v2,xs,rfl,r2,h2⟩
def jp {α β:Type}:∀ (ks:List α) (xs:List β),ks.length=xs.length->(ks.zip xs).map (·.1)=ks
 | [],_,_=>rfl
 | k :: ks,[],h=>by cases h
 | k :: ks,x :: xs,h=>by
  rw [List.zip_cons_cons,List.map_cons,jp ks xs (by simpa using h)]
def Qr (hm:X.mg "dict" = none) (ha:EA Γ X (e :: es) t) (hc:X.calm=true:=by rfl) (hg:Gl X "dict":=by rfl) (he:starEach (e :: es) X.env=(false,eval e X.env) :: starEach es X.env:=by rfl) (hpl:(backTo pos (starEach es X.env)).any (·.1)=false:=by rfl):ED Γ X (.Call (.Name "dict" p) (e :: es) [] pos) (dCB sDictP t) :=
 u9 (Wm hc) (λH O ds vs φ Q ho hv h k=>by
  unfold sDictP at h
  split at h
  ·obtain ⟨ks,ds,rfl,hl,nd,h⟩:=h
   obtain ⟨v,ws,rfl,⟨a,xs,rfl,q,r⟩,rfl⟩:=hv
   obtain ⟨zs,h1,h2⟩:=kj ks ds xs hl r
   have hz:ks.length=zs.length:=by rw [hl,h2.length]
   exact ⟨a,xs,_,rfl,SqL.of q,h1,by rw [jp ks zs hz]; exact nd,λp hp=>k _ (df (.dk _ _)) _ (zo hp _) ⟨p,rfl,hp,ho p hp,zs,zg,hl,nd,Reps.grow (jx hp) _ _ h2⟩ h⟩
  ·exact h.elim) hm j8 ha hg (by decide) (by decide) he hpl
def Ox (i:Nat) (tk te:TD):TDS:=λρ Z=>match slot ρ i with
 | some ⟨.own,.dk ks ds⟩=>tk ρ λkr=>(match keyD kr.d with
  | some k=>(match zw ks ds k with
   | some (.int n)=>te ρ λr=>(match r.d with
    | .int y=>ds.length <= 100000 /\ Z.nx (setS ρ i (dO (.dk (kput ks k) (dput ks ds k (.int (n + y))))))
    | _=>False)
   | _=>False)
  | none=>False)
 | _=>False
def Ot (i:Nat) {x:Str} {np tpos:Pos} (hu:X.A.units + 64 < cLine) (hk:ED Γ X ke tk) (he:ED Γ X e te) (hN:X.N[i]?=some x:=by rfl) (hv:Vis X.env.scope x:=by first | exact Or.inl rfl | exact Or.inr (Or.inl rfl) | exact Or.inr (Or.inr rfl)) (hd:(x == ("__debug__" : Str))=false:=by decide)
  (hcd:(x == ("__classdict__" : Str))=false:=by decide)
  (ha:∀ ov iv new,augStore ke ov iv new=(do holding [new,ov,iv] (setItem ov iv new); release [new,ov,iv] []; pure .next):=by intros; rfl):SD Γ X (.AugAssign (.Subscript (.Name x np) ke tpos) .Add e pos) (Ox i tk te):=λH₀ =>
 impS (N2 (by omega) (wf hN hv hd hcd) (hk H₀) (he H₀) Jm ha) λD σ H h=>by
  obtain ⟨ρ,o,R,Z,hZ,k1,k2,k3,k4⟩:=h
  unfold Ox at hZ
  split at hZ
  ·rename_i ks ds es
   obtain ⟨v0,ev0,q0⟩:=R.slots i _ (yc es)
   rcases q0 with ⟨k,_⟩ | ⟨_,a,rfl,m,c⟩
   ·cases k
   obtain ⟨xs,hx,hl,nd,rx⟩:=c
   refine ⟨.ref a,ev0,ρ,o,R,_,hZ,λv1 r1 H1 s1 rv1 h1=>?_⟩
   split at h1
   ·rename_i k ek
    have hk:v1=kV k:=vz rv1.view ek
    subst hk
    split at h1
    ·rename_i n en
     have hx1:=s1 _ _ hx
     have rx1:=Reps.grow (Grow.same s1) _ _ rx
     have xl:ks.length=xs.length:=by rw [hl,rx.length]
     obtain ⟨z,ez,rz⟩:=(sr (ks:=ks) (k:=k) rx1).1 _ en
     cases (show z=_ from rz)
     refine ⟨a,.int n,rfl,?_,ρ,o,R.to s1,_,h1,λv2 r2 H2 s2 rv2 h2=>?_⟩
     ·have:=DGet.k (k:=k) hx1
      rw [vg,ez] at this
      exact this
     ·have vw2:=rv2.view
      split at h2
      ·rename_i y ey
       rw [ey] at vw2
       cases (show v2=_ from vw2)
       have s12:=s1.trans s2
       have hx2:=s12 _ _ hx
       have rx2:=Reps.grow (Grow.same s12) _ _ rx
       refine ⟨n,y,rfl,rfl,_,DPut.k hx2 ?_,?_⟩
       ·rw [List.length_zip,xl,Nat.min_self,rx.length]
        exact Nat.lt_of_le_of_lt h2.1 (by decide)
       ·rw [jh nd xl]
        obtain ⟨R3,g3⟩:=(R.to s12).chg (d':=.dk (kput ks k) (dput ks ds k (.int (n + y)))) (ho:=.dK ((kput ks k).zip (dput ks xs k (.int (n + y))))) (yc es) ev0 m ⟨λ_ z=>(by cases z),λ_ _ z=>(by cases z)⟩ λgr =>
         ⟨dput ks xs k (.int (n + y)),zg,g6 hl,ko nd,gr _ _ (vo rx2 (by exact rfl))⟩
        exact k1 _ σ _ o ((Grow.same s12).trans g3) R3 h2.2
      ·exact h2.elim
    ·exact h1.elim
   ·exact h1.elim
  ·exact hZ.elim
end
end DL
namespace L2
open PySem PySem.Spec PyProof.Rows
section
variable {X:Cx} {tg:Expr} {pn:List (Addr × Obj)} {σ:St} {H:Hp} {s:Shared} {a:Addr} {ob:Obj} {kvs:List (Key × V)}
end
end L2
namespace DL
open PySem PySem.Spec L2 L3
open PyProof.Rows hiding St
variable {Γ:Hp->Prop}
abbrev TK:=List Key
instance decMemTK (k:TK) (ks:List TK):Decidable (k ∈ ks):=decidable_of_iff (ks.any (λx=>decide (x=k))=true) (by simp)
section
variable {α:Type}
def xk:List TK->List α->TK->Option α
 | k' :: ks,d :: ds,k=>if k'=k then some d else xk ks ds k
 | _,_,_=>none
def ui (ks:List TK) (k:TK):List TK:=if k ∈ ks then ks else ks ++ [k]
def xr:List TK->List α->TK->α->List α
 | k' :: ks,d' :: ds,k,d=>if k'=k then d :: ds else d' :: xr ks ds k d
 | _,_,_,d=>[d]
end
def gq:∀ (ks:List TK) (xs:List V) (k:TK),valV (ks.zip xs) k=xk ks xs k
 | [],xs,k=>by cases xs <;> rfl
 | k' :: ks,[],k=>rfl
 | k' :: ks,x :: xs,k=>by
  rw [List.zip_cons_cons,xk]
  by_cases e:k'=k
  ·rw [if_pos e,vh (by exact e)]
  ·rw [if_neg e,vi (by exact e),gq ks xs k]
def Yn:∀ (ks:List TK) (xs:List V) (k:TK) (v:V),k ∉ ks->(ks.zip xs).map (λkv=>if kv.1=k then (kv.1,v) else kv)=ks.zip xs
 | [],xs,k,v,_=>by cases xs <;> rfl
 | k' :: ks,[],k,v,_=>rfl
 | k' :: ks,x :: xs,k,v,h=>by
  rw [List.zip_cons_cons,List.map_cons,Yn ks xs k v λz=>h (List.mem_cons_of_mem _ z)]
  rw [if_neg (by intro z; exact h (List.mem_cons.mpr (.inl z.symm)))]
def gk:∀ {ks:List TK} {xs:List V} {k:TK},ks.length=xs.length->(((ks.zip xs).any λkv=>decide (kv.1=k))=true ↔ k ∈ ks)
 | [],xs,k,h=>by cases xs <;> simp at *
 | k' :: ks,[],k,h=>by simp at h
 | k' :: ks,x :: xs,k,h=>by
  rw [List.zip_cons_cons,List.any_cons,Bool.or_eq_true,gk (by simpa using h)]
  simp [eq_comm]
def Ug:∀ {ks:List TK} {xs:List V} {k:TK} {v:V},ks.Nodup->ks.length=xs.length->k ∈ ks->(ks.zip xs).map (λkv=>if kv.1=k then (kv.1,v) else kv)=ks.zip (xr ks xs k v)
 | [],_,_,_,_,_,h=>by cases h
 | k' :: ks,[],_,_,_,h,_=>by simp at h
 | k' :: ks,x :: xs,k,v,nd,hl,h=>by
  obtain ⟨n1,n2⟩:=List.nodup_cons.mp nd
  rw [List.zip_cons_cons,List.map_cons,xr]
  by_cases e:k'=k
  ·subst e
   rw [if_pos rfl,if_pos rfl,Yn ks xs k' v n1,List.zip_cons_cons]
  ·rw [if_neg e,if_neg e,List.zip_cons_cons,Ug n2 (by simpa using hl) ((List.mem_cons.mp h).resolve_left (Ne.symm e))]
def qh {α:Type}:∀ {ks:List TK} {xs:List α} {k:TK} {v:α},ks.length=xs.length->k ∉ ks->xr ks xs k v=xs ++ [v]
 | [],xs,k,v,h,_=>by
  cases xs with
  | nil=>rfl
  | cons=>simp at h
 | k' :: ks,[],_,_,h,_=>by simp at h
 | k' :: ks,x :: xs,k,v,h,hn=>by
  rw [xr,if_neg (λz=>hn (List.mem_cons.mpr (.inl z.symm))),qh (by simpa using h) λz=>hn (List.mem_cons_of_mem _ z)]
  rfl
def Vt {ks:List TK} {xs:List V} {k:TK} {v:V} (nd:ks.Nodup) (hl:ks.length=xs.length):putK (ks.zip xs) k v=(ui ks k).zip (xr ks xs k v):=by
 unfold putK ui
 by_cases h:k ∈ ks
 ·rw [if_pos ((gk hl).mpr h),if_pos h,Ug nd hl h]
 ·rw [if_neg (λz=>h ((gk hl).mp z)),if_neg h,qh hl h,List.zip_append hl]
  rfl
def Tr {α:Type}:∀ {ks:List TK} {xs:List α} {k:TK} {v:α},ks.length=xs.length->(ui ks k).length=(xr ks xs k v).length:=λ{ks xs k v} h=>by
 by_cases hk:k ∈ ks
 ·unfold ui
  rw [if_pos hk]
  induction ks generalizing xs with
  | nil=>cases hk
  | cons k' ks ih =>
   cases xs with
   | nil=>simp at h
   | cons x xs =>
    rw [xr]
    by_cases e:k'=k
    ·rw [if_pos e]; simpa using h
    ·rw [if_neg e]
     have:=ih (xs:=xs) (by simpa using h) ((List.mem_cons.mp hk).resolve_left (Ne.symm e))
     simp [this]
 ·rw [qh h hk]
  unfold ui
  rw [if_neg hk]
  simp [h]
def Z7 {ks:List TK} {k:TK} (nd:ks.Nodup):(ui ks k).Nodup:=by
 unfold ui
 split
 ·exact nd
 ·rename_i h
  exact List.nodup_append.mpr ⟨nd,by simp,by intro a ha b hb e; simp at hb; subst hb; exact h (e ▸ ha)⟩
section
variable {K:W.Frag} {H:Hp} {O:List Addr}
def ue:∀ {ks:List TK} {ds:List D} {xs:List V} {k:TK},Reps K H O ds xs->(∀ d,xk ks ds k=some d->∃ v,xk ks xs k=some v /\ Rep K H O d v) /\ (xk ks ds k=none->xk ks xs k=none)
 | [],ds,xs,k,r=>⟨(λd h=>by cases ds <;> cases h),(λ_=>by cases xs <;> rfl)⟩
 | k' :: ks,[],xs,k,r=>by
  cases r
  exact ⟨(λd h=>by cases h),λ_=>rfl⟩
 | k' :: ks,d' :: ds,xs,k,r=>by
  obtain ⟨v,ws,rfl,q,t⟩:=r
  rw [xk,xk]
  by_cases e:k'=k
  ·rw [if_pos e,if_pos e]
   exact ⟨(λd h=>by cases h; exact ⟨v,rfl,q⟩),(λh=>by cases h)⟩
  ·rw [if_neg e,if_neg e]
   exact ue t
def kn:∀ {ks:List TK} {ds:List D} {xs:List V} {k:TK} {d:D} {v:V},Reps K H O ds xs->Rep K H O d v->Reps K H O (xr ks ds k d) (xr ks xs k v)
 | [],ds,xs,k,d,v,r,q=>by
  have e1:xr ([]:List TK) ds k d=[d]:=by cases ds <;> rfl
  have e2:xr ([]:List TK) xs k v=[v]:=by cases xs <;> rfl
  rw [e1,e2]
  exact Reps.one q
 | k' :: ks,[],xs,k,d,v,r,q=>by
  cases r
  exact Reps.one q
 | k' :: ks,d' :: ds,xs,k,d,v,r,q=>by
  obtain ⟨v',ws,rfl,q',t⟩:=r
  rw [xr,xr]
  by_cases e:k'=k
  ·rw [if_pos e,if_pos e]
   exact ⟨v,ws,rfl,q,t⟩
  ·rw [if_neg e,if_neg e]
   exact ⟨v',_,rfl,q',kn t q⟩
end
def Z9:List D->Option (List Key)
 | []=>some []
 | d :: ds=>match keyD d,Z9 ds with
  | some k,some ks=>some (k :: ks)
  | _,_=>none
def keyT:D->Option TK
 | .tup ds=>Z9 ds
 | _=>none
def kq {K:W.Frag} {H:Hp} {O:List Addr}:∀ {ds:List D} {xs:List V} {k:TK},Reps K H O ds xs->Z9 ds=some k->xs=k.map kV
 | [],xs,k,r,e=>by cases r; cases e; rfl
 | d :: ds,xs,k,r,e=>by
  obtain ⟨v,ws,rfl,q,t⟩:=r
  rw [Z9] at e
  split at e
  ·rename_i k1 k2 e1 e2
   cases e
   rw [List.map_cons,<- kq t e2,<- vz q.view e1]
  ·cases e
def fw {K:W.Frag} {H:Hp} {O:List Addr} {d:D} {v:V} {k:TK} (h:View K H O d v) (e:keyT d=some k):∃ b,v=.ref b /\ H b=some (.tup (k.map kV)):=by
 cases d with
 | tup ds =>
  obtain ⟨b,xs,rfl,q,r⟩:=h
  exact ⟨b,rfl,by rw [<- kq r e]; exact q.2⟩
 | _=>cases e
section
variable {X:Cx} {a b c e o:Expr} {es:List Expr} {ta tb tc te td:TD} {t:TDs} {pos:Pos}
def cz:ED Γ X (.Dict [] [] pos) (λ_ φ=>φ (df (.dt [] []))):=λH₀=>impE Ro λσ H Q q=>by
 obtain ⟨ρ,o,R,φ,hφ,k⟩:=q
 intro p hp
 exact k (.ref p) (df (.dt [] [])) _ (zo hp _) ⟨p,rfl,hp,R.ofree hp,[],zg,rfl,List.nodup_nil,rfl⟩ hφ
def sInT (neg:Bool):D->D->(EV->Prop)->Prop:=λx y φ=>match y with
 | .dt ks _=>(match keyT x with | some k=>φ (dv (.bl (if neg then !decide (k ∈ ks) else decide (k ∈ ks)))) | none=>False)
 | _=>False
def O2 (td tk tx:TD):TD:=λρ φ=>td ρ λr=>match r.d with
 | .dt ks ds=>tk ρ λy=>tx ρ λz=>(match z.k with | .own=>False | _=>True) /\ (match keyT y.d with
  | some k=>φ (dv ((xk ks ds k).getD z.d))
  | none=>False)
 | _=>False
def Qq {f:Expr} {tf:TD} {apos cpos:Pos} (hu:X.A.units + 64 < cLine) (ho:ED Γ X o td) (he:ED Γ X e te) (hf:ED Γ X f tf) (m:M2 X o "get" apos e f cpos:=by exact ⟨rfl,rfl,rfl,rfl⟩):ED Γ X (.Call (.Attribute o "get" apos) [e,f] [] cpos) (O2 td te tf):=λH₀ =>
 impE (Rq (by omega) (ho H₀) (he H₀) (hf H₀) m) λσ H Q q=>by
  obtain ⟨ρ,o,R,φ,hφ,kk⟩:=q
  refine ⟨ρ,o,R,_,hφ,λv r H1 s1 rv h1=>?_⟩
  obtain ⟨kd,d⟩:=r
  cases d with
  | dt ks ds =>
   obtain ⟨a,xs,rfl,q,l,nd,rp⟩:=rv.view
   refine ⟨a,rfl,.inr ⟨_,.inl q⟩,ρ,o,R.to s1,_,h1,λv2 r2 H2 s2 rv2 h2=>⟨ρ,o,R.to (s1.trans s2),_,h2,λv3 r3 H3 s3 rv3 h3=>?_⟩⟩
   obtain ⟨h0,h3⟩:=h3
   split at h3
   ·rename_i k ek
    have q3:=s3 _ _ (s2 _ _ q)
    obtain ⟨b,rfl,hb⟩:=fw (rv2.same s3).view ek
    have rp3:=Reps.grow (Grow.same (s2.trans s3)) _ _ rp
    refine ⟨_,DGet.t q3 hb,?_⟩
    rw [gq]
    have s13:=s1.trans (s2.trans s3)
    cases el:xk ks ds k with
    | none =>
     rw [(ue (ks:=ks) (k:=k) rp3).2 el]
     rw [el] at h3
     exact kk _ _ H3 s13 (RV.val (rv3.solid (wg h0))) h3
    | some d =>
     obtain ⟨w,ew,rw⟩:=(ue (ks:=ks) (k:=k) rp3).1 d el
     rw [ew]
     rw [el] at h3
     exact kk _ _ H3 s13 (RV.val rw) h3
   ·exact h3.elim
  | _=>exact h1.elim
end
section
variable {X:Cx} {x:Str} {e ke:Expr} {te tk:TD} {np pos pos':Pos}
def Vm (i:Nat) (tk te:TD):TDS:=λρ Z=>match slot ρ i with
 | some ⟨.own,.dt ks ds⟩=>te ρ λr=>tk ρ λkr=>(match r.k with | .own=>False | _=>True) /\ ds.length <= 100000 /\ (match keyT kr.d with
  | some k=>Z.nx (setS ρ i (dO (.dt (ui ks k) (xr ks ds k r.d))))
  | none=>False)
 | _=>False
def Sz (i:Nat) (hu:X.A.units + 64 < cLine) (hk:ED Γ X ke tk) (he:ED Γ X e te) (hN:X.N[i]?=some x:=by rfl) (hv:Vis X.env.scope x:=by first | exact Or.inl rfl | exact Or.inr (Or.inl rfl) | exact Or.inr (Or.inr rfl)) (hd:(x == ("__debug__" : Str))=false:=by decide)
  (hcd:(x == ("__classdict__" : Str))=false:=by decide) (hs:swapsWith e (some (.Subscript (.Name x np) ke pos')) pos.line X.env=pure false:=by rfl):SD Γ X (.Assign [.Subscript (.Name x np) ke pos'] e pos) (Vm i tk te):=λH₀ =>
 impS (bz (by omega) (wf hN hv hd hcd) (hk H₀) (he H₀) hs) λD σ H h=>by
  obtain ⟨ρ,o,R,Z,hZ,k1,k2,k3,k4⟩:=h
  unfold Vm at hZ
  split at hZ
  ·rename_i ks ds es
   obtain ⟨v0,ev0,q0⟩:=R.slots i _ (yc es)
   rcases q0 with ⟨k,_⟩ | ⟨_,a,rfl,m,c⟩
   ·cases k
   obtain ⟨xs,hx,hl,nd,rx⟩:=c
   refine ⟨ρ,o,R,_,hZ,λv r H1 s1 rv h1=>⟨.ref a,ev0,ρ,o,R.to s1,_,h1,λv2 r2 H2 s2 rv2 h2=>?_⟩⟩
   obtain ⟨h0,hlen,h2⟩:=h2
   split at h2
   ·rename_i k ek
    obtain ⟨b,rfl,hb⟩:=fw rv2.view ek
    have s12:=s1.trans s2
    have hx2:=s12 _ _ hx
    have rx2:=Reps.grow (Grow.same s12) _ _ rx
    have xl:ks.length=xs.length:=by rw [hl,rx.length]
    refine ⟨a,_,rfl,DPut.t hx2 hb ?_,?_⟩
    ·rw [List.length_zip,xl,Nat.min_self,rx.length]
     exact Nat.lt_of_le_of_lt hlen (by decide)
    ·rw [Vt nd xl]
     obtain ⟨R3,g3⟩:=(R.to s12).chg (d':=.dt (ui ks k) (xr ks ds k r.d)) (ho:=.dT ((ui ks k).zip (xr ks xs k v))) (yc es) ev0 m ⟨λ_ z=>(by cases z),λ_ _ z=>(by cases z)⟩ λgr =>
      ⟨xr ks xs k v,zg,Tr hl,Z7 nd,gr _ _ (kn rx2 ((rv.same s2).solid (wg h0)))⟩
     exact k1 _ σ _ o ((Grow.same s12).trans g3) R3 h2
   ·exact h2.elim
  ·exact hZ.elim
end
end DL
namespace L2
open PySem PySem.Spec PySem.W PyProof.Rows
def RawD (h:Heap) (d:Addr) (rows:Array DictEntry) (ep:Nat):Prop:=∃ o,h.get? d=some o /\ o.ExactDict /\ o.data=.dict rows ep
def RawD.ty {s:Shared} {d:Addr} {rows:Array DictEntry} {ep:Nat} (x:RawD s.heap d rows ep):s.TypeIs (.ref d) "dict":=let ⟨o,g,c,_⟩:=x; ⟨o,g,c.1⟩
def RawD.to {h k:Heap} {d:Addr} {rows:Array DictEntry} {ep:Nat} (x:RawD h d rows ep) (f:∀ o,h.get? d=some o->k.get? d=some o):RawD k d rows ep:=let ⟨o,g,r⟩:=x; ⟨o,f o g,r⟩
def RawD.lt {h:Heap} {d:Addr} {rows:Array DictEntry} {ep:Nat} (x:RawD h d rows ep):d < h.objs.size:=let ⟨_,g,_⟩:=x; Heap.lt_size g
section
variable {n:Nat} {cmp:Nat->Nat->(Bool->Shared->Prop)->Shared->Prop} {s:Shared}
end
def gn:∀ bs:List Addr,Vals (bs.map V.ref) (bs.map Value.ref)
 | []=>.nil
 | b :: bs=>.cons rfl (gn bs)
def Gg:Key->Option Int
 | .inl i=>some i
 | .inr _=>none
end L2
namespace DL
open PySem PySem.Spec L2 L3
open PyProof.Rows hiding St
variable {Γ:Hp->Prop}
def tkD (k:TK):D:=.tup (k.map kD)
def bw {K:W.Frag} {H:Hp} {O:List Addr}:∀ k:TK,Reps K H O (k.map kD) (k.map kV)
 | []=>rfl
 | .inl i :: k=>⟨_,_,rfl,rfl,bw k⟩
 | .inr x :: k=>⟨_,_,rfl,rfl,bw k⟩
def Lx {K:W.Frag} {H:Hp} {O:List Addr} {k:TK} {b:Addr} (h:H b=some (.tup (k.map kV))):Rep K H O (tkD k) (.ref b):=⟨b,_,rfl,⟨SqT.of h,h⟩,bw k⟩
def rg:∀ k:TK,Z9 (k.map kD)=some k
 | []=>rfl
 | .inl i :: k=>by rw [List.map_cons,Z9,rg k]; rfl
 | .inr i :: k=>by rw [List.map_cons,Z9,rg k]; rfl
def M0 (k:TK):keyT (tkD k)=some k:=rg k
end DL
namespace L2
open PySem PySem.Spec PySem.W PyProof.Rows
section
variable {n:Nat} {lt:Nat->Nat->Bool} {cmp:Nat->Nat->(Bool->Shared->Prop)->Shared->Prop} {s:Shared}
end
end L2
namespace DL
open PySem PySem.Spec L2 L3
open PyProof.Rows hiding St
variable {Γ:Hp->Prop}
def zK (k:TK):List Int:=k.filterMap Gg
end DL
namespace L2
open PySem PySem.Spec PySem.W PyProof.Rows
def uz (D:Addr) (i n ep:Nat) (x0 x1 o1 o2:Value):Obj:={ cls:=.type "dict_itemiterator", dict:=none,data:=.fields #[x0,x1,.ref D,.int i 0,.int n 0,.int ep 0,o1,o2],slots:=#[] }
def RawJ (h:Heap) (J D:Addr) (i n ep:Nat):Prop:=∃ x0 x1 o1 o2,h.get? J=some (uz D i n ep x0 x1 o1 o2) /\ ((x0=.none /\ x1=.bool false) \/ ∃ (b:Addr) (f:Bool) (ob:Obj),x0=rawInt b /\ x1=.bool f /\ h.get? b=some ob /\ b ≠ J)
def vq (e:DictEntry):Obj:={ cls:=.type "tuple", data:=.seq #[e.key,e.val] }
def RawJ.to {h k:Heap} {J D:Addr} {i n ep:Nat} (y:RawJ h J D i n ep) (f:∀ o,h.get? J=some o->k.get? J=some o) (g:∀ b o,h.get? b=some o->∃ o',k.get? b=some o'):RawJ k J D i n ep:=by
 obtain ⟨x0,x1,o1,o2,e,c⟩:=y
 refine ⟨x0,x1,o1,o2,f _ e,?_⟩
 rcases c with c | ⟨b,t,ob,c1,c2,c3,c4⟩
 ·exact .inl c
 ·obtain ⟨o',e'⟩:=g b ob c3
  exact .inr ⟨b,t,o',c1,c2,e',c4⟩
def RawJ.ty {s:Shared} {J D:Addr} {i n ep:Nat} (y:RawJ s.heap J D i n ep):s.TypeIs (.ref J) "dict_itemiterator":=let ⟨_,_,_,_,e,_⟩:=y; ⟨_,e,rfl⟩
def RawJ.lt {h:Heap} {J D:Addr} {i n ep:Nat} (y:RawJ h J D i n ep):J < h.objs.size:=let ⟨_,_,_,_,e,_⟩:=y; Heap.lt_size e
section
variable {prog:Program} {w:World} {A:Around} {E:Value->Shared->Prop} {s:Shared} {D J b:Addr} {rows:Array DictEntry} {ep i:Nat} {o1 o2:Value} {f:Bool}
def R9 {Q:Value->Shared->Prop} (nb:(D == sysModules)=false) (x:RawD s.heap D rows ep)
  (q:Q (.ref s.heap.objs.size) { s with heap:=s.heap.push { cls:=.type "dict_items", data:=.fields #[.ref D] } }):wpAny (model prog w) A (call (.builtin "dict.items") [.ref D]) Q E s:=by
 have ty:=x.ty
 refine wpAny_call_entry F.slot_dict_items ty F.entry_dict_items (?body) (F.args_dict_items_1 _)
 unfold Builtin.«dict.items»
 apply wpAny_bind
 unfold Builtin.Dict.noArgs
 apply wpAny_bind
 refine wpAny_notOrdered_dict ty (?_:_)
 show wpAny _ _ (pure D) _ _ s
 apply wpAny_pure
 show wpAny _ _ (Builtin.Dict.showsAll D >>= _) _ _ s
 unfold Builtin.Dict.showsAll
 rw [if_neg (show ¬ ((D == sysModules)=true) by rw [nb]; decide)]
 apply wpAny_bind; apply wpAny_pure
 apply wpAny_bind
 exact wpAny_newObj_type (wpAny_pure ⟨_,rfl,q⟩)
def Xp {v:Addr} {Q:Value->Shared->Prop} (hv:s.heap.IsItemsView v D) (x:RawD s.heap D rows ep)
  (q:Q (.ref s.heap.objs.size) { s with heap:=s.heap.push { cls:=.type "dict_itemiterator", data:=.fields #[.none,.bool false,.ref D,.int 0 0,.int rows.size 0,.int ep 0,.none,.none] } }) :
  wpAny (model prog w) A (pyIter (.ref v)) Q E s:=by
 have ty:=hv.typeIs
 obtain ⟨o,g,c,d⟩:=id hv
 obtain ⟨o2,g2,c2,e2⟩:=id x
 refine wpAny_pyIter_slot ty F.slot_dict_items_iter (wpAny_call_entry F.slot_dict_items_iter ty F.entry_dict_items_iter (?body) (F.args_dict_items_iter_1 _))
 unfold Builtin.«dict_items.__iter__»
 apply wpAny_bind; apply wpAny_pure
 apply wpAny_bind
 unfold Builtin.Dict_items.dictOf
 apply wpAny_bind
 refine wpAny_field g d (x:=.ref D) rfl (wpAny_pure (?_:_))
 apply wpAny_bind
 unfold Builtin.Dict_items.newIterator
 apply wpAny_bind; refine wpAny_dictEntries g2 e2 ?_
 apply wpAny_bind; refine wpAny_dictEpoch g2 e2 ?_
 have ot:Builtin.Dict_items.ownsTuple "dict_itemiterator" = true:=by decide
 simp only [ot,if_true]
 refine wpAny_newObj_type (wpAny_pure ⟨_,rfl, "dict_itemiterator", _,⟨_,Heap.get?_push_size _ rfl,rfl⟩,F.slot_dict_itemiterator_next.lookup,(?_:_)⟩) (?_:_)
 ·simpa [rawInt,Builtin.Dict_items.ownedTupleFields] using q
 ·simp only [sizeOk,Builtin.Dict_items.ownedTupleFields,List.size_toArray,zLa,zLc,zLn,sizeLine_eq]
  omega
def Vr {b:Addr} {o:Obj} {Q:Option Obj->Shared->Prop} (g:s.heap.get? b=some o) (q:Q (some o) s):wpAny (model prog w) A (loadIfAlive b) Q E s:=by
 have q':Q (s.heap.get? b) s:=by rw [g]; exact q
 exact λ_ _ _=>q'
def Ra {k:DictEntry} {n:Nat} {Q:Value->Shared->Prop} (y:RawJ s.heap J D i n ep)
  (q:∀ h',RawJ h' J D i n ep->h'.get? s.heap.objs.size=some (vq k)->h'.objs.size=s.heap.objs.size + 1->(∀ b o,b ≠ J->s.heap.get? b=some o->h'.get? b=some o)->Q (.ref s.heap.objs.size) { s with heap:=h' }) :
  wpAny (model prog w) A (Builtin.Dict_items.pairFromOwner (.ref J) 6 k.key k.val) Q E s:=by
 obtain ⟨hp,g,dr,tk,os⟩:=s
 obtain ⟨x0,x1,o1,o2,e,c⟩:=y
 have lj:J < hp.objs.size:=Heap.lt_size e
 unfold Builtin.Dict_items.pairFromOwner
 apply wpAny_bind
 refine wpAny_newTuple ?_
 have e2:(hp.push (vq k)).get? J=some (uz D i n ep x0 x1 o1 o2):=Heap.get?_push_of_some _ e
 have t2:(hp.push (vq k)).get? hp.objs.size=some (vq k):=Heap.get?_push_size _ rfl
 have z2:(hp.push (vq k)).objs.size=hp.objs.size + 1:=Heap.size_push ..
 have k2:∀ b o,hp.get? b=some o->(hp.push (vq k)).get? b=some o:=λb o eb=>Heap.get?_push_of_some _ eb
 show wpAny _ _ (Builtin.Dict_items.ownedTupleIsFree (.ref J) >>= _) _ _ ⟨hp.push (vq k),g,dr,tk,os⟩
 generalize hp.push (vq k)=h2 at e2 t2 z2 k2
 apply wpAny_bind
 unfold Builtin.Dict_items.ownedTupleIsFree
 apply wpAny_bind
 rcases c with ⟨rfl,rfl⟩ | ⟨b,f,ob,rfl,rfl,gb,nb⟩
 ·refine wpAny_field e2 rfl (x:=.none) rfl (wpAny_pure (?_:_))
  simp only [if_true]
  apply wpAny_bind; refine wpAny_field e2 rfl (x:=o1) rfl (?_:_)
  apply wpAny_bind; refine wpAny_field e2 rfl (x:=o2) rfl (?_:_)
  apply wpAny_bind; refine wpAny_setField_rec e2 (by simp) λh3 e3 s3=>?_
  replace s3:Heap.SameBut J h2 h3:=s3
  replace e3:h3.get? J=some (uz D i n ep .none (.bool false) k.key o2):=e3
  apply wpAny_bind; refine wpAny_setField_rec e3 (by simp) λh4 e4 s4=>?_
  replace s4:Heap.SameBut J h3 h4:=s4
  replace e4:h4.get? J=some (uz D i n ep .none (.bool false) k.key k.val):=e4
  apply wpAny_bind; refine wpAny_setField_rec e4 (by simp) λh5 e5 s5=>?_
  replace s5:Heap.SameBut J h4 h5:=s5
  replace e5:h5.get? J=some (uz D i n ep (rawInt hp.objs.size) (.bool false) k.key k.val):=e5
  apply wpAny_bind; refine wpAny_setField_rec e5 (by simp) λh6 e6 s6=>?_
  replace s6:Heap.SameBut J h5 h6:=s6
  replace e6:h6.get? J=some (uz D i n ep (rawInt hp.objs.size) (.bool false) k.key k.val):=e6
  have kk:∀ b o,b ≠ J->h2.get? b=some o->h6.get? b=some o:=λb o nb eb=>s6.extBut b o nb (s5.extBut b o nb (s4.extBut b o nb (s3.extBut b o nb eb)))
  have t6:=kk _ _ (Nat.ne_of_gt lj) t2
  refine wpAny_bind (wpAny_letGo (wpAny_pure (q h6 ⟨_,_,_,_,e6,.inr ⟨_,_,_,rfl,rfl,t6,Nat.ne_of_gt lj⟩⟩ t6 ?_ λb o nb eb=>kk b o nb (k2 b o eb))))
  show h6.objs.size=hp.objs.size + 1
  rw [s6.1,s5.1,s4.1,s3.1,z2]
 ·refine wpAny_field e2 rfl (x:=rawInt b) rfl (?_:_)
  show wpAny _ _ (loadIfAlive ((b:Int).toNat) >>= _) _ _ _
  rw [Int.toNat_natCast]
  apply wpAny_bind; refine Vr (k2 b ob gb) (?_:_)
  simp only [Option.isNone_some,Bool.false_eq_true,if_false]
  apply wpAny_bind; refine wpAny_field e2 rfl (x:=.bool f) rfl (?_:_)
  cases f with
  | true =>
   rw [if_neg (show ¬ ((Value.bool true != Value.bool true)=true) from λz=>by cases z)]
   apply wpAny_pure
   simp only [Bool.false_eq_true,if_false]
   exact wpAny_pure (q h2 ⟨_,_,_,_,e2,.inr ⟨b,true,ob,rfl,rfl,k2 b ob gb,nb⟩⟩ t2 z2 λb o _ eb=>k2 b o eb)
  | false =>
   rw [if_pos (show (Value.bool false != Value.bool true)=true from rfl)]
   apply wpAny_bind; refine wpAny_setField_rec e2 (by simp) λh3 e3 s3=>?_
   replace s3:Heap.SameBut J h2 h3:=s3
   replace e3:h3.get? J=some (uz D i n ep (rawInt b) (.bool true) o1 o2):=e3
   apply wpAny_pure
   simp only [Bool.false_eq_true,if_false]
   refine wpAny_pure (q h3 ⟨_,_,_,_,e3,.inr ⟨b,true,ob,rfl,rfl,s3.extBut b ob nb (k2 b ob gb),nb⟩⟩ (s3.extBut _ _ (Nat.ne_of_gt lj) t2) ?_ λb o nb eb=>s3.extBut b o nb (k2 b o eb))
   show h3.objs.size=hp.objs.size + 1
   rw [s3.1,z2]
def Vq {k:DictEntry} {Q:Option Value->Shared->Prop} (y:RawJ s.heap J D i rows.size ep) (x:RawD s.heap D rows ep) (ek:rows[i]?=some k)
  (q:∀ h',RawJ h' J D (i + 1) rows.size ep->h'.get? s.heap.objs.size=some (vq k)->h'.objs.size=s.heap.objs.size + 1->(∀ b o,b ≠ J->s.heap.get? b=some o->h'.get? b=some o)->Q (some (.ref s.heap.objs.size)) { s with heap:=h' }) :
  wpAny (model prog w) A (pyNext (.ref J)) Q E s:=by
 obtain ⟨hp,g,dr,tk,os⟩:=s
 have ty:=y.ty
 obtain ⟨x0,x1,o1,o2,e,c⟩:=id y
 obtain ⟨od,g2,c2,e2⟩:=id x
 have hi:i < rows.size:=(Array.getElem?_eq_some_iff.mp ek).1
 have hk:rows[i]=k:=(Array.getElem?_eq_some_iff.mp ek).2
 unfold pyNext
 apply wpAny_bind
 refine wpAny_attempt (wpAny_callSpecial?_slot (name:=Str.ofString "__next__") ty F.slot_dict_itemiterator_next (wpAny_call_entry F.slot_dict_itemiterator_next ty F.entry_dict_itemiterator_next (?_:_) (F.args_dict_itemiterator_next_1 _)))
 apply wpAny_bind; apply wpAny_pure
 apply wpAny_bind; apply wpAny_bind
 first | refine wpAny_bind (wpAny_typeNameOfWhole_itemiter ty (wpAny_pure (?_:_))) | refine wpAny_bind (wpAny_typeNameOf_itemiter ty (wpAny_pure (?_:_)))
 apply wpAny_bind; refine wpAny_fieldsOf e rfl ?_
 have ot:Builtin.Dict_items.ownsTuple "dict_itemiterator" = true:=by decide
 simp only [ot,if_true]
 show wpAny _ _ (if (Value.ref D == Value.none)=true then _ else _) _ _ _
 rw [if_neg (show ¬ ((Value.ref D == Value.none)=true) from λz=>by cases z)]
 apply wpAny_bind; apply wpAny_pure
 apply wpAny_bind; refine wpAny_dictEntries g2 e2 ?_
 rw [if_neg (show ¬ _ by simp)]
 apply wpAny_bind; apply wpAny_pure
 apply wpAny_bind; refine wpAny_dictEpoch g2 e2 ?_
 rw [if_neg (show ¬ _ by simp)]
 apply wpAny_pure
 simp only [show ¬ ((i:Int) < 0) by omega,if_false,Int.toNat_natCast,Array.getElem?_eq_getElem hi]
 apply wpAny_bind
 first | refine wpAny_bind (wpAny_typeNameOfWhole_itemiter ty (wpAny_pure (?_:_))) | refine wpAny_bind (wpAny_typeNameOf_itemiter ty (wpAny_pure (?_:_)))
 apply wpAny_bind; refine wpAny_isOneOf_itemiter ty ?_
 show wpAny _ _ (setField (.ref J) 3 (rawInt ((i:Int) + 1)) >>= _) _ _ _
 apply wpAny_bind; refine wpAny_setField_rec e (by simp) λh1 e1 s1=>?_
 replace s1:Heap.SameBut J hp h1:=s1
 have e1':h1.get? J=some (uz D (i + 1) rows.size ep x0 x1 o1 o2):=by
  have z:((i + 1:Nat):Int)=(i:Int) + 1:=by omega
  unfold uz
  rw [z]
  simpa [rawInt,uz] using e1
 have y1:RawJ h1 J D (i + 1) rows.size ep:=⟨x0,x1,o1,o2,e1',c.imp_right λ⟨b,f,ob,c1,c2,c3,c4⟩=>⟨b,f,ob,c1,c2,s1.extBut b ob c4 c3,c4⟩⟩
 have ty1:Shared.TypeIs ⟨h1,g,dr,tk,os⟩ (.ref J) "dict_itemiterator":=⟨_,e1',rfl⟩
 apply wpAny_bind; apply wpAny_holding
 apply wpAny_bind; refine wpAny_isOneOf_itemiter ty1 (?_:_)
 apply wpAny_bind; refine wpAny_isOneOf_itemiter ty1 (?_:_)
 show wpAny _ _ (Builtin.Dict_items.pairFromOwner (.ref J) 6 rows[i].key rows[i].val) _ _ ⟨h1,g,dr,tk,os⟩
 rw [hk]
 have z1:h1.objs.size=hp.objs.size:=s1.1
 refine Ra y1 λh' y' t' z' k'=>wpAny_pure ⟨_,rfl,wpAny_pure ?_⟩
 have q':=q h' y' (by rw [<- z1]; exact t') (by rw [<- z1]; exact z') λb o nb eb=>k' b o nb (s1.extBut b o nb eb)
 dsimp only at q' ⊢
 rw [z1]
 exact q'
def Re {Q:Option Value->Shared->Prop} (hh:A.handled=none) (y:RawJ s.heap J D rows.size rows.size ep) (x:RawD s.heap D rows ep)
  (q:∀ h',Heap.ExtBut J s.heap h'->Q none { s with heap:=h' }):wpAny (model prog w) A (pyNext (.ref J)) Q E s:=by
 have ty:=y.ty
 obtain ⟨x0,x1,o1,o2,e,c⟩:=id y
 obtain ⟨od,g2,c2,e2⟩:=id x
 unfold pyNext
 apply wpAny_bind
 refine wpAny_attempt (wpAny_callSpecial?_slot (name:=Str.ofString "__next__") ty F.slot_dict_itemiterator_next (wpAny_call_entry F.slot_dict_itemiterator_next ty F.entry_dict_itemiterator_next (?_:_) (F.args_dict_itemiterator_next_1 _)))
 apply wpAny_bind; apply wpAny_pure
 apply wpAny_bind; apply wpAny_bind
 first | refine wpAny_bind (wpAny_typeNameOfWhole_itemiter ty (wpAny_pure (?_:_))) | refine wpAny_bind (wpAny_typeNameOf_itemiter ty (wpAny_pure (?_:_)))
 apply wpAny_bind; refine wpAny_fieldsOf e rfl ?_
 have ot:Builtin.Dict_items.ownsTuple "dict_itemiterator" = true:=by decide
 simp only [ot,if_true]
 show wpAny _ _ (if (Value.ref D == Value.none)=true then _ else _) _ _ s
 rw [if_neg (show ¬ ((Value.ref D == Value.none)=true) from λz=>by cases z)]
 apply wpAny_bind; apply wpAny_pure
 apply wpAny_bind; refine wpAny_dictEntries g2 e2 ?_
 rw [if_neg (show ¬ _ by simp)]
 apply wpAny_bind; apply wpAny_pure
 apply wpAny_bind; refine wpAny_dictEpoch g2 e2 ?_
 rw [if_neg (show ¬ _ by simp)]
 apply wpAny_pure
 simp only [show ¬ ((rows.size:Int) < 0) by omega,if_false,Int.toNat_natCast,Array.getElem?_eq_none (Nat.le_refl rows.size)]
 apply wpAny_bind
 first | refine wpAny_bind (wpAny_typeNameOfWhole_itemiter ty (wpAny_pure (?_:_))) | refine wpAny_bind (wpAny_typeNameOf_itemiter ty (wpAny_pure (?_:_)))
 show wpAny _ _ (setField (.ref J) 2 .none >>= _) _ _ s
 apply wpAny_bind; refine wpAny_setField e rfl (by simp) (?_:_)
 show wpAny _ _ (newExc (.type "StopIteration") [] >>= _) _ _ _
 apply wpAny_bind
 simp only [newExc,newTuple]
 apply wpAny_bind; refine wpAny_newObj_type ?_ (by size_fits)
 apply wpAny_bind (m:=firstArgMember _ _); refine wpAny_of_eq (a:=Value.none) (by first | rfl | (simp only [firstArgMember]; rfl)) ?_
 refine wpAny_newObj_type ?_ (by size_fits)
 simp only [raiseNew]
 apply wpAny_bind; apply wpAny_handled
 rw [show A.in1.handled=none from hh]
 refine wpAny_bind (wpAny_pure (wpAny_throw (?_:_)))
 apply wpAny_bind
 refine wpAny_isInstance (T:="StopIteration") (b:=true) ⟨_,Heap.get?_push_size _ rfl,rfl⟩ isSubtype_stop ?_
 exact wpAny_pure (q _ (((Heap.SameBut.update ..).extBut.push _).push _))
end
def xa (h:Heap) (rows:Array DictEntry) (J:Addr) (as:List Addr):Prop:=(∀ a ∈ as,J < a) /\ as.Nodup /\ ∀ (j:Nat) a,as[j]?=some a->∃ e,rows[j]?=some e /\ h.get? a=some (vq e)
def xa.lt {h:Heap} {rows:Array DictEntry} {J a:Addr} {as:List Addr} (p:xa h rows J as) (m:a ∈ as):a < h.objs.size:=by
 obtain ⟨j,hj⟩:=List.getElem?_of_mem m
 obtain ⟨e,_,g⟩:=p.2.2 j a hj
 exact Heap.lt_size g
def xa.to {h k:Heap} {rows:Array DictEntry} {J:Addr} {as:List Addr} (p:xa h rows J as) (f:∀ a o,a ∈ as->h.get? a=some o->k.get? a=some o):xa k rows J as :=
 ⟨p.1,p.2.1,λj a e=>let ⟨x,e1,g⟩:=p.2.2 j a e; ⟨x,e1,f a _ (List.mem_of_getElem? e) g⟩⟩
def xa.snoc {h:Heap} {rows:Array DictEntry} {J a:Addr} {as:List Addr} {e:DictEntry} (p:xa h rows J as) (ha:J < a) (nm:a ∉ as) (er:rows[as.length]?=some e) (g:h.get? a=some (vq e)):xa h rows J (as ++ [a]):=by
 refine ⟨λb hb=>?_,?_,λj b hj=>?_⟩
 ·rcases List.mem_append.mp hb with m | m
  ·exact p.1 b m
  ·rw [List.mem_singleton.mp m]; exact ha
 ·rw [List.nodup_append]
  refine ⟨p.2.1,by simp,λx hx y hy z=>?_⟩
  rw [List.mem_singleton.mp hy] at z
  subst z
  exact nm hx
 ·by_cases hl:j < as.length
  ·rw [List.getElem?_append_left hl] at hj
   exact p.2.2 j b hj
  ·have:j=as.length:=by
    have:=(List.getElem?_eq_some_iff.mp hj).1
    simp at this
    omega
   subst this
   have eb:a=b:=by simpa using hj
   subst eb
   exact ⟨e,er,g⟩
def Uk (acc:Array Value) (c:Nat):Obj:={ cls:=.type "list", dict:=none,data:=.seq acc c,slots:=#[] }
section
variable {prog:Program} {w:World} {A:Around} {E:Value->Shared->Prop} {s:Shared} {D J S v:Addr} {rows:Array DictEntry} {ep:Nat}
def Rb {R:Result->Shared->Prop} (hh:A.handled=none) (sj:S < J) (ds:D ≠ S) (dj:D ≠ J) (hn:rows.size <= sizeLine) {h0:Heap}
  (hR:∀ h' tk acc c as,(∀ b o,b ≠ S->b ≠ J->h0.get? b=some o->h'.get? b=some o)->h'.get? S=some (Uk acc c)->as.length=rows.size->xa h' rows J as->acc.toList=as.map Value.ref ->
   R (.ok (.ret .none)) { s with heap:=h',toks:=tk }) :
  ∀ (m i:Nat) (h:Heap) (tk c:Nat) (acc:Array Value) (as:List Addr),rows.size - i=m->i <= rows.size->RawJ h J D i rows.size ep->RawD h D rows ep->(∀ b o,b ≠ S->b ≠ J->h0.get? b=some o->h.get? b=some o) ->
   h.get? S=some (Uk acc c)->acc.toList=as.map Value.ref->as.length=i->xa h rows J as ->
   codeAny (model prog w) A (.builtin "list.extend.loop" ⟨[.ref S,.ref J,.none],[]⟩) R { s with heap:=h,toks:=tk }:=by
 have ne:S ≠ J:=Nat.ne_of_lt sj
 intro m
 induction m with
 | zero =>
  intro i h tk c acc as hm hi y x kp gS ea el pa
  have e:i=rows.size:=by omega
  subst e
  refine codeAny_builtin PySem.F.entry_extend_loop (?_:_)
  rw [Around.under_plainId PySem.F.plain_extend_loop _]
  show wpAny _ A.in1 (pyNext (.ref J) >>= _) _ _ _
  apply wpAny_bind
  refine Re (s:={ s with heap:=h,toks:=tk }) (A:=A.in1) hh y x λh' eb=>?_
  exact wpAny_pure (hR h' tk acc c as (λb o b1 b2 z=>eb b o b2 (kp b o b1 b2 z)) (eb S _ ne gS) el (pa.to λa o ma z=>eb a o (Nat.ne_of_gt (pa.1 a ma)) z) ea)
 | succ m ih =>
  intro i h tk c acc as hm hi y x kp gS ea el pa
  have lt:i < rows.size:=by omega
  obtain ⟨k,ek⟩:∃ k,rows[i]?=some k:=⟨rows[i],by simp [lt]⟩
  have az:acc.size=i:=by rw [<- Array.length_toList,ea,zLm,el]
  refine codeAny_builtin PySem.F.entry_extend_loop (?_:_)
  rw [Around.under_plainId PySem.F.plain_extend_loop _]
  show wpAny _ A.in1 (pyNext (.ref J) >>= _) _ _ _
  apply wpAny_bind
  refine Vq (s:={ s with heap:=h,toks:=tk }) y x ek λh' y' t' z' k'=>?_
  dsimp only at t' z' k' ⊢
  have gS':=k' S _ ne gS
  have lS:S < h.objs.size:=Heap.lt_size gS
  have up:∀ b o,b ≠ S->h'.get? b=some o->(h'.update S (Obj.mapSeq (·.push (Value.ref h.objs.size)))).get? b=some o:=λb o nb z=>(Heap.get?_update_other _ _ (Ne.symm nb)).trans z
  have gS2:(h'.update S (Obj.mapSeq (·.push (Value.ref h.objs.size)))).get? S=some (Uk (acc.push (Value.ref h.objs.size)) _):=Heap.get?_update_self _ gS' rfl
  show wpAny _ A.in1 (updateSeq S (·.push (Value.ref h.objs.size)) >>= _) _ _ _
  apply wpAny_bind
  refine wpAny_updateSeq gS' rfl (wpAny_pure ⟨plainId_quiet PySem.F.plain_extend_loop _,?_⟩) (by rw [az]; omega) (by show (acc.push (Value.ref h.objs.size)).size <= sizeLine + 1; rw [Array.size_push,az]; omega)
  refine ih (i + 1) _ tk _ (acc.push (Value.ref h.objs.size)) (as ++ [h.objs.size]) (by omega) lt (y'.to (λo z=>up J o (Ne.symm ne) z) λb o z=>?_) ((x.to λo z=>k' D o dj z).to λo z=>up D o ds z)
   (λb o b1 b2 z=>up b o b1 (k' b o b2 (kp b o b1 b2 z))) gS2 ?_ ?_ ?_
  ·by_cases hb:b=S
   ·subst hb; exact ⟨_,gS2⟩
   ·exact ⟨o,up b o hb z⟩
  ·rw [Array.toList_push,ea,zMa]; rfl
  ·rw [zLa,el]; rfl
  ·have pa':xa h' rows J as:=pa.to λa o ma z=>k' a o (Nat.ne_of_gt (pa.1 a ma)) z
   have pa2:=pa'.snoc (a:=h.objs.size) (e:=k) y.lt (λz=>Nat.lt_irrefl _ (pa.lt z)) (by rw [el]; exact ek) t'
   refine pa2.to λa o ma z=>up a o ?_ z
   rintro rfl
   exact Nat.lt_irrefl _ (Nat.lt_trans (pa2.1 a ma) sj)
def Rc {Q:Value->Shared->Prop} (hh:A.handled=none) (hv:s.heap.IsItemsView v D) (x:RawD s.heap D rows ep) (hn:rows.size <= sizeLine)
  (hQ:∀ h' tk acc c as,(∀ b o,s.heap.get? b=some o->h'.get? b=some o)->h'.get? s.heap.objs.size=some (Uk acc c)->as.length=rows.size->xa h' rows s.heap.objs.size as->acc.toList=as.map Value.ref ->
   Q (.ref s.heap.objs.size) { s with heap:=h',toks:=tk }):wpAny (model prog w) A (call (.type "list") [.ref v]) Q E s:=by
 refine callType_codes (Q₁:=λobj s₁=>obj=.ref s.heap.objs.size /\ s₁={ s with heap:=s.heap.push { cls:=.type "list", data:=.seq #[] } }) PySem.F.called_list (PySem.F.typeCall_list_1 _) PySem.F.entry_list_init
  (code_list_new _ ⟨rfl,rfl⟩) λobj s₁ h₁=>?_
 obtain ⟨rfl,rfl⟩:=h₁
 have hS:(s.heap.push { cls:=.type "list", data:=.seq #[] }).get? s.heap.objs.size=some { cls:=.type "list", data:=.seq #[] }:=Heap.get?_push_size _ rfl
 have lv:v < s.heap.objs.size:=by obtain ⟨o,e,_⟩:=hv; exact Heap.lt_size e
 have ld:D < s.heap.objs.size:=x.lt
 refine ⟨⟨_,hS,rfl⟩,PySem.F.args_list_init_2 _ _,?_⟩
 show wpAny _ _ (do let old <- Builtin.List.listItems (.ref s.heap.objs.size); Builtin.List.listUpdate (.ref s.heap.objs.size) (λ_=>#[]); letGo old.toList.reverse; Builtin.List.listExtendWith (.ref s.heap.objs.size) (.ref v) .none) _ _ _
 apply wpAny_bind
 unfold Builtin.List.listItems
 apply wpAny_bind
 refine wpAny_seqItems hS rfl (wpAny_pure (?_:_))
 show wpAny _ _ (updateSeq s.heap.objs.size (λ_=>#[]) >>= λ_=>letGo (#[]:Array Value).toList.reverse >>= λ_=>Builtin.List.listExtendWith (.ref s.heap.objs.size) (.ref v) .none) _ _ _
 apply wpAny_bind
 refine wpAny_updateSeq hS rfl (?_:_)
 have hS₂:=Heap.get?_update_self (Obj.mapSeq (λ_=>(#[]:Array Value))) hS rfl
 have oth:∀ b o,s.heap.get? b=some o->((s.heap.push { cls:=.type "list", data:=.seq #[] }).update s.heap.objs.size (Obj.mapSeq (λ_=>(#[]:Array Value)))).get? b=some o :=
  λb o e=>(Heap.get?_update_other _ _ (Nat.ne_of_gt (Heap.lt_size e))).trans (Heap.get?_push_of_some _ e)
 have zS:((s.heap.push { cls:=.type "list", data:=.seq #[] }).update s.heap.objs.size (Obj.mapSeq (λ_=>(#[]:Array Value)))).objs.size=s.heap.objs.size + 1:=by
  rw [(Heap.SameBut.update ..).1,Heap.size_push]
 apply wpAny_bind; refine wpAny_letGo (?_:_)
 have hv2:((s.heap.push { cls:=.type "list", data:=.seq #[] }).update s.heap.objs.size (Obj.mapSeq (λ_=>(#[]:Array Value)))).IsItemsView v D:=by obtain ⟨o,e,r⟩:=hv; exact ⟨o,oth v o e,r⟩
 have x2:=x.to λo e=>oth D o e
 generalize (s.heap.push { cls:=.type "list", data:=.seq #[] }).update s.heap.objs.size (Obj.mapSeq (λ_=>(#[]:Array Value)))=g at *
 unfold Builtin.List.listExtendWith
 apply wpAny_bind
 refine wpAny_typeOf (T:="dict_items") hv2.typeIs (?_:_)
 have h1:Builtin.List.listSameRef (.ref s.heap.objs.size) (.ref v)=false:=by simp [Builtin.List.listSameRef,Nat.ne_of_gt lv]
 simp only [h1,show (Value.type "dict_items" == Value.type "list")=false by decide,show (Value.type "dict_items" == Value.type "tuple")=false by decide,Bool.or_false,Bool.false_eq_true,if_false]
 apply wpAny_bind
 refine Xp hv2 x2 (?_:_)
 apply wpAny_bind; apply wpAny_holding
 refine kdx_hint (let ⟨o,e,c,_⟩:=hv2; ⟨o,Heap.get?_push_of_some _ e,c⟩) (?_:_)
 have goal:∀ (h:Heap) (c:Nat),(∀ b o,b ≠ s.heap.objs.size->(g.push (uz D 0 rows.size ep .none (.bool false) .none .none)).get? b=some o->h.get? b=some o)->h.get? s.heap.objs.size=some (Uk #[] c) ->
   codeAny (model prog w) A.in1 (.builtin "list.extend.loop" ⟨[.ref s.heap.objs.size,.ref g.objs.size,.none],[]⟩) (wants (λr s₂=>r=Value.none /\ Q (Value.ref s.heap.objs.size) s₂) E) { s with heap:=h,toks:=s.toks }:=λh c hk hS3=>by
  have nj:g.objs.size ≠ s.heap.objs.size:=by rw [zS]; exact Nat.succ_ne_self _
  refine Rb (s:=s) (h0:=s.heap) (A:=A.in1) hh (S:=s.heap.objs.size) (J:=g.objs.size) (D:=D) (rows:=rows) (ep:=ep) (by rw [zS]; exact Nat.lt_succ_self _) (Nat.ne_of_lt ld) (by rw [zS]; exact Nat.ne_of_lt (Nat.lt_succ_of_lt ld)) hn (λh' tk acc c as kp gS el pa ea=>?_) rows.size 0 _ _ _ #[] [] (Nat.sub_zero _) (Nat.zero_le _)
   ⟨_,_,_,_,hk _ _ nj (Heap.get?_push_size _ rfl),.inl ⟨rfl,rfl⟩⟩ (x2.to λo e=>hk D o (Nat.ne_of_lt ld) (Heap.get?_push_of_some _ e)) (λb o b1 _ e=>hk b o b1 (Heap.get?_push_of_some _ (oth b o e))) hS3 rfl rfl ⟨(λ_ z=>nomatch z),List.nodup_nil,λj a e=>by simp at e⟩
  exact ⟨rfl,hQ h' tk acc c as (λb o e=>kp b o (Nat.ne_of_lt (Heap.lt_size e)) (by rw [zS]; exact Nat.ne_of_lt (Nat.lt_succ_of_lt (Heap.lt_size e))) e) gS el ⟨λa ma=>Nat.lt_trans (by rw [zS]; exact Nat.lt_succ_self _) (pa.1 a ma),pa.2⟩ ea⟩
 have hS1:=Heap.get?_push_of_some (uz D 0 rows.size ep .none (.bool false) .none .none) hS₂
 refine wpAny_ite_split (λ_=>?_) (λ_=>wpAny_pure ⟨plainId_quiet PySem.F.plain_extend_loop _,goal _ _ (λb o _ e=>e) hS1⟩)
 apply wpAny_bind; apply wpAny_rule
 apply wpAny_bind
 show wpAny _ _ (updateSeq s.heap.objs.size (·.push .none) >>= λ_=>updateSeq s.heap.objs.size (·.pop)) _ _ _
 apply wpAny_bind
 refine wpAny_updateSeq hS1 rfl (?_:_)
 have hS3:=Heap.get?_update_self (Obj.mapSeq (·.push Value.none)) hS1 rfl
 refine wpAny_updateSeq (hz:=by seq_fits) hS3 rfl (?_:_)
 have hS4:=Heap.get?_update_self (Obj.mapSeq (·.pop)) hS3 rfl
 refine wpAny_pure ⟨plainId_quiet PySem.F.plain_extend_loop _,goal _ _ (λb o hb e=>?_) hS4⟩
 exact (Heap.get?_update_other _ _ (Ne.symm hb)).trans ((Heap.get?_update_other _ _ (Ne.symm hb)).trans e)
end
def updM (H:Hp):List (Addr × HO)->Hp
 | []=>H
 | p :: ps=>upd (updM H ps) p.1 p.2
def ja {H:Hp} {b:Addr}:∀ {ps:List (Addr × HO)},b ∉ ps.map Prod.fst->updM H ps b=H b
 | [],_=>rfl
 | p :: ps,h=>by
  rw [List.map_cons,List.mem_cons,not_or] at h
  rw [updM,zi h.1]
  exact ja h.2
def t7 {H:Hp}:∀ {ps:List (Addr × HO)} {p:Addr × HO},(ps.map Prod.fst).Nodup->p ∈ ps->updM H ps p.1=some p.2
 | [],_,_,h=>nomatch h
 | q :: ps,p,nd,h=>by
  rw [List.map_cons,List.nodup_cons] at nd
  rcases List.mem_cons.mp h with rfl | h
  ·exact zg
  ·rw [updM,zi]
   ·exact t7 nd.2 h
   ·intro z
    exact nd.1 (z ▸ List.mem_map_of_mem h)
section
variable {X:Cx} {pn:List (Addr × Obj)} {σ:St} {H:Hp} {s:Shared} {h':Heap}
def gs {ps:List (Addr × HO)} (I:Inv X pn σ H s) (hp:∀ p ∈ ps,s.heap.objs.size <= p.1):Same H (updM H ps):=λb u e=>by
 rw [ja]
 ·exact e
 ·intro hm
  obtain ⟨p,mp,ep⟩:=List.mem_map.mp hm
  have h1:s.heap.objs.size <= p.1:=hp p mp
  have h2:b < s.heap.objs.size:=I.hok.lt e
  rw [ep] at h1
  exact absurd h2 (Nat.not_lt.mpr h1)
def Inv.laidM {ps:List (Addr × HO)} {t':Nat} (I:Inv X pn σ H s) (k:∀ b u,s.heap.get? b=some u->h'.get? b=some u) (nd:(ps.map Prod.fst).Nodup) (hp:∀ p ∈ ps,s.heap.objs.size <= p.1)
  (new:∀ p ∈ ps,ye X.prog X.w (updM H ps) h' p.1 p.2):Inv X pn σ (updM H ps) { s with heap:=h',toks:=t' }:=by
 have same:=gs I hp
 refine I.un ⟨λb u q _ _ _=>k b u q,λb u q _ _ _=>⟨u.slots,k b u q⟩,λb u q n _=>?_,λb u q _=>⟨u,k b u q⟩,λb xs q=>same _ _ q,λb o u q=>same _ _ q,λb qs q=>⟨#[],by rw [same _ _ q]; simp⟩⟩ λb u e=>?_
 ·rw [ja]
  ·exact n
  ·intro hm
   obtain ⟨p,mp,ep⟩:=List.mem_map.mp hm
   have h1:s.heap.objs.size <= p.1:=hp p mp
   have h2:b < s.heap.objs.size:=Heap.lt_size q
   rw [ep] at h1
   exact absurd h2 (Nat.not_lt.mpr h1)
 ·by_cases hb:b ∈ ps.map Prod.fst
  ·obtain ⟨p,mp,rfl⟩:=List.mem_map.mp hb
   rw [t7 nd mp] at e
   cases e
   exact new p mp
  ·rw [ja hb] at e
   exact (I.hok b u e).stay (λc o _ q=>k c o q) (λc q=>same _ _ q) λc xs q=>same _ _ q
def Tt {a:Addr} {kvs:List (List Key × V)} (I:Inv X pn σ H s) (ha:H a=some (.dT kvs)) :
  ∃ (rows:Array DictEntry) (ep:Nat),RawD s.heap a rows ep /\ (a == sysModules)=false /\ rows.size=kvs.length /\ kvs.length <= sizeLine /\
   ∀ (i:Nat) kv,kvs[i]?=some kv->∃ e b,rows[i]?=some e /\ e.key=.ref b /\ H b=some (.tup (kv.1.map kV)) /\ RelV kv.2 e.val:=by
 obtain ⟨z,nb,xs,r,o,es,ep,g,c,d,et,nd⟩:=(show ye X.prog X.w H s.heap a (.dT kvs) from I.hok a _ ha)
 have key:∀ {l:List (List Key × V)} {m:List (List Key × Addr × Value)},Paired (λ(p:List Key × V) (q:List Key × Addr × Value)=>p.1=q.1 /\ H q.2.1=some (.tup (p.1.map kV)) /\ RelV p.2 q.2.2) l m ->
   l.length=m.length /\ ∀ (i:Nat) kv,l[i]?=some kv->∃ q,m[i]?=some q /\ H q.2.1=some (.tup (kv.1.map kV)) /\ RelV kv.2 q.2.2:=by
  intro l m t
  induction t with
  | nil=>exact ⟨rfl,λi kv e=>by simp at e⟩
  | @cons p q ps qs hq t ih =>
   refine ⟨by simp [ih.1],λi kv e=>?_⟩
   cases i with
   | zero =>
    have a1:p=kv:=by simpa using e
    subst a1
    exact ⟨q,by simp,hq.2.1,hq.2.2⟩
   | succ i =>
    obtain ⟨q',e1,e2⟩:=ih.2 i kv (by simpa using e)
    exact ⟨q',by simpa using e1,e2⟩
 obtain ⟨k1,k2⟩:=key r
 have hsz:es.size=kvs.length:=by rw [<- Array.length_toList,et,zLm,k1]
 refine ⟨es,ep,⟨o,g,c,d⟩,nb,hsz,z,λi kv e=>?_⟩
 obtain ⟨q,e1,e2,e3⟩:=k2 i kv e
 refine ⟨entryOfKey (tupleKind (zv X.prog X.w)) q,q.2.1,?_,rfl,e2,e3⟩
 rw [<- Array.getElem?_toList,et,List.getElem?_map,e1]
 rfl
end
def Wx (r a:Addr):HO:=.ext λh=>h.IsItemsView r a
section
variable {X:Cx}
def qy (hc:X.calm=true):w5 X (.type "list") (λxs H Q=>∃ r a kvs,xs=[.ref r] /\ H r=some (Wx r a) /\ H a=some (.dT kvs) /\
  ∀ (l:Addr) (H':Hp) (as:List Addr),Same H H'->H l=none->H' l=some (.lst (as.map V.ref))->as.length=kvs.length ->
   (∀ (j:Nat) b,as[j]?=some b->∃ c kv,kvs[j]?=some kv /\ H c=some (.tup (kv.1.map kV)) /\ H' b=some (.tup [.ref c,kv.2]))->Q (.ref l) H'):=by
 intro pn s σ H xs us Q I r h
 obtain ⟨r0,a,kvs,rfl,hr,ha,q⟩:=h
 obtain ⟨u,rfl,ru⟩:=ux r
 cases ru
 obtain ⟨rows,ep,rd,nb,sz,z,kb⟩:=Tt I ha
 obtain ⟨hv,_⟩:=(show ye X.prog X.w H s.heap r0 (Wx r0 a) from I.hok r0 _ hr)
 refine Rc (I.ok.hd hc) hv rd (by omega) λh' tk acc c as keep gS el pa ea=>?_
 have ix:∀ (j:Nat) b,as[j]?=some b->∃ e c kv,kvs[j]?=some kv /\ H c=some (.tup (kv.1.map kV)) /\ e.key=.ref c /\ RelV kv.2 e.val /\ h'.get? b=some (vq e):=λj b ej=>by
  obtain ⟨e,er,g⟩:=pa.2.2 j b ej
  have hj:=(List.getElem?_eq_some_iff.mp ej).1
  obtain ⟨kv,ekv⟩:∃ kv,kvs[j]?=some kv:=⟨kvs[j]'(by omega),by simp⟩
  obtain ⟨e',c,er',k1,k2,k3⟩:=kb j kv ekv
  rw [er] at er'
  cases er'
  exact ⟨e,c,kv,ekv,k2,k1,k3,g⟩
 obtain ⟨f,hf⟩:∃ f:Addr->Addr × (List Key × V),∀ (j:Nat) b,as[j]?=some b->∃ e,kvs[j]?=some (f b).2 /\ H (f b).1=some (.tup ((f b).2.1.map kV)) /\ e.key=.ref (f b).1 /\ RelV (f b).2.2 e.val /\ h'.get? b=some (vq e):=by
  have:∀ b:Addr,∃ p:Addr × (List Key × V),∀ (j:Nat),as[j]?=some b->∃ e,kvs[j]?=some p.2 /\ H p.1=some (.tup (p.2.1.map kV)) /\ e.key=.ref p.1 /\ RelV p.2.2 e.val /\ h'.get? b=some (vq e):=λb=>by
   by_cases hb:b ∈ as
   ·obtain ⟨j,ej⟩:=List.getElem?_of_mem hb
    obtain ⟨e,c,kv,t1,t2,t3,t4,t5⟩:=ix j b ej
    refine ⟨(c,kv),λj' ej'=>?_⟩
    have:j'=j:=by
     obtain ⟨l1,e1⟩:=List.getElem?_eq_some_iff.mp ej'
     obtain ⟨l2,e2⟩:=List.getElem?_eq_some_iff.mp ej
     exact (List.getElem_inj pa.2.1).mp (e1.trans e2.symm)
    subst this
    exact ⟨e,t1,t2,t3,t4,t5⟩
   ·exact ⟨(0,([],.non)),λj ej=>absurd (List.mem_of_getElem? ej) hb⟩
  exact ⟨λb=>(this b).choose,λj b ej=>(this b).choose_spec j ej⟩
 have nd:((((s.heap.objs.size:Addr),HO.lst (as.map V.ref)) :: as.map λb=>(b,HO.tup [V.ref (f b).1,(f b).2.2])).map Prod.fst).Nodup:=by
  rw [List.map_cons,List.map_map,List.nodup_cons]
  have e1:as.map (Prod.fst ∘ λb=>(b,HO.tup [V.ref (f b).1,(f b).2.2]))=as:=by
   rw [show (Prod.fst ∘ λb=>(b,HO.tup [V.ref (f b).1,(f b).2.2]))=id from rfl,List.map_id]
  rw [e1]
  exact ⟨λm=>Nat.lt_irrefl _ (pa.1 _ m),pa.2.1⟩
 have hp:∀ p ∈ ((s.heap.objs.size:Addr),HO.lst (as.map V.ref)) :: as.map (λb=>(b,HO.tup [V.ref (f b).1,(f b).2.2])),s.heap.objs.size <= p.1:=λp mp=>by
  rcases List.mem_cons.mp mp with rfl | mp
  ·exact Nat.le_refl _
  ·obtain ⟨b,mb,rfl⟩:=List.mem_map.mp mp
   exact Nat.le_of_lt (pa.1 b mb)
 have lf:H s.heap.objs.size=none:=I.hok.fresh (Nat.le_refl _)
 have I2:=I.laidM (t':=tk) keep nd hp (λp mp=>by
  rcases List.mem_cons.mp mp with rfl | mp
  ·refine (show ye X.prog X.w _ h' _ (.lst _) from ⟨by rw [zLm]; omega,acc.toList,c,by rw [ea]; exact gn as,?_⟩)
   rw [Array.toArray_toList]
   exact gS
  ·obtain ⟨b,mb,rfl⟩:=List.mem_map.mp mp
   obtain ⟨j,ej⟩:=List.getElem?_of_mem mb
   obtain ⟨e,t1,t2,t3,t4,t5⟩:=hf j b ej
   refine (show ye X.prog X.w _ h' b (.tup [V.ref (f b).1,(f b).2.2]) from ⟨by rw [sizeLine_eq]; show (2:Nat) <= _; decide,[e.key,e.val],.cons (by rw [t3]; exact rfl) (.cons t4 .nil),⟨_,t5,rfl,_,rfl⟩,_,t5,rfl⟩))
 refine ⟨.ref s.heap.objs.size,_,I2,rfl,q _ _ as (gs I hp) lf (t7 nd List.mem_cons_self) (by rw [el,sz]) λj b ej=>?_⟩
 obtain ⟨e,t1,t2,t3,t4,t5⟩:=hf j b ej
 exact ⟨(f b).1,(f b).2,t1,t2,t7 (p:=(b,HO.tup [V.ref (f b).1,(f b).2.2])) nd (List.mem_cons_of_mem _ (List.mem_map.mpr ⟨b,List.mem_of_getElem? ej,rfl⟩))⟩
def Rx:MtR X "dict.items" (λx xs H Q=>∃ a kvs,x=.ref a /\ xs=[] /\ H a=some (.dT kvs) /\ ∀ r,H r=none->Q (.ref r) (upd H r (Wx r a))):=by
 intro pn s σ H x xs v us Q I rx rs h
 obtain ⟨a,kvs,rfl,rfl,ha,q⟩:=h
 cases rx
 cases rs
 obtain ⟨rows,ep,rd,nb,sz,z,kb⟩:=Tt I ha
 refine R9 nb rd ?_
 have g:(s.heap.push { cls:=.type "dict_items", data:=.fields #[.ref a] }).get? s.heap.objs.size=some { cls:=.type "dict_items", data:=.fields #[.ref a] }:=Heap.get?_push_size _ rfl
 refine ⟨.ref s.heap.objs.size,_,I.laid (t':=s.toks) (λb u e=>Heap.get?_push_of_some _ e) (Nat.le_refl _) ?_,rfl,q _ (I.hok.fresh (Nat.le_refl _))⟩
 refine (show ye X.prog X.w _ _ _ (Wx _ a) from ⟨⟨_,g,rfl,rfl⟩,⟨_,g⟩,λh1 h2 p k=>?_⟩)
 obtain ⟨o,e,r⟩:=p
 exact ⟨o,k o e,r⟩
def Wy:typeOf (.builtin "dict.items")=pure (.type "method_descriptor"):=by kernel_rfl
end
end L2
namespace DL
open PySem PySem.Spec L2 L3
open PyProof.Rows hiding St
variable {Γ:Hp->Prop}
def ku (ks:List TK) (ds:List D):List D:=(ks.zip ds).map λp=>.tup [tkD p.1,p.2]
def km {K:W.Frag} {H H':Hp} {O O':List Addr} (g:Grow O O' H H'):∀ {ks:List TK} {ds:List D} {xs:List V} {as:List Addr},Reps K H O ds xs->ks.length=ds.length->as.length=ks.length ->
  (∀ (j:Nat) b,as[j]?=some b->∃ c kv,(ks.zip xs)[j]?=some kv /\ H c=some (.tup (kv.1.map kV)) /\ H' b=some (.tup [.ref c,kv.2]))->Reps K H' O' (ku ks ds) (as.map V.ref)
 | [],ds,xs,as,_,_,la,_=>by
  cases as with
  | nil=>rfl
  | cons _ _=>simp at la
 | k :: ks,[],_,_,_,l,_,_=>by simp at l
 | k :: ks,d :: ds,xs,[],_,_,la,_=>by simp at la
 | k :: ks,d :: ds,xs,a :: as,r,l,la,h=>by
  obtain ⟨v,r',rfl,q,t⟩:=r
  obtain ⟨c,kv,e1,e2,e3⟩:=h 0 a (by simp)
  have:(k,v)=kv:=by simpa using e1
  subst this
  refine ⟨.ref a,as.map V.ref,rfl,⟨a,_,rfl,⟨SqT.of e3,e3⟩,.ref c,[v],rfl,Lx (g.tups _ _ e2),v,[],rfl,Rep.grow g _ _ q,rfl⟩,?_⟩
  exact km g t (by simpa using l) (by simpa using la) λj b ej=>h (j + 1) b (by simpa using ej)
section
variable {X:Cx} {o:Expr} {td:TD} {p apos cpos pos:Pos}
def O0 (td:TD):TD:=λρ φ=>td ρ λr=>match r.d with
 | .dt ks ds=>φ (df (.lst (ku ks ds)))
 | _=>False
def cx (hm:X.mg "list" = none) (ho:ED Γ X o td) (hc:X.calm=true:=by rfl) (hg:Gl X "list":=by rfl)
  (hbase:attributeBase o "items" X.env (eval o X.env)=eval o X.env:=by rfl) (hline:(apos.endLine == cpos.line)=true:=by rfl)
  (he:starEach [.Call (.Attribute o "items" apos) [] [] cpos] X.env=(false,eval (.Call (.Attribute o "items" apos) [] [] cpos) X.env) :: starEach [] X.env:=by rfl) (hpl:(backTo pos (starEach [] X.env)).any (·.1)=false:=by rfl) :
  ED Γ X (.Call (.Name "list" p) [.Call (.Attribute o "items" apos) [] [] cpos] [] pos) (O0 td):=λH₀ =>
 impE (fi (qy hc) hg hm Wo (xi (Kl PySem.F.plainAttrs_dict PySem.F.slot_dict_items Wy Rx (ho H₀) hbase hline) uq he) (by decide) (by decide) he hpl) λσ H Q q=>by
  obtain ⟨ρ,oo,R,φ,hφ,kk⟩:=q
  refine ⟨ρ,oo,R,_,hφ,λv r H1 s1 rv h1=>?_⟩
  obtain ⟨kd,d⟩:=r
  cases d with
  | dt ks ds =>
   obtain ⟨a,xs,rfl,q,l,nd,rp⟩:=rv.view
   refine ⟨.inr (.inr (.inl ⟨rfl,.inr ⟨_,q⟩⟩)),a,_,rfl,rfl,q,λr hr=>?_⟩
   show ∃ r' a' kvs,[V.ref r]=[V.ref r'] /\ _
   have hne:a ≠ r:=zf q hr
   refine ⟨r,a,_,rfl,zg,(by rw [zi hne]; exact q),λlst H' as sm hl el la hp=>?_⟩
   have sm1:=zo hr (Wx r a)
   have sm':Same H1 H':=sm1.trans sm
   have fl:H1 lst=none:=sm1.free hl
   have fl0:lst ∉ oo.map Prod.snd:=R.ofree (s1.free fl)
   have g:Grow (oo.map Prod.snd) (lst :: oo.map Prod.snd) H1 H':=⟨λb u h n=>⟨sm' b u h,λz=>(List.mem_cons.mp z).elim (λe=>zf h fl e) n⟩,λb xs h=>sm' b _ h,λb ob u h=>sm' b _ h⟩
   refine kk (.ref lst) (df (.lst (ku ks ds))) H' (s1.trans sm') ⟨lst,rfl,s1.free fl,fl0,as.map V.ref,el,?_⟩ h1
   refine km g rp l (by rw [la,List.length_zip,rp.length,l,Nat.min_self]) λj b ej=>?_
   obtain ⟨c,kv,e1,e2,e3⟩:=hp j b ej
   refine ⟨c,kv,e1,?_,e3⟩
   by_cases hcr:c=r
   ·subst hcr
    rw [zg] at e2
    cases e2
   ·rw [zi hcr] at e2
    exact e2
  | _=>exact h1.elim
end
end DL
namespace LQ
open PySem PySem.Spec L2 L3
open PyProof.Rows hiding St
def dd (l:List Str) (k:Str):List Str:=if k ∈ l then l else l ++ [k]
def many (l:List Str):Nat:=(l.foldl dd []).length
section
variable {X:Cx}
def valsStr:∀ {ns:List Str} {us:List Value},Vals (ns.map V.str) us->∀ (i:Nat) (v:Value),us[i]?=some v->∃ t,v=.str (ns.getD i "") t
 | [],_,.nil,i,v,e=>by simp at e
 | n :: ns,_,.cons r t,0,v,e=>by
  obtain ⟨t',rfl⟩:=r
  simp at e
  exact ⟨t',by rw [<- e]; rfl⟩
 | n :: ns,_,.cons r t,i + 1,v,e=>by
  obtain ⟨t',q⟩:=valsStr (ns:=ns) t i v (by simpa using e)
  exact ⟨t',by rw [q]; rfl⟩
end
end LQ
namespace L2
open PySem PySem.Spec PyProof.Rows
section
variable {prog:Program} {w:World} {A:Around} {E:Value->Shared->Prop} {s:Shared}
def V1 {l:Addr} {ob:Obj} {its:Array Value} {n:Nat} {x:Value} {f:Value->Bool} {j:Nat} {Q:Value->Shared->Prop} (g:s.heap.get? l=some ob) (hcl:ob.cls=.type "tuple") (hd:ob.data=.seq its n) (he:∀ y ∈ its,MeetsSeq.EqGives y x (f y)) (hj:j < its.size) (hit:f its[j]=true) (hno:∀ m (hm:m < its.size),m < j->f its[m]=false)
  (h:Q (.int j s.toks) { s with toks:=s.toks + 1 }):wpAny (model prog w) A (call (.builtin "tuple.index") [.ref l,x]) Q E s:=by
 refine wpAny_call_entry PySem.F.slot_tuple_index ⟨ob,g,hcl⟩ PySem.F.entry_tuple_index (?_:_) (PySem.F.args_tuple_index_2 _ _)
 unfold Builtin.«tuple.index»
 refine wpAny_bind (wpAny_of_eq (a:=(Value.ref l,[x])) rfl ?_)
 apply wpAny_bind
 unfold Builtin.Tuple.tupleItemsOf
 apply wpAny_bind
 refine wpAny_seqItems g hd (wpAny_pure (?_:_))
 try dsimp only
 apply wpAny_bind; apply wpAny_pure
 apply wpAny_bind; apply wpAny_pure
 apply wpAny_bind
 rw [Std.Legacy.Range.forIn_eq_forIn_range']
 simp only [Std.Legacy.Range.size,Nat.sub_zero,Nat.add_sub_cancel,Nat.div_one,Nat.min_self]
 refine wpAny_forIn_list _ (λrest b s'=>b.1=none /\ s'=s /\ ∃ i,rest=List.range' i (its.size - i) /\ i <= j) _ ?_ ?_ _ _ ⟨rfl,rfl,0,by simp,Nat.zero_le _⟩
 ·rintro y rest b s' ⟨hb,rfl,i,er,hi⟩
  have hlt:i < its.size:=by omega
  obtain ⟨rfl,hrest⟩:y=i /\ rest=List.range' (i + 1) (its.size - (i + 1)):=by
   have e:its.size - i=(its.size - (i + 1)) + 1:=by omega
   rw [e,List.range'_succ] at er
   injection er with h1 h2
   exact ⟨h1,h2⟩
  rw [Array.getElem?_eq_getElem hlt]
  dsimp only
  apply wpAny_bind
  refine he _ (Array.getElem_mem hlt) prog w _ _ _ _ ?_
  by_cases ej:y=j
  ·subst ej
   rw [hit,if_pos rfl]
   apply wpAny_bind
   unfold retInt
   apply wpAny_bind
   refine wpAny_mkInt (wpAny_pure (wpAny_pure (wpAny_pure ⟨_,rfl,h⟩)))
  ·rw [hno y hlt (by omega),if_neg (by decide)]
   exact wpAny_pure ⟨rfl,rfl,y + 1,hrest,by omega⟩
 ·rintro b s' ⟨hb,rfl,i,er,hi⟩
  exfalso
  have e:its.size - i=(its.size - (i + 1)) + 1:=by omega
  rw [e,List.range'_succ] at er
  cases er
end
section
variable {X:Cx} {o e:Expr} {to te:TE} {apos cpos:Pos}
def Hx (z:Str):Value->Bool
 | .str a _=>decide (a=z)
 | _=>false
def Ld (to te:TE):TE:=λσ H Q=>to σ H λx H1=>∃ a,x=.ref a /\ (∃ xs,H1 a=some (.tup xs)) /\ te σ H1 λy H2=>∃ (ns:List Str) (z:Str),H2 a=some (.tup (ns.map V.str)) /\ y=.str z /\ z ∈ ns /\ Q (.int (ns.idxOf z:Nat)) H2
def U1 (ho:PE X o to) (he:PE X e te) (m:M1 X o "index" apos e cpos):PE X (.Call (.Attribute o "index" apos) [e] [] cpos) (Ld to te):=by
 intro pn s σ H Q I h
 refine wpAny_Call_method m.base m.few m.line PySem.F.plainAttrs_tuple PySem.F.slot_tuple_index PySem.F.type_tuple_index (thn (ho pn s σ H _ I h) λu s1 ⟨x,H1,I1,rx,a,ex,⟨xs,hx⟩,q1⟩=>?_)
 subst ex
 obtain rfl:u=Value.ref a:=rx
 obtain ⟨z1,its1,r1,⟨ob1,g1,c1,d1⟩,od,gd,cd⟩:=(show ye X.prog X.w H1 s1.heap a (.tup xs) from I1.hok a _ hx)
 refine ⟨⟨ob1,g1,c1⟩,λb eb=>by cases eb; exact ⟨od,gd,cd⟩,?_⟩
 rw [m.trees]
 refine Calls.callWith_builtin rfl (Calls.evalArgs_plain (Calls.spliced_cons (thn (he pn s1 σ H1 _ I1 q1) λiv s2 ⟨y,H2,I2,ry,ns,z,hn,ey,mz,q2⟩=>Calls.spliced_nil ?_)))
 subst ey
 obtain ⟨t,rfl⟩:=ry
 obtain ⟨z2,its,rv,⟨ob,g,c,k,d⟩,_⟩:=(show ye X.prog X.w H2 s2.heap a (.tup (ns.map V.str)) from I2.hok a _ hn)
 have hl:its.length=ns.length:=by have:=rv.length; rw [zLm] at this; exact this.symm
 have at':∀ i (hi:i < its.toArray.size),∃ t',its.toArray[i]=.str (ns.getD i "") t':=λi hi=>LQ.valsStr rv i _ (by simp at hi; simp [hi])
 have hj:ns.idxOf z < its.toArray.size:=by rw [List.size_toArray,hl]; exact List.idxOf_lt_length_of_mem mz
 refine V1 (f:=Hx z) (j:=ns.idxOf z) g c d (λy my=>?_) hj ?_ (λi hi hlt=>?_) ⟨.int (ns.idxOf z:Nat),H2,I2.tok _,⟨_,rfl⟩,q2⟩
 ·obtain ⟨i,hi,rfl⟩:=Array.getElem_of_mem my
  obtain ⟨t',e'⟩:=at' i hi
  rw [e']
  exact λ_ _ _ _ _ _ h=>wpAny_eqBool_str h
 ·obtain ⟨t',e'⟩:=at' _ hj
  rw [e']
  show decide _=true
  have hk:ns.idxOf z < ns.length:=List.idxOf_lt_length_of_mem mz
  rw [List.getD_eq_getElem?_getD,List.getElem?_eq_getElem hk,List.getElem_idxOf hk]
  simp
 ·obtain ⟨t',e'⟩:=at' _ hi
  rw [e']
  show decide _=false
  have hk:i < ns.length:=by rw [List.size_toArray,hl] at hi; exact hi
  rw [List.getD_eq_getElem?_getD,List.getElem?_eq_getElem hk]
  have:=List.not_of_lt_findIdx (p:=λx=>x == z) (xs:=ns) (i:=i) (by simpa [List.idxOf] using hlt)
  simpa using this
end
end L2
namespace DL
open PySem PySem.Spec L2 L3
open PyProof.Rows hiding St
variable {Γ:Hp->Prop}
def ki {K:W.Frag} {H:Hp} {O:List Addr}:∀ {ns:List Str} {xs:List V},Reps K H O (ns.map D.str) xs->xs=ns.map V.str
 | [],_,h=>h
 | n :: ns,xs,h=>by
  obtain ⟨v,r,rfl,q,t⟩:=h
  cases (show v=_ from q)
  rw [ki t]
  rfl
section
variable {X:Cx} {o e:Expr} {td te:TD} {apos cpos:Pos}
def O1 (td te:TD):TD:=λρ φ=>td ρ λx=>match x.d with
 | .tup ds=>te ρ λy=>(match y.d with
  | .str z=>∃ ns:List Str,ds=ns.map D.str /\ z ∈ ns /\ φ (dv (.int (ns.idxOf z:Nat)))
  | _=>False)
 | _=>False
def Qp (ho:ED Γ X o td) (he:ED Γ X e te) (m:M1 X o "index" apos e cpos:=by exact ⟨rfl,rfl,rfl,rfl⟩):ED Γ X (.Call (.Attribute o "index" apos) [e] [] cpos) (O1 td te):=λH₀ =>
 impE (U1 (ho H₀) (he H₀) m) λσ H Q q=>by
  obtain ⟨ρ,oo,R,φ,hφ,kk⟩:=q
  refine ⟨ρ,oo,R,_,hφ,λv r H1 s1 rv h1=>?_⟩
  obtain ⟨kd,d⟩:=r
  cases d with
  | tup ds =>
   obtain ⟨a,xs,rfl,q,rp⟩:=rv.view
   refine ⟨a,rfl,⟨_,q.2⟩,ρ,oo,R.to s1,_,h1,λv2 r2 H2 s2 rv2 h2=>?_⟩
   obtain ⟨kd2,d2⟩:=r2
   cases d2 with
   | str z =>
    obtain ⟨ns,rfl,mz,h2⟩:=h2
    cases ki rp
    have ev:v2=.str z:=rv2.view
    exact ⟨ns,z,s2 _ _ q.2,ev,mz,kk _ (dv (.int (ns.idxOf z:Nat))) H2 (s1.trans s2) (by exact rfl) h2⟩
   | _=>exact h2.elim
  | _=>exact h1.elim
end
def cstD:Cst->D
 | .int i=>.int i
 | .str x=>.str x
 | .tup cs=>.cn (.tup cs)
section
variable {K:W.Frag} {H:Hp} {O:List Addr}
def Oz:∀ {c:Cst} {v:V},CRep K c v->Rep K H O (cstD c) v
 | .int _,_,h=>h
 | .str _,_,h=>h
 | .tup _,_,h=>h
def Yg:∀ {cs:List Cst} {xs:List V},Ws K cs xs->Reps K H O (cs.map cstD) xs
 | [],_,h=>h
 | c :: cs,xs,h=>by
  obtain ⟨v,r,e,q,t⟩:=h
  exact ⟨v,r,e,Oz q,Yg t⟩
def O4 {cs:List Cst} {v:V} (h:CRep K (.tup cs) v):∃ a xs,v=.ref a /\ SqT K H a xs /\ Ws K cs xs:=by
 obtain ⟨a,o,its,n,xs,e,l,c,d,z,r,t⟩:=h
 exact ⟨a,xs,e,.inr ⟨o,its,n,l,c,d,z,r⟩,t⟩
def j5:∀ ws:List Str,Ws K (ws.map Cst.str) (ws.map V.str)
 | []=>rfl
 | w :: ws=>⟨_,_,rfl,rfl,j5 ws⟩
def b7:∀ {cs:List Cst} {xs:List V},Ws K cs xs->xs.length=cs.length
 | [],_,h=>by cases (show _=[] from h); rfl
 | c :: cs,xs,h=>by
  obtain ⟨v,r,e,q,t⟩:=h
  subst e
  simp [b7 t]
end
def Yt {K:W.Frag} {mg:Str->Option Value} {x:Str} {a:Addr} {o:Obj} {its:Array Value} {n:Nat} {ws:List Str} (hm:mg x=some (.ref a)) (hl:K.lookup a=some o) (hc:o.cls=.type "tuple") (hd:o.data=.seq its n) (hs:its.size <= sizeLine) (hv:Vals (ws.map V.str) its.toList) :
  GC K mg x (.cn (.tup (ws.map Cst.str))):=⟨.ref a,.ref a,hm,rfl,λ_ _=>⟨a,o,its,n,_,rfl,hl,hc,hd,hs,hv,j5 ws⟩⟩
def P1 (ws:List Str):(ws.map Cst.str).map cstD=ws.map D.str:=by
 rw [List.map_map]
 rfl
section
variable {X:Cx} {tg e:Expr} {es:List Expr} {te:TD} {t:TDs} {p pos:Pos}
def iCn (te:TD):TID:=λρ φ=>te ρ λr=>match r.k,r.d with
 | .val,.cn (.tup cs)=>φ (cs.map cstD)
 | _,_=>False
def Tg (he:ED Γ X e te):EI Γ X tg e (iCn te):=λH₀=>impI (K8 (he H₀) Pg) λσ H R q=>by
 obtain ⟨ρ,o,RE,φ,hφ,k⟩:=q
 refine ⟨ρ,o,RE,_,hφ,λv r H1 s1 rv h1=>?_⟩
 obtain ⟨kd,d⟩:=r
 dsimp only at h1
 split at h1
 ·rename_i cs
  obtain ⟨a,xs,rfl,q,cr⟩:=O4 (H:=H1) (show CRep X.K (.tup cs) v from rv)
  exact ⟨a,rfl,⟨xs,q⟩,k _ _ _ H1 s1 Pr ⟨xs,q,Yg cr⟩ h1⟩
 ·exact h1.elim
def sLenC:FT:=λds φ=>match ds with
 | [.cn (.tup cs)]=>φ (dv (.int cs.length))
 | _=>False
def Tl (hm:X.mg "len" = none) (ha:EA Γ X (e :: es) t) (hg:Gl X "len":=by rfl) (he:starEach (e :: es) X.env=(false,eval e X.env) :: starEach es X.env:=by rfl) (hpl:(backTo pos (starEach es X.env)).any (·.1)=false:=by rfl):ED Γ X (.Call (.Name "len" p) (e :: es) [] pos) (dCB sLenC t) :=
 wa uw (λH O ds vs φ Q ho hv h k=>by
  unfold sLenC at h
  split at h
  ·rename_i cs
   obtain ⟨v,ws,rfl,h1,rfl⟩:=hv
   obtain ⟨a,xs,rfl,q,cr⟩:=O4 (H:=H) (show CRep X.K (.tup cs) v from h1)
   refine ⟨a,xs,rfl,.inr q,?_⟩
   rw [b7 cr]
   exact k _ _ H (Same.refl H) (by exact rfl) h
  ·exact h.elim) hm PySem.boot_len ha hg (by decide) (by decide) he hpl
end
end DL
namespace LQ
open PySem PySem.Spec PyProof.Rows
section
variable {P:Program} {w:World} {A:Around} {E:Value->Shared->Prop} {s:Shared}
structure ZAt (g:Heap) (z ti to i1 i2 l1 l2:Addr) (f:Value) (k:Nat):Prop where
 zz:IsZip g z ti to f
 its:IsPair g ti (.ref i1) (.ref i2)
 out:∃ a b,IsPair g to a b
 one:g.IsTupleIter i1 l1 k
 two:g.IsListIter i2 l2 k
structure ZNe (z ti to i1 i2:Addr):Prop where
 ab:ti ≠ z
 ac:to ≠ z
 ad:i1 ≠ z
 ae:i2 ≠ z
 bc:ti ≠ to
 bd:ti ≠ i1
 be:ti ≠ i2
 cd:to ≠ i1
 ce:to ≠ i2
 de:i1 ≠ i2
end
end LQ
namespace LQ
open PySem PySem.Spec L2 L3
open PyProof.Rows hiding St
end LQ
namespace L2
open PySem PySem.Spec PyProof.Rows
section
variable {X:Cx} {o e:Expr} {apos cpos:Pos} {td te:TE}
def Pp {a b:List (Key × V)} {x y:List (Key × Value)} (h:KV a x) (g:KV b y):KV (a ++ b) (x ++ y):=by
 induction h with
 | nil=>exact g
 | cons h t ih=>exact .cons h ih
def Q8 {a:List (Key × V)} {b:List (Key × Value)} (h:KV a b):b.map (·.1)=a.map (·.1):=by
 induction h with
 | nil=>rfl
 | cons h t ih=>rw [List.map_cons,List.map_cons,ih,h.1]
def Le (td te:TE):TE:=λσ H Q=>td σ H λx H1=>∃ a kvs0,x=.ref a /\ H1 a=some (.dK kvs0) /\ te σ H1 λy H2=>∃ b kvs more,y=.ref b /\ a ≠ b /\ H2 a=some (.dK kvs) /\ H2 b=some (.dK more) /\ kvs.length + more.length <= sizeLine /\ ((kvs ++ more).map (·.1)).Nodup /\ Q .non (upd H2 a (.dK (kvs ++ more)))
def N9 (ho:PE X o td) (he:PE X e te) (m:M1 X o "update" apos e cpos):PE X (.Call (.Attribute o "update" apos) [e] [] cpos) (Le td te):=by
 intro pn s σ H Q I h
 refine wpAny_Call_method m.base m.few m.line PySem.F.plainAttrs_dict PySem.F.slot_dict_update PySem.F.type_dict_update (thn (ho pn s σ H _ I h) λu s1 ⟨x,H1,I1,rx,a,kvs0,ex,d,q1⟩=>?_)
 subst ex
 obtain rfl:u=Value.ref a:=rx
 obtain ⟨t1,t2,_⟩:=Pt I1 (.inl ⟨_,.inl d⟩)
 refine ⟨t1,t2,?_⟩
 rw [m.trees]
 refine Calls.callWith_builtin rfl (Calls.evalArgs_plain (Calls.spliced_cons (thn (he pn s1 σ H1 _ I1 q1) λiv s2 ⟨y,H2,I2,ry,b,kvs,more,ey,hne,ha,hb,hl,hnd,q2⟩=>Calls.spliced_nil ?_)))
 subst ey
 obtain rfl:iv=Value.ref b:=ry
 obtain ⟨z1,hd1,ks,r1,d1⟩:=g9 I2.hok ha
 obtain ⟨z2,hd2,ms,r2,d2⟩:=g9 I2.hok hb
 refine call_meetsIn PySem.F.slot_dict_update d1.typeIs PySem.F.entry_dict_update (PySem.F.args_dict_update_2 _ _) (meets_dict_update (zv X.prog X.w) a b hne hd2) ⟨ks,ms,d1,d2,by rw [<- r1.length,<- r2.length]; exact hl,λh' dd do' sb=>?_⟩
 have e:merged ks ms=ks ++ ms:=merged_append_of_fresh ks ms (by rw [Q8 (Pp r1 r2)]; exact hnd)
 rw [e] at dd
 have he':∃ q,h'.get? a=some q:=let ⟨q,_,_,hq,_⟩:=dd; ⟨q,hq⟩
 exact ⟨.non,_,ve (t':=s2.toks) I2 (by rw [ha]; exact True.intro) sb he' (b3 (by rw [zLa]; exact hl) hd1 (Pp r1 r2) dd),rfl,q2⟩
end
end L2
namespace DL
open PySem PySem.Spec L2 L3
open PyProof.Rows hiding St
variable {Γ:Hp->Prop}
section
variable {X:Cx} {e:Expr} {te:TD} {x:Str} {np apos cpos pos:Pos}
def Lu (i:Nat) (te:TD):TDS:=λρ Z=>match slot ρ i with
 | some ⟨.own,.dk ks ds⟩=>te ρ λr=>(match r.k with | .own=>False | _=>True) /\ (match r.d with
  | .dk ks' ds'=>ks.length + ks'.length <= 100000 /\ (ks ++ ks').Nodup /\ Z.nx (setS ρ i (dO (.dk (ks ++ ks') (ds ++ ds'))))
  | _=>False)
 | _=>False
def bp {α β:Type}:∀ (a:List α) (x:List β) (b:List α) (y:List β),a.length=x.length->(a ++ b).zip (x ++ y)=a.zip x ++ b.zip y
 | [],[],_,_,_=>rfl
 | _ :: _,[],_,_,h=>by cases h
 | [],_ :: _,_,_,h=>by cases h
 | a :: as,x :: xs,b,y,h=>by
  show (a,x) :: (as ++ b).zip (xs ++ y)=(a,x) :: (as.zip xs ++ b.zip y)
  rw [bp as xs b y (by simpa using h)]
def On (i:Nat) (he:ED Γ X e te) (hN:X.N[i]?=some x:=by rfl) (hv:Vis X.env.scope x:=by first | exact Or.inl rfl | exact Or.inr (Or.inl rfl) | exact Or.inr (Or.inr rfl)) (hd:(x == ("__debug__" : Str))=false:=by decide)
  (hcd:(x == ("__classdict__" : Str))=false:=by decide)
  (hp:∀ {ta tb:TE},PE X (.Name x np) ta->PE X e tb->PS X (.Expr (.Call (.Attribute (.Name x np) "update" apos) [e] [] cpos) pos) (V7 (Le ta tb)):=by
   intro ta tb h1 h2
   exact uf (N9 h1 h2 ⟨rfl,rfl,rfl,rfl⟩)):SD Γ X (.Expr (.Call (.Attribute (.Name x np) "update" apos) [e] [] cpos) pos) (Lu i te):=λH₀ =>
 impS (hp (wf hN hv hd hcd) (he H₀)) λD σ H h=>by
  obtain ⟨ρ,o,R,Z,hZ,k1,k2,k3,k4⟩:=h
  unfold Lu at hZ
  split at hZ
  ·rename_i ks ds es
   obtain ⟨v0,ev0,q0⟩:=R.slots i _ (yc es)
   rcases q0 with ⟨k,_⟩ | ⟨_,a,rfl,m,c⟩
   ·cases k
   obtain ⟨xs,hx,hl,nd,rx⟩:=c
   refine ⟨.ref a,ev0,a,_,rfl,hx,ρ,o,R,_,hZ,λv r H1 s1 rv h1=>?_⟩
   obtain ⟨h0,h1⟩:=h1
   obtain ⟨kd,d⟩:=r
   cases d with
   | dk ks' ds' =>
    obtain ⟨hlen,hnd,h1⟩:=h1
    obtain ⟨b,ys,rfl,q,nb,hl',nd',rp⟩:=rv.solid (wg h0)
    have hx1:=s1 _ _ hx
    have rx1:=Reps.grow (Grow.same s1) _ _ rx
    have xl:ks.length=xs.length:=by rw [hl,rx.length]
    have yl:ks'.length=ys.length:=by rw [hl',rp.length]
    have hne:a ≠ b:=λz=>nb (z ▸ List.mem_map.mpr ⟨_,m,rfl⟩)
    refine ⟨b,_,_,rfl,hne,hx1,q,?_,?_,?_⟩
    ·rw [List.length_zip,List.length_zip,<- xl,<- yl,Nat.min_self,Nat.min_self]
     exact Nat.le_trans hlen (by decide)
    ·rw [<- bp ks xs ks' ys xl,jp _ _ (by rw [zLa,zLa,xl,yl])]
     exact hnd
    ·rw [<- bp ks xs ks' ys xl]
     obtain ⟨R3,g3⟩:=(R.to s1).chg (d':=.dk (ks ++ ks') (ds ++ ds')) (ho:=.dK ((ks ++ ks').zip (xs ++ ys))) (yc es) ev0 m ⟨λ_ z=>(by cases z),λ_ _ z=>(by cases z)⟩ λgr =>
      ⟨xs ++ ys,zg,by rw [zLa,zLa,hl,hl'],hnd,gr _ _ (rx1.append rp)⟩
     exact k1 _ σ _ o ((Grow.same s1).trans g3) R3 h1
   | _=>exact h1.elim
  ·exact hZ.elim
end
end DL
namespace L2
open PySem PySem.Spec PyProof.Rows
section
variable {P:Program} {w:World} {A:Around} {E:Value->Shared->Prop} {s:Shared}
def ci {d:Addr} {o:Obj} {es:Array DictEntry} {ep:Nat} {key:Value} {hsh:Int} {Q:Option Nat->Shared->Prop} (ho:s.heap.get? d=some o) (hd:o.data=.dict es ep) (hstr:∀ e ∈ es,∃ x t,e.key=.str x t)
  (hkey:key=.none \/ ∃ a,key=.ref a /\ ∀ (A:Around) (E:Value->Shared->Prop) (Q:Bool->Shared->Prop),Q true s->wpAny (model P w) A (eqIsQuiet 8 (.ref a)) Q E s) (heq:∀ e ∈ es,∀ (E:Value->Shared->Prop) (Q:Bool->Shared->Prop),Q false s->wpAny (model P w) A (eqBool e.key key) Q E s)
  (h:Q none s):wpAny (model P w) A (dictFind d key hsh) Q E s:=by
 unfold dictFind
 try with_reducible refine wpAny_holding ?_
 refine wpAny_bind (wpAny_dictEntries ho hd ?_)
 dsimp only
 rcases hkey with rfl | ⟨a,rfl,hq⟩
 ·rw [if_pos (by
   rw [List.all_eq_true]
   intro v hv
   rcases List.mem_cons.mp hv with rfl | hv
   ·rfl
   ·obtain ⟨i,_,hi⟩:=List.mem_filterMap.mp hv
    cases hei:es[i]? with
    | none=>rw [hei] at hi; cases hi
    | some e =>
     rw [hei] at hi
     obtain ⟨x,t,ek⟩:=hstr e (Array.mem_of_getElem? hei)
     have hi:some e.key=some v:=hi
     rw [ek] at hi
     cases hi
     rfl)]
  refine wpAny_bind ?_
  refine wpAny_forIn_list _ (λ_ r s'=>s'=s /\ r=(none,())) _ ?_ ?_ _ _ ⟨rfl,rfl⟩
  ·rintro i rest r s' ⟨rfl,rfl⟩
   dsimp only
   cases hei:es[i]? with
   | none=>exact wpAny_pure ⟨rfl,rfl⟩
   | some e =>
    dsimp only
    split
    ·refine wpAny_bind (wpAny_dictEpoch ho hd (wpAny_bind (heq e (Array.mem_of_getElem? hei) _ _ (wpAny_bind (wpAny_dictEpoch ho hd ?_)))))
     show wpAny _ _ (if (ep != ep)=true then _ else _) _ _ _
     rw [if_neg (by simp)]
     simp only [Bool.false_eq_true,if_false]
     exact wpAny_bind (wpAny_rule (wpAny_pure ⟨rfl,rfl⟩))
    ·exact wpAny_pure ⟨rfl,rfl⟩
  ·rintro r s' ⟨rfl,rfl⟩
   exact wpAny_pure h
 ·have hst:∀ v ∈ (placesWithHash es.size (λi=>es[i]?.map (·.hash)) hsh).filterMap (λi=>es[i]?.map (·.key)),∃ x t,v=Value.str x t:=by
   intro v hv
   obtain ⟨i,_,hi⟩:=List.mem_filterMap.mp hv
   cases hei:es[i]? with
   | none=>rw [hei] at hi; cases hi
   | some e =>
    rw [hei] at hi
    obtain ⟨x,t,ek⟩:=hstr e (Array.mem_of_getElem? hei)
    have hi:some e.key=some v:=hi
    rw [ek] at hi
    cases hi
    exact ⟨_,_,rfl⟩
  rw [if_neg (by simp [carriedByValue])]
  rw [if_neg (by
   rw [<- Array.any_toList,List.any_eq_true]
   rintro ⟨e,hin,hc⟩
   obtain ⟨x,t,ek⟩:=hstr e (Array.mem_toList_iff.mp hin)
   rw [ek] at hc
   simp at hc)]
  generalize (placesWithHash es.size (λi=>es[i]?.map (·.hash)) hsh)=places at *
  rw [if_neg (by
   intro z
   have z:=eq_of_beq z
   rw [z] at hst
   obtain ⟨x,t,e⟩:=hst (.ref a) (by simp)
   cases e)]
  have tell:∀ (E:Value->Shared->Prop) (Q:Bool->Shared->Prop),Q false s->wpAny (model P w) A (tableMayTell (.ref a) (places.filterMap (λi=>es[i]?.map (·.key)))) Q E s:=λE Q h=>by
   unfold tableMayTell
   split
   ·exact wpAny_pure h
   ·refine wpAny_bind (hq _ _ _ ?_)
    simp only [Bool.not_true,Bool.false_eq_true,if_false]
    refine wpAny_bind ?_
    refine wpAny_forIn_list _ (λrest r s'=>s'=s /\ r=(none,()) /\ ∀ v ∈ rest,∃ x t,v=Value.str x t) _ ?_ ?_ _ _ ⟨rfl,rfl,hst⟩
    ·rintro x rest r s' ⟨rfl,rfl,hr⟩
     obtain ⟨y,t,rfl⟩:=hr x List.mem_cons_self
     refine wpAny_bind ?_
     rw [eqIsQuiet_byValue _ rfl]
     refine wpAny_pure ?_
     simp only [Bool.not_true,Bool.false_eq_true,if_false]
     exact wpAny_pure ⟨rfl,rfl,λv hv=>hr v (List.mem_cons_of_mem _ hv)⟩
    ·rintro r s' ⟨rfl,rfl,_⟩
     exact wpAny_pure h
  refine wpAny_bind (tell _ _ ?_)
  rw [if_neg (by simp)]
  refine wpAny_bind ?_
  refine wpAny_forIn_list _ (λ_ r s'=>s'=s /\ r=(none,none)) _ ?_ ?_ _ _ ⟨rfl,rfl⟩
  ·rintro i rest r s' ⟨rfl,rfl⟩
   dsimp only
   cases hei:es[i]? with
   | none=>exact wpAny_pure ⟨rfl,rfl⟩
   | some e =>
    dsimp only
    split
    ·refine wpAny_bind (wpAny_dictEpoch ho hd (wpAny_bind (heq e (Array.mem_of_getElem? hei) _ _ (wpAny_bind (wpAny_dictEpoch ho hd ?_)))))
     show wpAny _ _ (if (ep != ep)=true then _ else _) _ _ _
     rw [if_neg (by simp)]
     simp only [Bool.false_eq_true,if_false]
     refine wpAny_bind (wpAny_rule ?_)
     rw [if_neg (by simp)]
     exact wpAny_pure ⟨rfl,rfl⟩
    ·exact wpAny_pure ⟨rfl,rfl⟩
  ·rintro r s' ⟨rfl,rfl⟩
   exact wpAny_pure h
def Zx {d:Addr} {o:Obj} {es:Array DictEntry} {ep:Nat} {key v:Value} {hsh:Int} {Q:Unit->Shared->Prop} (ho:s.heap.get? d=some o) (hc:o.ExactDict) (hd:o.data=.dict es ep) (hz:es.size <= sizeLine)
  (hh:∀ Q:Int->Shared->Prop,(∀ tk,Q hsh { s with toks:=tk })->wpAny (model P w) A (pyHash key) Q E s)
  (hf:∀ tk (Q:Option Nat->Shared->Prop),Q none { s with toks:=tk }->wpAny (model P w) A (dictFind d key hsh) Q E { s with toks:=tk })
  (h:∀ h' tk,Heap.SameBut d s.heap h'->(∃ (o':Obj) (es':Array DictEntry) (ep':Nat),h'.get? d=some o' /\ o'.ExactDict /\ o'.data=.dict es' ep' /\ es'.size=es.size + 1)->Q () { s with heap:=h',toks:=tk }):wpAny (model P w) A (dictSet d key v) Q E s:=by
 unfold dictSet
 try with_reducible refine wpAny_holding ?_
 refine wpAny_bind (hh _ λtk=>?_)
 unfold dictSetHashed
 try with_reducible refine wpAny_holding ?_
 refine wpAny_bind (hf tk _ ?_)
 refine wpAny_bind (wpAny_rule (wpAny_updateDictKeys (hz:=hz) (s:={ s with toks:=tk }) ho hd ?_))
 exact h _ tk (Heap.SameBut.update ..) ⟨_,_,ep + 1,Heap.get?_update_self _ ho (Obj.isFreed_of_dict (Obj.data_mapDictKeys hd _)),hc.mapDictKeys _,Obj.data_mapDictKeys hd _,by simp⟩
def si {d:Addr} {o:Obj} {es:Array DictEntry} {ep:Nat} {key v:Value} {hsh:Int} {Q:Unit->Shared->Prop} (ho:s.heap.get? d=some o) (hc:o.ExactDict) (hd:o.data=.dict es ep) (hz:es.size <= sizeLine)
  (hh:∀ Q:Int->Shared->Prop,(∀ tk,Q hsh { s with toks:=tk })->wpAny (model P w) A.in1 (pyHash key) Q E s)
  (hf:∀ tk (Q:Option Nat->Shared->Prop),Q none { s with toks:=tk }->wpAny (model P w) A.in1 (dictFind d key hsh) Q E { s with toks:=tk })
  (h:∀ h' tk,Heap.SameBut d s.heap h'->(∃ (o':Obj) (es':Array DictEntry) (ep':Nat),h'.get? d=some o' /\ o'.ExactDict /\ o'.data=.dict es' ep' /\ es'.size=es.size + 1)->Q () { s with heap:=h',toks:=tk }):wpAny (model P w) A (setItem (.ref d) key v) Q E s:=by
 have hT:s.TypeIs (.ref d) "dict":=⟨o,ho,hc.1⟩
 unfold setItem
 try with_reducible refine wpAny_holding ?_
 refine wpAny_bind (wpAny_sequenceKey hT (by decide) ?_)
 refine wpAny_bind (wpAny_callSpecial?_slot (name:=Str.ofString "__setitem__") hT slot_dict_setitem
  (wpAny_call_entry slot_dict_setitem hT entry_dict_setitem ?_ (args_dict_setitem _ _ _)))
 show wpAny _ _ (Builtin.Dict.notOrdered "__setitem__" ⟨[.ref d,key,v],[]⟩ >>= _) _ _ s
 refine wpAny_bind (wpAny_notOrdered_dict hT ?_)
 show wpAny _ _ (dictSet d key v >>= _) _ _ s
 exact wpAny_bind (Zx ho hc hd hz hh hf λh' tk hs' hm'=>wpAny_pure ⟨.none,rfl,wpAny_pure (h h' tk hs' hm')⟩)
def Nv {d:Addr} {o:Obj} {es:Array DictEntry} {ep:Nat} {Q:Value->Shared->Prop} (hs:(d == sysModules)=false) (ho:s.heap.get? d=some o) (hc:o.ExactDict) (hd:o.data=.dict es ep) (hfit:(es.size:Int) < 2 ^ 63)
  (h:Q (.int es.size (s.toks + 1)) { s with toks:=s.toks + 1 + 1 }):wpAny (model P w) A (call (.builtin "len") [.ref d]) Q E s:=by
 have hT:s.TypeIs (.ref d) "dict":=⟨o,ho,hc.1⟩
 refine Calls.call_function_entry kind_len plain_len entry_len (args_len1 _) ?_
 unfold Builtin.«len»
 refine wpAny_bind (m:=oneArg "len" _) (wpAny_pure ?_)
 refine wpAny_bind (m:=callSpecial? (.ref d) (Str.ofString "__len__")) (wpAny_callSpecial?_slot (name:=Str.ofString "__len__") hT PySem.F.slot_dict_len
  (wpAny_call_entry PySem.F.slot_dict_len hT PySem.F.entry_dict_len ?_ (PySem.F.args_dict_len_1 _)))
 show wpAny _ _ (dictSize d >>= _) _ _ s
 unfold dictSize
 refine wpAny_bind (wpAny_bind (wpAny_dictEntries ho hd (wpAny_pure ?_)))
 show wpAny _ _ (Builtin.Dict.pendingCount d >>= _) _ _ s
 refine wpAny_bind (wpAny_pendingCount_other hs ?_)
 refine wpAny_ret_mkInt ?_
 rw [Nat.add_zero]
 refine wpAny_bind (wpAny_holding (wpAny_pure ?_))
 refine wpAny_bind (wpAny_letGo ?_)
 show wpAny _ _ (if ((es.size:Nat):Int) < 0 then _ else _) _ _ _
 rw [if_neg (by omega)]
 show wpAny _ _ (if ((es.size:Nat):Int) ≥ 2 ^ 63 then _ else _) _ _ _
 rw [if_neg (by omega)]
 exact wpAny_bind (wpAny_mkInt (wpAny_pure ⟨_,rfl,h⟩))
def Tz {KK:Type} [DecidableEq KK] {knd:KeyKind P w KK} {d:Addr} {o:Obj} {es:Array DictEntry} {ep:Nat} {Q:Value->Shared->Prop} (ho:s.heap.get? d=some o) (hc:o.ExactDict) (hd:o.data=.dict es ep) (hz:es.size <= sizeLine)
  (h:∀ h',h'.DictOf knd d []->Heap.SameBut d s.heap h'->Q .none { s with heap:=h' }):wpAny (model P w) A (call (.builtin "dict.clear") [.ref d]) Q E s:=by
 have hT:s.TypeIs (.ref d) "dict":=⟨o,ho,hc.1⟩
 refine wpAny_call_entry PySem.F.slot_dict_clear hT PySem.F.entry_dict_clear ?_ (PySem.F.args_dict_clear_1 _)
 unfold Builtin.«dict.clear»
 refine wpAny_bind ?_
 unfold Builtin.Dict.noArgs
 refine wpAny_bind (wpAny_notOrdered_dict hT ?_)
 show wpAny _ _ (pure d) _ _ s
 refine wpAny_pure ?_
 refine wpAny_bind (wpAny_dictEntries ho hd ?_)
 refine wpAny_bind ?_
 unfold bearsInstanceDictMark
 refine wpAny_bind (wpAny_load ho (wpAny_pure ?_))
 refine wpAny_bind (wpAny_updateDictKeys (hz:=hz) ho hd ?_)
 have hnew:(s.heap.update d (Obj.mapDictKeys λ_=>#[])).DictOf knd d [] :=
  ⟨_,_,ep + 1,Heap.get?_update_self _ ho (Obj.isFreed_of_dict (Obj.data_mapDictKeys hd _)),hc.mapDictKeys _,Obj.data_mapDictKeys hd _,λ_ he=>by simp at he,Pairs.nil,List.nodup_nil⟩
 split
 ·exact wpAny_bind (wpAny_letGo (wpAny_pure ⟨.none,rfl,h _ hnew (Heap.SameBut.update ..)⟩))
 ·exact wpAny_bind (wpAny_pure (wpAny_pure ⟨.none,rfl,h _ hnew (Heap.SameBut.update ..)⟩))
end
end L2
namespace DL
open PySem PySem.Spec L2 L3
open PyProof.Rows hiding St
section
variable {X:Cx} {pn:List (Addr × Obj)} {σ:St} {H:Hp} {s:Shared} {a:Addr}
def Nx {P:Program} {w:World}:∀ {es:List DictEntry} {kvs:List (Key × V)} {vs:List (Key × Value)},KV kvs vs->Pairs (zv P w) es vs->(∀ p ∈ kvs,∃ x,p.1=Sum.inr x)->∀ e ∈ es,∃ x t,e.key=Value.str x t:=by
 intro es kvs vs rel hp
 induction hp generalizing kvs with
 | nil=>intro _ e he; cases he
 | @cons e kv es vs h1 h2 t ih =>
  intro hk e' he
  cases rel with
  | @cons p _ ps _ r rest =>
   rcases List.mem_cons.mp he with rfl | he
   ·obtain ⟨x,ex⟩:=hk p (List.mem_cons_self ..)
    have e1:kv.1=Sum.inr x:=r.1.symm.trans ex
    rw [e1] at h1
    cases ek:e'.key <;> rw [ek] at h1 <;> first | exact ⟨_,_,rfl⟩ | (rw [Xy] at h1; simp [d4,Value.isStrOf] at h1; done)
   ·exact ih rest (λq hq=>hk q (List.mem_cons_of_mem _ hq)) e' he
def gc {P:Program} {w:World} {h':Heap} {n:Nat} (hs:(a == sysModules)=false) (h:∃ (o:Obj) (es:Array DictEntry) (ep:Nat),h'.get? a=some o /\ o.ExactDict /\ o.data=.dict es ep /\ es.size=n):ye P w H h' a (wx a (-(n:Int) - 1)):=by
 obtain ⟨o,es,ep,h1,h2,h3,h4⟩:=h
 refine ⟨.inr ⟨by omega,hs,o,es,ep,h1,h2,h3,by omega⟩,⟨o,h1⟩,λg1 g2 z k=>?_⟩
 rcases z with ⟨z,_⟩ | ⟨z,_,o',es',ep',q1,q⟩
 ·omega
 ·exact .inr ⟨z,hs,o',es',ep',k _ q1,q⟩
def b4 {m:Int} (I:Inv X pn σ H s) (h:H a=some (wx a m)) (hm:m < 0):(a == sysModules)=false /\ ∃ (o:Obj) (es:Array DictEntry) (ep:Nat),s.heap.get? a=some o /\ o.ExactDict /\ o.data=.dict es ep /\ (es.size:Int) = - m - 1:=by
 obtain ⟨⟨z,_⟩ | ⟨_,r⟩,_⟩:=(show ye X.prog X.w H s.heap a (wx a m) from I.hok a _ h)
 ·omega
 ·exact r
def Oi (hu:X.A.units + 64 < cLine):PSet X (λo i v H Q=>∃ a kvs,o=.ref a /\ H a=some (.dK kvs) /\ (∀ p ∈ kvs,∃ x,p.1=Sum.inr x) /\ kvs.length <= 1000 /\ (i=.non \/ ∃ b z,i=.ref b /\ H b=some (.tup [.str z])) /\ Q (upd H a (wx a (-((kvs.length + 1:Nat):Int) - 1)))):=by
 intro pn s σ H o i v ov iv u Q I ro ri rv h
 obtain ⟨a,kvs,rfl,ha,hk,hl,hi,q⟩:=h
 obtain rfl:ov=Value.ref a:=ro
 obtain ⟨z,hd,vs,rel,dd⟩:=g9 I.hok ha
 obtain ⟨ob,es,ep,ho,hc,hdat,hkeys,hp,hn⟩:=dd
 have hsz:es.size=kvs.length:=by
  have e1:=hp.length
  rw [Array.length_toList] at e1
  rw [e1,rel.length]
 have hstr:∀ e ∈ es,∃ x t,e.key=Value.str x t:=λe he=>Nx rel hp hk e (Array.mem_toList_iff.mpr he)
 have fin:∀ h' tk,Heap.SameBut a s.heap h'->(∃ (o':Obj) (es':Array DictEntry) (ep':Nat),h'.get? a=some o' /\ o'.ExactDict /\ o'.data=.dict es' ep' /\ es'.size=es.size + 1)->∃ H',Inv X pn σ H' { s with heap:=h',toks:=tk } /\ Q H':=λh' tk hs he=>by
  rw [hsz] at he
  refine ⟨_,ve I (by rw [ha]; exact True.intro) hs (let ⟨o',_,_,q,_⟩:=he; ⟨o',q⟩) (gc hd he),q⟩
 have hz:es.size <= sizeLine:=by rw [hsz,sizeLine_eq]; omega
 rcases hi with rfl | ⟨b,zz,rfl,hb⟩
 ·obtain rfl:iv=Value.none:=ri
  refine si (hsh:=W.hashW X.w.params .none) ho hc hdat hz (λQ h=>W.pyHash_laid .none .none X.A.in1 s Q rfl .none (by rw [Around.in1_units]; show _ + 1 + 0 < _; omega) h) (λtk Q h=>ci (s:={ s with toks:=tk }) ho hdat hstr (.inl rfl) (λe he E Q h=>?_) h) fin
  obtain ⟨x,t,ek⟩:=hstr e he
  rw [ek]
  exact (qc (I.tok tk) 3 (.str x) .non (.str x) .non (.str x t) .none X.A.in1 (by simp [okD]) (by simp [okD]) rfl rfl ⟨t,rfl⟩ rfl (by rw [Around.in1_units]; omega)).2.2 _ _ E Q h
 ·obtain rfl:iv=Value.ref b:=ri
  have hkey:=kt (ks:=[Sum.inr zz]) I.hok hb
  have ur:X.A.in1.units < cLine:=by rw [Around.in1_units]; omega
  refine si (hsh:=tupleKeyHash (zv X.prog X.w) [Sum.inr zz]) ho hc hdat hz (λQ h=>wpAny_pyHash_tuple ur hkey (h _)) (λtk Q h=>ci (s:={ s with toks:=tk }) ho hdat hstr (.inr ⟨b,rfl,λA E Q h=>wpAny_eqIsQuiet_tuple (knd:=zv X.prog X.w) (ks:=[Sum.inr zz]) hkey h⟩) (λe he E Q h=>?_) h) fin
  obtain ⟨x,t,ek⟩:=hstr e he
  rw [ek]
  exact (qc (I.tok tk) 3 (.str x) (.tup [.str zz]) (.str x) (.ref b) (.str x t) (.ref b) X.A.in1 (by simp [okD]) (by simp [okD]) rfl ⟨b,[.str zz],rfl,⟨.inl (.inl hb),hb⟩,.str zz,[],rfl,rfl,rfl⟩ ⟨t,rfl⟩ rfl (by rw [Around.in1_units]; omega)).2.2 _ _ E Q h
end
section
variable {X:Cx}
def qi {P:Program} {w:World} {h':Heap} {a:Addr} {vs:List (Key × Value)} (dd:h'.DictOf (zv P w) a vs):∃ (o:Obj) (es:Array DictEntry) (ep:Nat),h'.get? a=some o /\ o.ExactDict /\ o.data=.dict es ep /\ es.size=vs.length:=by
 obtain ⟨o,es,ep,h1,h2,h3,_,hp,_⟩:=dd
 exact ⟨o,es,ep,h1,h2,h3,by rw [<- hp.length,Array.length_toList]⟩
def Nm:MtR X "dict.pop" (λx xs H Q=>∃ a kvs z v,x=.ref a /\ xs=[.str z] /\ H a=some (.dK kvs) /\ valV kvs (Sum.inr z)=some v /\ Q v (upd H a (wx a (-((Wi kvs (Sum.inr z)).length:Int) - 1)))):=by
 intro pn s σ H x xs v us Q I rx r h
 obtain ⟨a,kvs,z,v0,rfl,rfl,ha,l,q⟩:=h
 obtain rfl:v=Value.ref a:=rx
 obtain ⟨u,rfl,ru⟩:=ux r
 obtain ⟨zz,hd,vs,rel,dd⟩:=g9 I.hok ha
 obtain ⟨w',hw,rw'⟩:=RelO.some_of (v:=v0) (o:=valueAt vs (Sum.inr z)) (by rw [<- l]; exact rel.val _)
 obtain ⟨t,rfl⟩:=(show ∃ t,u=Value.str z t from ru)
 refine call_meetsIn PySem.F.slot_dict_pop dd.typeIs PySem.F.entry_dict_pop (PySem.F.args_dict_pop_2 _ _) (meets_dict_pop_there (zv X.prog X.w) a (d6 (k:=Sum.inr z) ⟨t,rfl⟩) [] (.inl rfl) rfl)
  ⟨vs,w',dd,by rw [<- rel.length]; exact zz,hw,λh' dd' hs=>?_⟩
 have he:∃ q,h'.get? a=some q:=let ⟨q,_,_,hq,_⟩:=dd'; ⟨q,hq⟩
 refine ⟨v0,_,ve I (by rw [ha]; exact True.intro) hs he (gc hd (?_:∃ (o:Obj) (es:Array DictEntry) (ep:Nat),_ /\ _ /\ _ /\ es.size=(Wi kvs (Sum.inr z)).length)),rw',q⟩
 rw [(rel.drop (Sum.inr z)).length]
 exact qi dd'
def Oj:PSet X (λo i v H Q=>∃ a kvs k,o=.ref a /\ H a=some (.dK kvs) /\ i=kV k /\ valV kvs k=none /\ kvs.length <= 1000 /\ Q (upd H a (wx a (-((kvs.length + 1:Nat):Int) - 1)))):=by
 intro pn s σ H o i v ov iv u Q I ro ri rv h
 obtain ⟨a,kvs,k,rfl,ha,rfl,hn,hl,q⟩:=h
 obtain rfl:ov=Value.ref a:=ro
 obtain ⟨zz,hd,vs,rel,dd⟩:=g9 I.hok ha
 have hz:vs.length <= sizeLine:=by rw [<- rel.length]; exact zz
 refine wpAny_setItem_pairs (hsz:=hz) (d6 ri) dd λh' dd' hs=>⟨_,ve I (by rw [ha]; exact True.intro) hs (let ⟨q,_,_,hq,_⟩:=dd'; ⟨q,hq⟩) (gc hd ?_),q⟩
 have e:kvs.length + 1=(stored vs k u).length:=by rw [<- (rel.put k rv).length,Rg _ hn,zLa]; rfl
 rw [e]
 exact qi dd'
def PSet.or {t t':TSet} (h:PSet X t) (h':PSet X t'):PSet X (λo i v H Q=>t o i v H Q \/ t' o i v H Q):=by
 intro pn s σ H o i v ov iv u Q I ro ri rv q
 rcases q with q | q
 ·exact h pn s σ H o i v ov iv u Q I ro ri rv q
 ·exact h' pn s σ H o i v ov iv u Q I ro ri rv q
def S1:w5 X (.builtin "len") (λxs H Q=>∃ a,xs=[V.ref a] /\ ((∃ kvs,H a=some (.dK kvs) /\ Q (.int kvs.length) H) \/ ∃ m:Int,m < 0 /\ -m <= 1000 /\ H a=some (wx a m) /\ Q (.int (-m - 1)) H)):=by
 intro pn s σ H xs us Q I r h
 obtain ⟨a,rfl,h⟩:=h
 rcases h with ⟨kvs,ha,q⟩ | ⟨m,hm,hm2,ha,q⟩
 ·exact b9 pn s σ H _ us Q I r ⟨a,kvs,rfl,ha,q⟩
 ·obtain ⟨u,rfl,ru⟩:=ux r
  obtain rfl:u=Value.ref a:=ru
  obtain ⟨hs,o,es,ep,h1,h2,h3,h4⟩:=b4 I ha hm
  refine Nv hs h1 h2 h3 (by omega) ⟨.int (-m - 1),H,I.tok _,⟨_,by rw [<- h4]⟩,q⟩
def Oe (to:TE):TE:=λσ H Q=>to σ H λx H1=>∃ a,x=.ref a /\ ((∃ kvs,H1 a=some (.dK kvs)) \/ ∃ m:Int,m < 0 /\ -m <= 1000 /\ H1 a=some (wx a m)) /\ Q .non (upd H1 a (.dK []))
def Na {o:Expr} {to:TE} {apos cpos:Pos} (ho:PE X o to) (hbase:attributeBase o "clear" X.env (eval o X.env)=eval o X.env:=by rfl) (hline:(apos.endLine == cpos.line)=true:=by rfl):PE X (.Call (.Attribute o "clear" apos) [] [] cpos) (Oe to):=by
 intro pn s σ H Q I h
 refine wpAny_Call_method0_late hbase hline (thn (ho pn s σ H _ I h) λv s1 ⟨x,H1,I1,r1,a,ex,hd,q1⟩=>?_)
 subst ex
 obtain rfl:v=Value.ref a:=r1
 have key:(a == sysModules)=false /\ Mut (H1 a) /\ ∃ (o:Obj) (es:Array DictEntry) (ep:Nat),s1.heap.get? a=some o /\ o.ExactDict /\ o.data=.dict es ep /\ es.size <= sizeLine:=by
  rcases hd with ⟨kvs,ha⟩ | ⟨m,hm,hm2,ha⟩
  ·obtain ⟨zz,hd,vs,rel,dd⟩:=g9 I1.hok ha
   obtain ⟨o,es,ep,h1,h2,h3,h4⟩:=qi dd
   exact ⟨hd,by rw [ha]; exact True.intro,o,es,ep,h1,h2,h3,by rw [h4,<- rel.length]; exact zz⟩
  ·obtain ⟨hs,o,es,ep,h1,h2,h3,h4⟩:=b4 I1 ha hm
   exact ⟨hs,by rw [ha]; exact True.intro,o,es,ep,h1,h2,h3,by rw [sizeLine_eq]; omega⟩
 obtain ⟨hs,mu,ob,es,ep,h1,h2,h3,h4⟩:=key
 refine ⟨"dict", "dict.clear", PySem.F.plainAttrs_dict,PySem.F.slot_dict_clear,PySem.F.type_dict_clear,⟨ob,h1,h2.1⟩,λb e=>?_,Calls.callWith_builtin rfl (PySem.evalArgs_none (Tz (knd:=zv X.prog X.w) h1 h2 h3 h4 λh' dd' sb=>⟨.non,_,ve (t':=s1.toks) I1 mu sb (let ⟨q,_,_,hq,_⟩:=dd'; ⟨q,hq⟩) (b3 (Nat.zero_le _) hs .nil dd'),rfl,q1⟩))⟩
 injection e with e
 subst e
 exact ⟨ob,h1,h2.2.1⟩
end
end DL
namespace DL
open PySem PySem.Spec L2 L3
open PyProof.Rows hiding St
variable {Γ:Hp->Prop}
section
variable {X:Cx} {e:Expr} {es:List Expr} {t:TDs} {p pos:Pos}
def sLenF:FT:=λds φ=>match ds with
 | [.dk ks l]=>φ (dv (.int ks.length))
 | [.fd m]=>m < 0 /\ -m <= 1000 /\ φ (dv (.int (-m - 1)))
 | _=>False
def Mn (hm:X.mg "len" = none) (ha:EA Γ X (e :: es) t) (hg:Gl X "len":=by rfl) (he:starEach (e :: es) X.env=(false,eval e X.env) :: starEach es X.env:=by rfl) (hpl:(backTo pos (starEach es X.env)).any (·.1)=false:=by rfl):ED Γ X (.Call (.Name "len" p) (e :: es) [] pos) (dCB sLenF t) :=
 wa S1 (λH O ds vs φ Q ho hv h k=>by
  unfold sLenF at h
  split at h
  ·obtain ⟨v,ws,rfl,⟨a,xs,rfl,q,l,nd,r⟩,rfl⟩:=hv
   refine ⟨a,rfl,.inl ⟨_,q,?_⟩⟩
   rw [List.length_zip,r.length,<- l,Nat.min_self]
   exact k _ _ H (Same.refl H) (by exact rfl) h
  ·obtain ⟨v,ws,rfl,⟨a,rfl,q⟩,rfl⟩:=hv
   exact ⟨a,rfl,.inr ⟨_,h.1,h.2.1,q,k _ _ H (Same.refl H) (by exact rfl) h.2.2⟩⟩
  ·exact h.elim) hm PySem.boot_len ha hg (by decide) (by decide) he hpl
def Lw (i:Nat):TDS:=λρ Z=>match slot ρ i with
 | some ⟨.own,.dk _ _⟩=>Z.nx (setS ρ i (dO (.dk [] [])))
 | some ⟨.own,.fd m⟩=>m < 0 /\ -m <= 1000 /\ Z.nx (setS ρ i (dO (.dk [] [])))
 | _=>False
def Oq (i:Nat) {x:Str} {np apos cpos:Pos} (hi:X.N[i]?=some x:=by rfl) (hv:Vis X.env.scope x:=by first | exact Or.inl rfl | exact Or.inr (Or.inl rfl) | exact Or.inr (Or.inr rfl))
  (hd:(x == ("__debug__" : Str))=false:=by decide) (hcd:(x == ("__classdict__" : Str))=false:=by decide)
  (hp:∀ {ta:TE},PE X (.Name x np) ta->PS X (.Expr (.Call (.Attribute (.Name x np) "clear" apos) [] [] cpos) pos) (V7 (Oe ta)):=by
   intro ta h1
   exact uf (Na h1)) :
  SD Γ X (.Expr (.Call (.Attribute (.Name x np) "clear" apos) [] [] cpos) pos) (Lw i):=λH₀=>impS (hp (wf hi hv hd hcd)) λD σ H h=>by
 obtain ⟨ρ,o,R,Z,hZ,k1,k2,k3,k4⟩:=h
 have gen:∀ d,slot ρ i=some (dO d)->(∀ a,Con X.K H (o.map Prod.snd) d a->(∃ kvs,H a=some (.dK kvs)) \/ ∃ m:Int,m < 0 /\ -m <= 1000 /\ H a=some (wx a m))->Z.nx (setS ρ i (dO (.dk [] [])))->V7 (Oe (tVar i)) D σ H:=λd es hc hZ=>by
  obtain ⟨v0,ev0,q0⟩:=R.slots i _ (yc es)
  rcases q0 with ⟨k,_⟩ | ⟨_,a,rfl,m,c⟩
  ·cases k
  obtain ⟨R2,g2⟩:=R.chg (d':=.dk [] []) (ho:=.dK []) (yc es) ev0 m ⟨λ_ z=>(by cases z),λ_ _ z=>(by cases z)⟩ λgr=>⟨[],zg,rfl,List.nodup_nil,rfl⟩
  exact ⟨.ref a,ev0,a,rfl,hc a c,k1 _ σ _ o g2 R2 hZ⟩
 unfold Lw at hZ
 split at hZ
 ·rename_i ks ds es
  exact gen _ es (λa c=>let ⟨xs,q,_⟩:=c; .inl ⟨_,q⟩) hZ
 ·rename_i m es
  exact gen _ es (λa c=>.inr ⟨m,hZ.1,hZ.2.1,c⟩) hZ.2.2
 ·exact hZ.elim
def G0 (te:TD):TDS:=λρ _=>te ρ λ_=>False
def Om {tg iter:Expr} {body:List Stmt} {te:TD} (he:ED Γ X iter te) (hs:∀ x,foldedSetIterable iter X.env x=pure x:=by intro _; rfl):SD Γ X (.For tg iter body [] pos) (G0 te):=λH₀ pn s σ H D I h=>by
 obtain ⟨ρ,o,R,Z,hZ,k1,k2,k3,k4⟩:=h
 exact wpAny_For (thn (he H₀ pn s σ H (λ_ _=>False) I ⟨ρ,o,R,_,hZ,λ_ _ _ _ _ z=>z⟩) λv s1 ⟨_,_,_,_,z⟩=>z.elim) hs
def Hz:FT:=λ_ _=>False
def Mj (hm:X.mg "zip" = none) (ha:EA Γ X (e :: es) t) (hg:Gl X "zip":=by rfl) (he:starEach (e :: es) X.env=(false,eval e X.env) :: starEach es X.env:=by rfl) (hpl:(backTo pos (starEach es X.env)).any (·.1)=false:=by rfl):ED Γ X (.Call (.Name "zip" p) (e :: es) [] pos) (dCB Hz t) :=
 u9 (r:=λ_ _ _=>False) (λ_ _ _ _ _ _ _ _ _ z=>z.elim) (λH O ds vs φ Q ho hv h k=>h.elim) hm boot_zip ha hg (by decide) (by decide) he hpl
def ED.pe {X:Cx} {e:Expr} {te:TD} (h:ED Γ X e te) (H₀:{H:Hp // Γ H}):PE X e (v7 X.K H₀.1 te):=h H₀
def ET.pt {X:Cx} {e:Expr} {te:TDb} (h:ET Γ X e te) (H₀:{H:Hp // Γ H}):PT X e (jm X.K H₀.1 te):=h H₀
end
def jn {α:Type} {us:List α} (h:us.length=1):∃ a0,us=[a0]:=match us,h with
 | [a0],_=>⟨a0,rfl⟩
def rf {α:Type} {us:List α} (h:us.length=2):∃ a0 a1,us=[a0,a1]:=match us,h with
 | [a0,a1],_=>⟨a0,a1,rfl⟩
def Z6 {α:Type} {us:List α} (h:us.length=3):∃ a0 a1 a2,us=[a0,a1,a2]:=match us,h with
 | [a0,a1,a2],_=>⟨a0,a1,a2,rfl⟩
def Nw {α:Type} {us:List α} (h:us.length=4):∃ a0 a1 a2 a3,us=[a0,a1,a2,a3]:=match us,h with
 | [a0,a1,a2,a3],_=>⟨a0,a1,a2,a3,rfl⟩
end DL
namespace K21
open PySem PySem.Spec L2 L3 DL
open PyProof.Rows hiding St
def tz (a:List Str) (z:Str):List Str:=a.take (a.idxOf z) ++ [z]
def Sk {a:List Str} {z:Str} (h:z ∈ a):a.take (a.idxOf z + 1)=tz a z:=by
 have hl:a.idxOf z < a.length:=List.idxOf_lt_length_of_mem h
 rw [List.take_succ,List.getElem?_eq_getElem hl,List.getElem_idxOf hl]
 rfl
def Wv {a:List Str} {z:Str} (h:z ∉ a):a ++ [z]=tz a z:=by
 unfold tz
 rw [List.idxOf_eq_length h,List.take_length]
def Ww (a:List Str) (z:Str):(tz a z).length <= a.length + 1:=by
 unfold tz
 rw [zLa,List.length_take]
 simp
 omega
def upN:D->Nat
 | .tup [_,_,.int u,_,_]=>u.toNat
 | _=>0
def upOf (cl:List D) (k:Nat):Nat:=upN (cl.getD k .non)
def nmD:D->Str
 | .tup [.str z,_,_,_,_]=>z
 | _=>""
def nmOf (cl:List D) (k:Nat):Str:=nmD (cl.getD k .non)
def wayF (cl:List D) (k:Nat):List Str:=if h:upOf cl k < k then tz (wayF cl (upOf cl k)) (nmOf cl k) else [nmOf cl k]
termination_by k
def Sj {cl:List D} {k u:Nat} (e:upOf cl k=u) (h:u < k):wayF cl k=tz (wayF cl u) (nmOf cl k):=by
 subst e
 rw [wayF,dif_pos h]
def O9 {cl:List D}:wayF cl 0=tz [] (nmOf cl 0):=by
 rw [wayF,dif_neg (Nat.not_lt_zero _)]
 rfl
def Oa (cl:List D) (k:Nat):(wayF cl k).length <= k + 1:=by
 induction k using Nat.strongRecOn with
 | _ k ih =>
  rw [wayF]
  by_cases h:upOf cl k < k
  ·rw [dif_pos h]
   have:=Ww (wayF cl (upOf cl k)) (nmOf cl k)
   have:=ih _ h
   omega
  ·rw [dif_neg h]
   simp
def wyD (a:List Str):D:=.tup (a.map D.str)
def kz (a:List Str):TK:=a.map Sum.inr
def Ur {a b:List Str} (h:kz a=kz b):a=b:=List.map_inj_right (λa b e=>Sum.inr.inj e) |>.mp h
def Mz (a:List Str):tkD (kz a)=wyD a:=by
 unfold tkD kz wyD
 rw [List.map_map]
 rfl
def Nz (a:List Str):keyT (wyD a)=some (kz a):=by rw [<- Mz,M0]
def Po {es:List (List Str)} {k:List Str}:kz k ∈ es.map kz ↔ k ∈ es:=by
 rw [List.mem_map]
 exact ⟨λ⟨a,h,e⟩=>Ur e ▸ h,λh=>⟨k,h,rfl⟩⟩
def Pn (f:List Str->D) (k:List Str):∀ es:List (List Str),xk (es.map kz) (es.map f) (kz k)=if k ∈ es then some (f k) else none
 | []=>by simp [xk]
 | a :: es=>by
  rw [List.map_cons,List.map_cons,xk]
  by_cases e:a=k
  ·subst e
   rw [if_pos rfl,if_pos List.mem_cons_self]
  ·rw [if_neg (λz=>e (Ur z)),Pn f k es]
   by_cases m:k ∈ es
   ·rw [if_pos m,if_pos (List.mem_cons_of_mem _ m)]
   ·rw [if_neg m,if_neg (by simp [m,Ne.symm e])]
def putE (es:List (List Str)) (k:List Str):List (List Str):=if k ∈ es then es else es ++ [k]
def J6 (es:List (List Str)) (k:List Str):ui (es.map kz) (kz k)=(putE es k).map kz:=by
 unfold ui putE
 by_cases m:k ∈ es
 ·rw [if_pos (Po.mpr m),if_pos m]
 ·rw [if_neg (λz=>m (Po.mp z)),if_neg m,zMa]
  rfl
def Pz (f:List Str->D) (k:List Str) (v:D):∀ es:List (List Str),es.Nodup->xr (es.map kz) (es.map f) (kz k) v=(putE es k).map λx=>if x=k then v else f x
 | [],_=>by simp [xr,putE]
 | a :: es,nd=>by
  obtain ⟨n1,n2⟩:=List.nodup_cons.mp nd
  rw [List.map_cons,List.map_cons,xr]
  by_cases e:a=k
  ·subst e
   rw [if_pos rfl]
   unfold putE
   rw [if_pos List.mem_cons_self,List.map_cons,if_pos rfl]
   congr 1
   exact List.map_congr_left λx hx=>by rw [if_neg (show ¬ x=a from λz=>n1 (z ▸ hx))]
  ·rw [if_neg (λz=>e (Ur z)),Pz f k v es n2]
   unfold putE
   by_cases m:k ∈ es
   ·rw [if_pos m,if_pos (List.mem_cons_of_mem _ m),List.map_cons,if_neg e]
   ·rw [if_neg m,if_neg (by simp [m,Ne.symm e]),List.cons_append,List.map_cons,if_neg e]
def Xr {es:List (List Str)} {k:List Str} (nd:es.Nodup):(putE es k).Nodup:=by
 unfold putE
 split
 ·exact nd
 ·rename_i h
  exact List.nodup_append.mpr ⟨nd,by simp,by intro a ha b hb e; simp at hb; subst hb; exact h (e ▸ ha)⟩
def Rh {es:List (List Str)} {k x:List Str}:x ∈ putE es k ↔ x ∈ es \/ x=k:=by
 unfold putE
 split
 ·rename_i h
  exact ⟨.inl,λz=>z.elim id λe=>e ▸ h⟩
 ·simp
abbrev Row:=List Str × Int
def x8:List Row->List Str->Int
 | [],_=>0
 | q :: l,w=>(if q.1=w then q.2 else 0) + x8 l w
def gw (w:List Str):∀ a b:List Row,x8 (a ++ b) w=x8 a w + x8 b w
 | [],b=>by simp [x8]
 | q :: a,b=>by
  rw [List.cons_append,x8,x8,gw w a b]
  omega
def Xf (l:List Row) (q:Row) (w:List Str):x8 (l ++ [q]) w=x8 l w + if q.1=w then q.2 else 0:=by
 rw [gw]
 simp [x8]
def Xg {l:List Row} {w:List Str} (h:∀ q ∈ l,q.1 ≠ w):x8 l w=0:=by
 induction l with
 | nil=>rfl
 | cons q l ih =>
  rw [x8,if_neg (h q List.mem_cons_self),ih λx hx=>h x (List.mem_cons_of_mem _ hx)]
  rfl
def yu (ws:List (List Str)):List (List Str):=ws.foldl putE []
def vv (ws:List (List Str)) (w:List Str):yu (ws ++ [w])=putE (yu ws) w:=by
 unfold yu
 rw [List.foldl_append]
 rfl
def Vh {α:Type} {P:List α->Prop} (h0:P []) (h1:∀ l a,P l->P (l ++ [a])) (l:List α):P l:=by
 have:∀ l:List α,P l.reverse:=by
  intro l
  induction l with
  | nil=>exact h0
  | cons a l ih =>
   rw [List.reverse_cons]
   exact h1 _ _ ih
 have:=this l.reverse
 rwa [List.reverse_reverse] at this
def W1 (ws:List (List Str)):(yu ws).Nodup:=by
 induction ws using Vh with
 | h0=>exact List.nodup_nil
 | h1 l a ih=>rw [vv]; exact Xr ih
def Qe (ws:List (List Str)) (w:List Str):w ∈ yu ws ↔ w ∈ ws:=by
 induction ws using Vh with
 | h0=>exact Iff.rfl
 | h1 l a ih=>rw [vv,Rh,ih]; simp
def Qf (ws:List (List Str)):(yu ws).length <= ws.length:=by
 induction ws using Vh with
 | h0=>exact Nat.le_refl _
 | h1 l a ih =>
  rw [vv]
  unfold putE
  split
  ·simp; omega
  ·simp; omega
def dtF (l:List Row):D:=.dt ((yu (l.map Prod.fst)).map kz) ((yu (l.map Prod.fst)).map λw=>.int (x8 l w))
def Hd (l:List Row) (w:List Str):(xk ((yu (l.map Prod.fst)).map kz) ((yu (l.map Prod.fst)).map λw=>D.int (x8 l w)) (kz w)).getD (.int 0)=.int (x8 l w):=by
 rw [Pn (λw=>D.int (x8 l w))]
 by_cases m:w ∈ yu (l.map Prod.fst)
 ·rw [if_pos m]
  rfl
 ·rw [if_neg m,Xg λq hq e=>m ((Qe _ _).mpr (List.mem_map.mpr ⟨q,hq,e⟩))]
  rfl
def Hc (l:List Row) (q:Row):D.dt (ui ((yu (l.map Prod.fst)).map kz) (kz q.1)) (xr ((yu (l.map Prod.fst)).map kz) ((yu (l.map Prod.fst)).map λw=>D.int (x8 l w)) (kz q.1) (.int (x8 l q.1 + q.2)))=dtF (l ++ [q]):=by
 unfold dtF
 rw [J6,Pz (λw=>D.int (x8 l w)) _ _ _ (W1 _),zMa,List.map_singleton,vv]
 congr 1
 refine List.map_congr_left λx _=>?_
 rw [Xf]
 by_cases e:x=q.1
 ·subst e
  rw [if_pos rfl,if_pos rfl]
 ·rw [if_neg e,if_neg (Ne.symm e),Int.add_zero]
def rowD (w:List Str) (x:Int):D:=.tup [wyD w,.int x]
def Qv (es:List (List Str)) (f:List Str->Int):ku (es.map kz) (es.map λw=>D.int (f w))=es.map λw=>rowD w (f w):=by
 unfold ku
 rw [List.zip_map',List.map_map]
 refine List.map_congr_left λw _=>?_
 show D.tup [tkD (kz w),_]=_
 rw [Mz]
 rfl
def Vb {α:Type} (f g:α->Int):∀ l:List α,(l.map λx=>f x + g x).sum=(l.map f).sum + (l.map g).sum
 | []=>rfl
 | x :: l=>by
  rw [List.map_cons,List.map_cons,List.map_cons,List.sum_cons,List.sum_cons,List.sum_cons,Vb f g l]
  omega
def Va {α:Type} [DecidableEq α] (a:α) (c:Int):∀ {l:List α},l.Nodup->(l.map λx=>if a=x then c else 0).sum=if a ∈ l then c else 0
 | [],_=>by simp
 | x :: l,nd=>by
  obtain ⟨n1,n2⟩:=List.nodup_cons.mp nd
  rw [List.map_cons,List.sum_cons,Va a c n2]
  by_cases e:a=x
  ·subst e
   rw [if_pos rfl,if_neg n1,if_pos List.mem_cons_self]
   omega
  ·rw [if_neg e]
   by_cases m:a ∈ l
   ·rw [if_pos m,if_pos (List.mem_cons_of_mem _ m)]
    omega
   ·rw [if_neg m,if_neg (by simp [e,m])]
    omega
def add1 (l:List Int) (j:Nat) (x:Int):List Int:=l.set j (l.getD j 0 + x)
def ownF (pr:Str->Int) (n:Nat) (ss:List (Nat × Str)):List Int:=ss.foldl (λacc p=>add1 acc p.1 (pr p.2)) (List.replicate n 0)
def X6 (l:List Int) (j:Nat) (x:Int):(add1 l j x).length=l.length:=by unfold add1; simp
def P6 {l:List Int} {j:Nat} (x:Int) (hj:j < l.length) (k:Nat):(add1 l j x).getD k 0=l.getD k 0 + if j=k then x else 0:=by
 unfold add1
 rw [List.getD_eq_getElem?_getD,List.getElem?_set]
 by_cases e:j=k
 ·subst e
  rw [if_pos rfl,if_pos hj,if_pos rfl]
  rfl
 ·rw [if_neg e,if_neg e,List.getD_eq_getElem?_getD]
  omega
def xv (W:Nat->List Str) (own:List Int) (n:Nat):List Row:=(List.range n).map λk=>(W k,own.getD k 0)
def vm (f:Nat->List Str) (g:Nat->Int) (w:List Str):∀ l:List Nat,x8 (l.map λk=>(f k,g k)) w=(l.map λk=>if f k=w then g k else 0).sum
 | []=>rfl
 | k :: l=>by rw [List.map_cons,x8,vm f g w l,List.map_cons,List.sum_cons]
def Vp (W:Nat->List Str) {own:List Int} {n j:Nat} (x:Int) (hn:own.length=n) (hj:j < n) (w:List Str):x8 (xv W (add1 own j x) n) w=x8 (xv W own n) w + if W j=w then x else 0:=by
 unfold xv
 rw [vm W (λk=>(add1 own j x).getD k 0),vm W (λk=>own.getD k 0)]
 rw [show ((List.range n).map λk=>if W k=w then (add1 own j x).getD k 0 else 0)=(List.range n).map (λk=>(if W k=w then own.getD k 0 else 0) + if j=k then (if W j=w then x else 0) else 0) from List.map_congr_left λk _=>by
  rw [P6 x (by omega)]
  by_cases e:j=k
  ·subst e
   by_cases m:W j=w
   ·simp [m]
   ·simp [m]
  ·simp [e]]
 rw [Vb,Va j _ List.nodup_range,if_pos (List.mem_range.mpr hj)]
def wm (W:Nat->List Str) (pr:Str->Int) (w:List Str):List (Nat × Str)->Int
 | []=>0
 | p :: ss=>(if W p.1=w then pr p.2 else 0) + wm W pr w ss
def gy (W:Nat->List Str) (pr:Str->Int) (w:List Str) (p:Nat × Str):∀ ss:List (Nat × Str),wm W pr w (ss ++ [p])=wm W pr w ss + if W p.1=w then pr p.2 else 0
 | []=>by simp [wm]
 | q :: ss=>by
  rw [List.cons_append,wm,wm,gy W pr w p ss]
  omega
def fj (pr:Str->Int) (n:Nat) (ss:List (Nat × Str)) (p:Nat × Str):ownF pr n (ss ++ [p])=add1 (ownF pr n ss) p.1 (pr p.2):=by
 unfold ownF
 rw [List.foldl_append]
 rfl
def tj (pr:Str->Int) (n:Nat) (ss:List (Nat × Str)):(ownF pr n ss).length=n:=by
 induction ss using Vh with
 | h0=>simp [ownF]
 | h1 l a ih=>rw [fj,X6,ih]
def Xl (W:Nat->List Str) (pr:Str->Int) (n:Nat) (w:List Str) (ss:List (Nat × Str)):(∀ p ∈ ss,p.1 < n)->x8 (xv W (ownF pr n ss) n) w=wm W pr w ss:=by
 induction ss using Vh with
 | h0 =>
  intro _
  unfold xv ownF
  rw [List.foldl_nil,vm W (λk=>(List.replicate n (0:Int)).getD k 0)]
  show _=(0:Int)
  rw [show ((List.range n).map λk=>if W k=w then (List.replicate n (0:Int)).getD k 0 else 0)=(List.range n).map (λ_=>(0:Int)) from List.map_congr_left λk hk=>by
   have:k < n:=List.mem_range.mp hk
   rw [List.getD_eq_getElem?_getD,List.getElem?_replicate,if_pos this]
   simp]
  induction n with
  | zero=>rfl
  | succ n ih=>rw [List.range_succ,zMa,List.sum_append,ih (λ_ h=>nomatch h)]; rfl
 | h1 l p ih =>
  intro h
  rw [fj,Vp W _ (tj pr n l) (h p (by simp)),ih λq hq=>h q (by simp [hq]),gy]
def Mx (pr:Str->Int) (ss:List (Nat × Str)):Int:=(ss.map λp=>pr p.2).sum
def R5 (W:Nat->List Str) (own:List Int) (n:Nat):(xv W own n).map Prod.fst=(List.range n).map W:=by
 unfold xv
 rw [List.map_map]
 rfl
local macro_rules | `(tactic| walk_at "dl")=>do
 let ids <- (("sNil sSeq sRet sIf sSet Ls sUn d2 d1 ww dC slot setS EV.sto EV.ret aNil wk dTup dLst Wj dCB kf vAnd vNot vIf bOr bNot bYes tTru tBo truD sSub sFd sMod sPow sLt sGe sI sI0 sAdd sMul sNeg sEq sNe sIs M7 sIx sSl dSl J2 J1 sLen sIsI sTupC sApp iSeq iR1 Pq gN gT2 wd Zd dg W3 Zj Zg dm Zf Zc Zb jq Za d8 dh ju Zh List.map_cons List.map_nil zLc zLn List.cons_append List.nil_append List.replicate_succ List.replicate_zero Nat.reduceAdd Nat.reduceSub Nat.zero_add Nat.sub_self Bool.and_self Bool.and_true Bool.true_and true_and and_true Bool.not_true Bool.not_false forall_const true_implies false_implies Bool.true_eq_false Bool.false_eq_true reduceCtorEq implies_true yv Kz U7 Nk qd Mh Jv xw pureD x6 Bool.not_eq_eq_eq_not beq_eq_false_iff_ne beq_iff_eq ne_eq decide_eq_true_eq decide_eq_false_iff_not Bool.not_eq_true Bool.not_eq_false not_true_eq_false not_false_eq_true Gu Gs Gr and_self Nat.beq_eq Nat.ble_eq Nat.reduceLeDiff eq_self Nat.reduceEqDiff sIxx Gq keyD sIn qu cp10 Int.reduceLE Int.reduceToNat V3 S5 zLm Option.map_some Int.zero_add Vn Int.reduceEq Int.reduceNeg Int.reduceLT Pd O3 sTry hanZ clrS frzE Option.map_none dIsE sFrz frzS iZ Sx Sv Sw sSum dw Hf Hh dSlT Rl ji Vo db jr jt du jv d9 Ze di W2 Zi dq sEqS iCn sLenC P1 O0 O1 sInT O2 Vm seqD sDictC sLenD iRD sClr Ow Lq Yk sMax Hg sDictP Ox sLenF".splitOn " ").toArray).mapM λs=>`(Lean.Parser.Tactic.simpLemma| $(Lean.mkIdent s.toName):ident)
 `(tactic| simp only [$ids,*])
seal SDs SD ED EA ET EW
structure Tops (mg:Str->Option Value):Prop where
 ValueError:mg "ValueError" = none
 all:mg "all" = none
 bool:mg "bool" = none
 dict:mg "dict" = none
 int:mg "int" = none
 isinstance:mg "isinstance" = none
 len:mg "len" = none
 list:mg "list" = none
 max:mg "max" = none
 range:mg "range" = none
 sum:mg "sum" = none
 tuple:mg "tuple" = none
 zip:mg "zip" = none
section
variable {P:Program} {w:World} {K:W.Frag} {mg:Str->Option Value} {base:Heap} {f:Addr} {fd:FuncData}
def yw:List Str:=["call", "make", "sum", "let", "less", "open"]
def yb:List Str:=["call", "make", "sum", "let", "less", "open", "hold"]
structure Con (K:W.Frag) (mg:Str->Option Value):Prop where
 c_KINDS:GC K mg "KINDS" (.cn (.tup (yw.map Cst.str)))
 c_WORDS:GC K mg "WORDS" (.cn (.tup (yb.map Cst.str)))
def Tab (d:D) (pr:Str->Int):Prop:=∃ (ks:List Str) (ns:List Int),d=.dk (ks.map Sum.inr) (ns.map D.int) /\ ks.length=7 /\
 ∀ w ∈ yb,zw (ks.map Sum.inr) (ns.map D.int) (Sum.inr w)=some (.int (pr w)) /\ (Sum.inr w:Key) ∈ ks.map Sum.inr /\ 0 <= pr w
def V6:FT:=w1 λi φ=>φ (dv (.bl (decide (0 <= i))))
def vj:FT:=g1 λd φ=>∃ pr,Tab d pr /\ φ (dv .non)
def Wu:yb.length=7:=rfl
def gl (l:List D):(l.filterMap λ_=>some (D.bl true))=(List.replicate l.length true).map D.bl:=by
 induction l with
 | nil=>rfl
 | cons d l ih=>rw [List.filterMap_cons,ih]; rfl
def bx (n:Nat):(List.replicate n true).all id=true:=by
 induction n with
 | zero=>rfl
 | succ n ih=>rw [List.replicate_succ,List.all_cons,ih]; rfl
def Ho (cl:List D):cl.filterMap (λ_=>some (D.int 0))=nsD (List.replicate cl.length 0):=by
 unfold nsD
 induction cl with
 | nil=>rfl
 | cons c cl ih=>rw [List.filterMap_cons,ih]; rfl
def stD (p:Nat × Str):D:=.tup [.int p.1,.str p.2]
def stsD (ss:List (Nat × Str)):List D:=ss.map stD
def Sts (ss:List (Nat × Str)) (n:Nat):Prop:=ss.length <= 1000 /\ ∀ p ∈ ss,p.1 < n /\ p.2 ∈ yw
def vc {w:Str} (h:w ∈ yw):w ∈ yb:=by
 unfold yb
 unfold yw at h
 simp only [List.mem_cons,List.not_mem_nil,or_false] at h ⊢
 rcases h with h | h | h | h | h | h <;> simp [h]
def Xa (i:Nat) (d:D):Prop:=∃ (nm:Str) (ar up dn va:D),d=.tup [.str nm,ar,up,dn,va] /\ (pureD d /\ ∃ al:List D,ar=.tup al /\ al.length <= 4) /\ (∀ n,okD (n + 5) d) /\ (i=0->up=.non) /\ (0 < i->∃ u:Nat,up=.int u /\ u < i)
def Calls (cl:List D):Prop:=cl.length <= 100 /\ ∀ i d,cl[i]?=some d->Xa i d
def Y8:FT:=g2 λs d φ=>∃ ss pr n,s=.lst (stsD ss) /\ Sts ss n /\ Tab d pr /\ φ (dv (.int (Mx pr ss)))
def tOwn:FT:=g3 λc s d φ=>∃ cl ss pr,c=.lst cl /\ Calls cl /\ s=.lst (stsD ss) /\ Sts ss cl.length /\ Tab d pr /\ φ (df (.lst (nsD (ownF pr cl.length ss))))
def xh (ns:List Int):x6 (ns.map D.int):=yf.mpr λd hd=>by
 obtain ⟨n,_,rfl⟩:=List.mem_map.mp hd
 trivial
def Wa {α β:Type} {f:β->α->β} {b:β} {l:List α} {i:Nat} {x:α} (h:l[i]?=some x):(l.take (i + 1)).foldl f b=f ((l.take i).foldl f b) x:=by
 rw [List.take_succ,h]
 simp
def Ux {n i:Nat} (h:i < n):ixN n (i:Int)=some i:=by
 unfold ixN
 rw [if_pos (by omega),if_pos (by omega)]
 simp
def Z1 {l:List Int} {i:Nat} (h:i < l.length):(nsD l)[i]?=some (.int (l.getD i 0)):=by
 unfold nsD
 simp [List.getD,h]
def U9 (l:List Int) (i:Nat) (x:Int):(nsD l).set i (.int x)=nsD (l.set i x):=by
 unfold nsD
 rw [List.map_set]
def Zs (T:Tops mg) (F:Fun K "is_whole" "is_whole" (top 13) f fd) (m:mg "is_whole" = some (.ref f)):FD P w K mg base 1 "is_whole" ["thing"] sf:=by
 have S:zj ["thing"] ["thing"] (zb (top 13)):=⟨rfl,rfl,rfl,by decide +kernel,rfl,by decide +kernel,by decide +kernel⟩
 refine xp F S (F.binds λ_ _ _ _ _ _ us hl=>(by obtain ⟨_,rfl⟩:=jn hl; rfl)) m λqZ A outer s H E ds φ hr hl hT=>?_
 have hu:=hr.units
 refine ⟨_,(zh (zx (xy (cy T.isinstance (za (z9 0) (za (Jy T.int S3) zd))) (qf (v5 (cy T.isinstance (za (z9 0) (za (Jy T.bool Wp) zd)))))))),?_⟩
 obtain ⟨d,rfl,hp,h⟩:=Wg hT
 cases d <;> first | (cases hp; done) | (walk_at "dl"; exact h) | (walk_at "dl"; exact ⟨λz=>(by cases z),λ_=>h⟩)
def Zt (T:Tops mg) (Fl:FD P w K mg base 1 "is_whole" ["thing"] sf) (F:Fun K "is_price" "is_price" (top 17) f fd) (m:mg "is_price" = some (.ref f)):FD P w K mg base 2 "is_price" ["thing"] V6:=by
 have S:zj ["thing"] ["thing"] (zb (top 17)):=⟨rfl,rfl,rfl,by decide +kernel,rfl,by decide +kernel,by decide +kernel⟩
 refine xp F S (F.binds λ_ _ _ _ _ _ us hl=>(by obtain ⟨_,rfl⟩:=jn hl; rfl)) m λqZ A outer s H E ds φ hr hl hT=>?_
 have hu:=hr.units
 refine ⟨_,(zh (zx (xy (zk Fl (hr.mono (by decide)) (za (z9 0) zd)) (qf (Ha (z9 0) zc))))),?_⟩
 obtain ⟨i,rfl,h⟩:=Mu hT
 walk_at "dl"
 simp only [sf,g1,uo,Y4]
 walk_at "dl"
 exact h
def qx (T:Tops mg) (Z:Con K mg) (Fm:FD P w K mg base 2 "is_price" ["thing"] V6) (F:Fun K "check_table" "check_table" (top 18) f fd) (m:mg "check_table" = some (.ref f)):FD P w K mg base 3 "check_table" ["table"] vj:=by
 have S:zj ["table"] ["table"] (zb (top 18)):=⟨rfl,rfl,rfl,by decide +kernel,rfl,by decide +kernel,by decide +kernel⟩
 refine xp F S (F.binds λ_ _ _ _ _ _ us hl=>(by obtain ⟨_,rfl⟩:=jn hl; rfl)) m λqZ A outer s H E ds φ hr hl hT=>?_
 have hu:=hr.units
 refine ⟨_,(ze (xf (EW.et (Td (Ql hu (Mo T.len (za (z9 0) zd)) (Tl T.len (za (vd Z.c_WORDS) zd))) (cv (j0 (qb (g0 T.all (za (wq (T:=["word"]) (F:=["table"]) (js:=[0]) (Tg (vd Z.c_WORDS)) (show zt (zb (top 18)) _ ["word"] ["table"] from ⟨rfl,by decide +kernel,by decide +kernel,by decide +kernel,by decide +kernel,by decide +kernel⟩) (.cons rfl .nil) (by decide) (λcl C fp s H=>(zu (i:=0) (show ((["word"]:List Str) ++ (["table"]:List Str)).Nodup by decide +kernel) rfl (by walk_at "o"))) (xn (by decide)) (yi 0) (λcl C fp s H=>xu) (λcl C fp s H=>(Jz hu (z9 0) (z9 1)))) zd))))))) (zh Yc) yh)
   (zh (xf (j0 (qb (g0 T.all (za (wq (T:=["word"]) (F:=["table"]) (js:=[0]) (Tg (vd Z.c_WORDS)) (show zt (zb (top 18)) _ ["word"] ["table"] from ⟨rfl,by decide +kernel,by decide +kernel,by decide +kernel,by decide +kernel,by decide +kernel⟩) (.cons rfl .nil) (by decide) (λcl C fp s H=>(zu (i:=0) (show ((["word"]:List Str) ++ (["table"]:List Str)).Nodup by decide +kernel) rfl (by walk_at "o"))) (xn (by decide)) (yi 0) (λcl C fp s H=>xu) (λcl C fp s H=>(zk Fm (hr.mono (by decide)) (za (y0 hu (z9 1) (z9 0)) zd)))) zd)))) (zh Yc) yh))),?_⟩
 obtain ⟨d,rfl,pr,⟨ks,ns,rfl,hk,hw⟩,h⟩:=Wg hT
 have hl:(yb.map D.str).length <= 100000:=by decide
 walk_at "dl"
 rw [hk,Wu]
 refine ⟨λz=>absurd rfl z,λ_=>?_⟩
 refine xc (yb.map D.str) (λψ hψ=>?_) (λ_=>some (.bl true)) hl ?_ ?_
 ·walk_at "dl"
  exact hψ
 ·intro d hd
  obtain ⟨w,hm,rfl⟩:=List.mem_map.mp hd
  have q:=(hw w hm).2.1
  simp only [ρ0,List.map_cons,List.map_nil,List.replicate,List.cons_append,List.nil_append]
  walk_at "dl"
  simp only [q,decide_true]
  rfl
 ·rw [gl]
  walk_at "dl"
  simp only [tu,bx]
  walk_at "dl"
  refine xc (yb.map D.str) (λψ hψ=>?_) (λ_=>some (.bl true)) hl ?_ ?_
  ·walk_at "dl"
   exact hψ
  ·intro d hd
   obtain ⟨w,hm,rfl⟩:=List.mem_map.mp hd
   obtain ⟨q1,q2,q3⟩:=hw w hm
   simp only [ρ0,List.map_cons,List.map_nil,List.replicate,List.cons_append,List.nil_append]
   walk_at "dl"
   simp only [q1,V6,w1,q3,decide_true]
   walk_at "dl"
  ·rw [gl]
   walk_at "dl"
   simp only [tu,bx]
   exact ⟨λz=>(by cases z),λ_=>h⟩
def Zp (T:Tops mg) (Gz:FD P w K mg base 3 "check_table" ["table"] vj) (F:Fun K "price_of" "price_of" (top 19) f fd) (m:mg "price_of" = some (.ref f)):FD P w K mg base 4 "price_of" ["steps", "table"] Y8:=by
 have S:zj ["steps", "table"] ["steps", "table"] (zb (top 19)):=⟨rfl,rfl,rfl,by decide +kernel,rfl,by decide +kernel,by decide +kernel⟩
 refine xp F S (F.binds λ_ _ _ _ _ _ us hl=>(by obtain ⟨_,_,rfl⟩:=rf hl; rfl)) m λqZ A outer s H E ds φ hr hl hT=>?_
 have hu:=hr.units
 refine ⟨_,(ze (w6 (zk Gz (hr.mono (by decide)) (za (z9 1) zd)))
   (zh (zx (Ml T.sum (za (wq (T:=["number", "kind"]) (F:=["table"]) (js:=[1]) (qe (z9 0)) (show zt (zb (top 19)) _ ["number", "kind"] ["table"] from ⟨rfl,by decide +kernel,by decide +kernel,by decide +kernel,by decide +kernel,by decide +kernel⟩) (.cons rfl .nil) (by decide) (λcl C fp s H=>(sy (K0:=K) (n:=2) (by rfl) (by rfl) (yy (zu (i:=0) (show ((["number", "kind"]:List Str) ++ (["table"]:List Str)).Nodup by decide +kernel) rfl (by walk_at "o")) (yy (zu (i:=1) (show ((["number", "kind"]:List Str) ++ (["table"]:List Str)).Nodup by decide +kernel) rfl (by walk_at "o")) sx)))) (Jp (T4 Zm (Mf Zm Pu) (xn (by decide)) (T4 Zm Pu (xn (by decide)) Jq))) (rm 0 1) (λcl C fp s H=>xu) (λcl C fp s H=>(y0 hu (z9 2) (z9 1)))) zd))))),?_⟩
 obtain ⟨s0,d,rfl,ss,pr,n,rfl,hs,ht,h⟩:=Tb hT
 walk_at "dl"
 simp only [vj,g1]
 refine ⟨pr,ht,?_⟩
 obtain ⟨ks,ns,rfl,hk,hw⟩:=ht
 refine xc (stsD ss) (λψ hψ=>?_) (λd=>match d with | .tup [_,.str w]=>some (.int (pr w)) | _=>none) (by unfold stsD; rw [zLm]; have:=hs.1; omega) ?_ ?_
 ·walk_at "dl"
  exact hψ
 ·intro d hd
  obtain ⟨q,hq,rfl⟩:=List.mem_map.mp hd
  have q1:=(hw q.2 (vc (hs.2 q hq).2)).1
  simp only [ρ0,List.map_cons,List.map_nil,List.replicate,List.cons_append,List.nil_append,stD]
  walk_at "dl"
  simp only [q1]
 ·have e:(stsD ss).filterMap (λd=>match d with | .tup [_,.str w]=>some (D.int (pr w)) | _=>none)=(ss.map λp=>pr p.2).map D.int:=by
   unfold stsD
   rw [List.filterMap_map,List.map_map]
   exact congrFun (List.filterMap_eq_map (f:=λp:Nat × Str=>D.int (pr p.2))) ss
  rw [e]
  walk_at "dl"
  exact h
def h8 (T:Tops mg) (Gz:FD P w K mg base 3 "check_table" ["table"] vj) (F:Fun K "own_prices" "own_prices" (top 21) f fd) (m:mg "own_prices" = some (.ref f)):FD P w K mg base 4 "own_prices" ["calls", "steps", "table"] tOwn:=by
 have S:zj ["calls", "steps", "table", "prices", "number", "kind"] ["calls", "steps", "table"] (zb (top 21)):=⟨rfl,rfl,rfl,by decide +kernel,rfl,by decide +kernel,by decide +kernel⟩
 refine xp F S (F.binds λ_ _ _ _ _ _ us hl=>(by obtain ⟨_,_,_,rfl⟩:=Z6 hl; rfl)) m λqZ A outer s H E ds φ hr hl hT=>?_
 have hu:=hr.units
 refine ⟨_,(ze (w6 (zk Gz (hr.mono (by decide)) (za (z9 2) zd)))
   (ze (kh (T:=["call"]) (F:=[]) (js:=[]) 3 S.nd (qe (z9 0)) (show zt (zb (top 21)) _ ["call"] [] from ⟨rfl,by decide +kernel,by decide +kernel,by decide +kernel,by decide +kernel,by decide +kernel⟩) .nil (by decide) (λcl C fp s H=>(zu (i:=0) (show ((["call"]:List Str) ++ ([]:List Str)).Nodup by decide +kernel) rfl (by walk_at "o"))) (xn (by decide)) (yi 0) (λcl C fp s H=>xu) (λcl C fp s H=>zc))
   (ze (wn (qe (z9 1)) (sy (K0:=K) (n:=2) (by rfl) (by rfl) (yy (zu (i:=4) S.nd rfl (by walk_at "o")) (yy (zu (i:=5) S.nd rfl (by walk_at "o")) sx))) (rm 4 5) (zh (Vi 3 (z9 4) (y0 hu (z9 2) (z9 5)))))
   (zh (zx (z9 3)))))),?_⟩
 obtain ⟨c0,s0,d,rfl,cl,ss,pr,rfl,hc,rfl,hs,ht,h⟩:=Qk hT
 walk_at "dl"
 simp only [vj,g1]
 refine ⟨pr,ht,?_⟩
 obtain ⟨ks,ns,rfl,hk,hw⟩:=ht
 try walk_at "dl"
 refine xc cl (λψ hψ=>?_) (λd=>some (.int 0)) (by have:=hc.1; omega) ?_ ?_
 ·walk_at "dl"
  exact hψ
 ·intro d hd
  simp only [ρ0,List.map_cons,List.map_nil,List.replicate,List.cons_append,List.nil_append,List.append_nil]
  walk_at "dl"
 rw [Ho cl]
 walk_at "dl"
 refine xg (stsD ss) (λψ hψ=>?_) (λi ρ=>∃ a4 a5,ρ=[some (dv (.lst cl)),some (dv (.lst (stsD ss))),some (dv (.dk (ks.map Sum.inr) (ns.map D.int))),some (dO (.lst (nsD (ownF pr cl.length (ss.take i))))),a4,a5]) ⟨none,none,rfl⟩ ?_ ?_
 ·walk_at "dl"
  exact hψ
 ·rintro i d ρ hd ⟨a4,a5,rfl⟩
  unfold stsD at hd
  rw [List.getElem?_map] at hd
  obtain ⟨q,eq⟩:∃ q,ss[i]?=some q:=by
   cases e:ss[i]? with
   | none=>rw [e] at hd; cases hd
   | some q=>exact ⟨q,rfl⟩
  rw [eq] at hd
  cases hd
  have hq:=hs.2 q (List.mem_of_getElem? eq)
  have q1:=(hw q.2 (vc hq.2)).1
  have hl:=tj pr cl.length (ss.take i)
  have e1:ixN (nsD (ownF pr cl.length (ss.take i))).length (q.1:Int)=some q.1:=Ux (by unfold nsD; rw [zLm,hl]; exact hq.1)
  have e2:=Z1 (l:=ownF pr cl.length (ss.take i)) (i:=q.1) (by rw [hl]; exact hq.1)
  simp only [stD]
  walk_at "dl"
  simp only [e1,e2,q1]
  rw [U9,show ownF pr cl.length (ss.take (i + 1))=add1 (ownF pr cl.length (ss.take i)) q.1 (pr q.2) from Wa eq]
  exact ⟨_,_,rfl⟩
 ·rintro ρ ⟨a4,a5,rfl⟩
  have e3:(stsD ss).length=ss.length:=by unfold stsD; simp
  rw [e3,List.take_length]
  walk_at "dl"
  exact ⟨xh _,h⟩
def Vf (cl:List D) (l:List Int) (k:Nat):List Int:=add1 l (upOf cl k) (l.getD k 0)
def wc (cl:List D) (l:List Int) (n:Nat):List Int:=((List.range n).map λi=>cl.length - 1 - i).foldl (Vf cl) l
def V4:FT:=g3 λc s d φ=>∃ cl ss pr,c=.lst cl /\ Calls cl /\ s=.lst (stsD ss) /\ Sts ss cl.length /\ Tab d pr /\ φ (df (.lst (nsD (wc cl (ownF pr cl.length ss) (cl.length - 1)))))
def cnt (ss:List (Nat × Str)) (w:Str):Nat:=(ss.filter λp=>decide (p.2=w)).length
def parts (pr:Str->Int) (ss:List (Nat × Str)):List Int:=yw.map λw=>pr w * cnt ss w
def Yr (pr:Str->Int) (ss:List (Nat × Str)):D:=.dk (yw.map Sum.inr) ((parts pr ss).map D.int)
def V9:FT:=g2 λs d φ=>∃ ss pr n,s=.lst (stsD ss) /\ Sts ss n /\ Tab d pr /\ φ (df (Yr pr ss))
def Ui {f:Str->Int}:∀ {ks:List Str} {w:Str},w ∈ ks->zw (ks.map Sum.inr) ((ks.map f).map D.int) (Sum.inr w)=some (.int (f w))
 | [],_,h=>by cases h
 | k :: ks,w,h=>by
  rw [List.map_cons,List.map_cons,List.map_cons,zw]
  by_cases e:k=w
  ·subst e; rw [if_pos rfl]
  ·rw [if_neg (by intro z; exact e (Sum.inr.inj z))]
   rcases List.mem_cons.mp h with h | h
   ·exact absurd h.symm e
   ·exact Ui h
def Tq {f:Str->Int} {x:Int}:∀ {ks:List Str} {w:Str},ks.Nodup->w ∈ ks->dput (ks.map Sum.inr) ((ks.map f).map D.int) (Sum.inr w) (.int x)=(ks.map λk=>if k=w then x else f k).map D.int
 | [],_,_,h=>by cases h
 | k :: ks,w,nd,h=>by
  rw [List.map_cons,List.map_cons,List.map_cons,dput,List.map_cons,List.map_cons]
  have nd':=List.nodup_cons.mp nd
  by_cases e:k=w
  ·subst e
   rw [if_pos rfl,if_pos rfl]
   congr 1
   congr 1
   exact List.map_congr_left λj hj=>by rw [if_neg (by intro z; subst z; exact nd'.1 hj)]
  ·rw [if_neg (by intro z; exact e (Sum.inr.inj z)),if_neg e]
   rcases List.mem_cons.mp h with h | h
   ·exact absurd h.symm e
   ·rw [Tq nd'.2 h]
def Z8:yw.Nodup:=by decide
def W0 {w:Str} (h:w ∈ yw):kput (yw.map Sum.inr) (Sum.inr w)=yw.map Sum.inr:=by
 unfold kput
 rw [if_pos (List.mem_map.mpr ⟨w,h,rfl⟩)]
def P2 {ss:List (Nat × Str)} {i:Nat} {p:Nat × Str} (h:ss[i]?=some p) (w:Str):cnt (ss.take (i + 1)) w=cnt (ss.take i) w + if p.2=w then 1 else 0:=by
 unfold cnt
 rw [List.take_succ,h]
 by_cases e:p.2=w <;> simp [List.filter_append,e]
def Xv {pr:Str->Int} {ss:List (Nat × Str)} {i:Nat} {p:Nat × Str} (h:ss[i]?=some p) (hk:p.2 ∈ yw) :
  dput (yw.map Sum.inr) ((parts pr (ss.take i)).map D.int) (Sum.inr p.2) (.int (pr p.2 * cnt (ss.take i) p.2 + pr p.2))=(parts pr (ss.take (i + 1))).map D.int:=by
 unfold parts
 rw [Tq Z8 hk]
 congr 1
 refine List.map_congr_left λw _=>?_
 rw [P2 h w]
 by_cases e:p.2=w
 ·subst e
  rw [if_pos rfl,if_pos rfl,Int.natCast_add,Int.mul_add]
  omega
 ·rw [if_neg (Ne.symm e),if_neg e]
  rfl
def Gv:D->Nat
 | .tup [_,.tup al,_,_,_]=>al.length
 | _=>0
def szA (cl:List D) (k:Nat):Int:=(Gv (cl.getD k .non):Int) + 1
def u4 (cl:List D) (p:Int) (k:Nat):Int:=p * szA cl k + (if h:0 < k /\ upOf cl k < k then u4 cl p (upOf cl k) else 0)
termination_by k
decreasing_by exact h.2
def T2 (cl:List D) (p:Int):u4 cl p 0=p * szA cl 0:=by
 rw [u4,dif_neg (by omega)]
 omega
def Me {cl:List D} {p:Int} {k:Nat} (h0:0 < k) (h1:upOf cl k < k):u4 cl p k=p * szA cl k + u4 cl p (upOf cl k):=by
 rw [u4,dif_pos ⟨h0,h1⟩]
def hs (cl:List D) (p:Int) (n:Nat):List Int:=(List.range n).map (u4 cl p)
def jc:FT:=g2 λa d φ=>∃ k:Nat,∃ pr,a=.int k /\ k <= 4 /\ Tab d pr /\ φ (dv (.int (pr "hold" * (k + 1))))
def L8:FT:=g2 λc d φ=>∃ cl pr,c=.lst cl /\ Calls cl /\ Tab d pr /\ φ (dv (.int (maxI 0 (hs cl (pr "hold") cl.length))))
def Md (cl:List D) (p:Int) (n:Nat):hs cl p (n + 1)=hs cl p n ++ [u4 cl p n]:=by
 unfold hs
 rw [List.range_succ,zMa]
 rfl
def Jo {cl:List D} {p:Int} {n k:Nat} (h:k < n):(hs cl p n)[k]?=some (u4 cl p k):=by
 unfold hs
 rw [List.getElem?_map,List.getElem?_range h]
 rfl
def W5:("hold" : Str) ∈ yb:=by decide
def Ve (cl:List D) (l:List Int) (k:Nat):(Vf cl l k).length=l.length:=X6 _ _ _
def Xb (cl:List D) (l:List Int) (n:Nat):(wc cl l n).length=l.length:=by
 unfold wc
 have:∀ (ks:List Nat) (l:List Int),(ks.foldl (Vf cl) l).length=l.length:=by
  intro ks
  induction ks with
  | nil=>intro l; rfl
  | cons k ks ih=>intro l; rw [List.foldl_cons,ih,Ve]
 exact this _ _
def br (cl:List D) (l:List Int) (i:Nat):wc cl l (i + 1)=Vf cl (wc cl l i) (cl.length - 1 - i):=by
 unfold wc
 rw [List.range_succ,zMa,List.foldl_append]
 rfl
def qa (T:Tops mg) (Fb:FD P w K mg base 4 "own_prices" ["calls", "steps", "table"] tOwn) (F:Fun K "whole_prices" "whole_prices" (top 22) f fd) (m:mg "whole_prices" = some (.ref f)):FD P w K mg base 5 "whole_prices" ["calls", "steps", "table"] V4:=by
 have S:zj ["calls", "steps", "table", "prices", "number"] ["calls", "steps", "table"] (zb (top 22)):=⟨rfl,rfl,rfl,by decide +kernel,rfl,by decide +kernel,by decide +kernel⟩
 refine xp F S (F.binds λ_ _ _ _ _ _ us hl=>(by obtain ⟨_,_,_,rfl⟩:=Z6 hl; rfl)) m λqZ A outer s H E ds φ hr hl hT=>?_
 have hu:=hr.units
 refine ⟨_,(ze (zn 3 S.nd (zk Fb (hr.mono (by decide)) (za (z9 0) (za (z9 1) (za (z9 2) zd)))))
   (ze (wn (Tf T.range (za (Ti (qg T.len (za (z9 0) zd)) zc) (za zc (za (Yy zc) zd)))) (zu (i:=4) S.nd rfl (by walk_at "o")) (yi 4) (zh (Vi 3 (y0 hu (y0 hu (z9 0) (z9 4)) zc) (y0 hu (z9 3) (z9 4)))))
   (zh (zx (z9 3))))),?_⟩
 obtain ⟨c0,s0,d,rfl,cl,ss,pr,rfl,hc,rfl,hs,ht,h⟩:=Qk hT
 have hol:=tj pr cl.length ss
 have hc1:=hc.1
 walk_at "dl"
 simp only [tOwn,g3]
 refine ⟨cl,ss,pr,rfl,hc,rfl,hs,ht,?_⟩
 generalize ownF pr cl.length ss=own at *
 walk_at "dl"
 refine xg (jg (cl.length - 1:Int) (cl.length - 1)) (λψ hψ=>?_) (λi ρ=>∃ a4,ρ=[some (dv (.lst cl)),some (dv (.lst (stsD ss))),some (dv d),some (dO (.lst (nsD (wc cl own i)))),a4]) ⟨none,rfl⟩ ?_ ?_
 ·walk_at "dl"
  refine ⟨by omega,?_⟩
  rw [show ((cl.length:Int) - 1 - 0).toNat=cl.length - 1 by omega]
  exact hψ
 ·rintro i e ρ hd ⟨a4,rfl⟩
  obtain ⟨hi,rfl⟩:=Qy hd
  have hk:cl.length - 1 - i < cl.length:=by omega
  obtain ⟨dc,edc⟩:∃ dc,cl[cl.length - 1 - i]?=some dc:=⟨cl[cl.length - 1 - i],by simp [hk]⟩
  have hpos:0 < cl.length - 1 - i:=by omega
  obtain ⟨nm,ar,up,dn,va,rfl,hp,ho,u0,u1⟩:=hc.2 _ dc edc
  obtain ⟨u,rfl,hu1⟩:=u1 hpos
  clear u0 u1
  have eu:upOf cl (cl.length - 1 - i)=u:=by
   unfold upOf
   rw [List.getD_eq_getElem?_getD,edc]
   simp [upN]
  have hwl:=Xb cl own i
  have ek:((cl.length:Int) - 1 - i)=((cl.length - 1 - i:Nat):Int):=by omega
  have e1:atI cl ((cl.length:Int) - 1 - i)=some (.tup [.str nm,ar,.int u,dn,va]):=ua (by omega) (by rw [ek]; simpa using edc)
  have e2:ixN (nsD (wc cl own i)).length (u:Int)=some u:=Ux (by unfold nsD; rw [zLm,hwl,hol]; omega)
  have e3:=Z1 (l:=wc cl own i) (i:=u) (by rw [hwl,hol]; omega)
  have e4:atI (nsD (wc cl own i)) ((cl.length:Int) - 1 - i)=some (.int ((wc cl own i).getD (cl.length - 1 - i) 0)):=ua (by omega) (by rw [ek]; exact Z1 (by rw [hwl,hol]; omega))
  walk_at "dl"
  simp only [e1,e2,e3,e4]
  walk_at "dl"
  simp only [e2,e3,e4]
  rw [U9,br,Vf,eu]
  exact ⟨_,rfl⟩
 ·rintro ρ ⟨a4,rfl⟩
  rw [Qx]
  walk_at "dl"
  exact ⟨xh _,h⟩
def Wf (T:Tops mg) (Z:Con K mg) (Gz:FD P w K mg base 3 "check_table" ["table"] vj) (F:Fun K "by_kind" "by_kind" (top 26) f fd) (m:mg "by_kind" = some (.ref f)):FD P w K mg base 4 "by_kind" ["steps", "table"] V9:=by
 have S:zj ["steps", "table", "parts", "number", "kind"] ["steps", "table"] (zb (top 26)):=⟨rfl,rfl,rfl,by decide +kernel,rfl,by decide +kernel,by decide +kernel⟩
 refine xp F S (F.binds λ_ _ _ _ _ _ us hl=>(by obtain ⟨_,_,rfl⟩:=rf hl; rfl)) m λqZ A outer s H E ds φ hr hl hT=>?_
 have hu:=hr.units
 refine ⟨_,(ze (w6 (zk Gz (hr.mono (by decide)) (za (z9 1) zd)))
   (ze (zn 2 S.nd (Qr T.dict (za (wq (T:=["kind"]) (F:=[]) (js:=[]) (Tg (vd Z.c_KINDS)) (show zt (zb (top 26)) _ ["kind"] [] from ⟨rfl,by decide +kernel,by decide +kernel,by decide +kernel,by decide +kernel,by decide +kernel⟩) .nil (by decide) (λcl C fp s H=>(zu (i:=0) (show ((["kind"]:List Str) ++ ([]:List Str)).Nodup by decide +kernel) rfl (by walk_at "o"))) (xn (by decide)) (yi 0) (λcl C fp s H=>xu) (λcl C fp s H=>(v4 (za (z9 0) (za zc zd))))) zd)))
   (ze (wn (qe (z9 0)) (sy (K0:=K) (n:=2) (by rfl) (by rfl) (yy (zu (i:=3) S.nd rfl (by walk_at "o")) (yy (zu (i:=4) S.nd rfl (by walk_at "o")) sx))) (rm 3 4) (zh (Ot 2 hu (z9 4) (y0 hu (z9 1) (z9 4)))))
   (zh (zx (z9 2)))))),?_⟩
 obtain ⟨s0,d,rfl,ss,pr,n,rfl,hs,ht,h⟩:=Tb hT
 walk_at "dl"
 simp only [vj,g1]
 refine ⟨pr,ht,?_⟩
 obtain ⟨ks,ns,rfl,hk,hw⟩:=ht
 refine xc (yw.map D.str) (λψ hψ=>?_) (λd=>some (.tup [d,.int 0])) (by decide) ?_ ?_
 ·walk_at "dl"
  exact hψ
 ·intro d hd
  obtain ⟨w,hm,rfl⟩:=List.mem_map.mp hd
  simp only [ρ0,List.map_cons,List.map_nil,List.replicate,List.cons_append,List.nil_append]
  walk_at "dl"
 walk_at "dl"
 refine ⟨yw.map Sum.inr,(parts pr []).map D.int,?_,rfl,by decide,?_⟩
 ·unfold parts cnt U4
  simp only [yw,List.map_cons,List.map_nil,List.filterMap_cons,List.filterMap_nil,List.zip_cons_cons,List.zip_nil_left,List.filter_nil,zLn,Int.natCast_zero,Int.mul_zero,kD]
 refine xg (stsD ss) (λψ hψ=>?_) (λi ρ=>∃ a3 a4,ρ=[some (dv (.lst (stsD ss))),some (dv (.dk (ks.map Sum.inr) (ns.map D.int))),some (dO (Yr pr (ss.take i))),a3,a4]) ⟨none,none,rfl⟩ ?_ ?_
 ·walk_at "dl"
  exact hψ
 ·rintro i d ρ hd ⟨a3,a4,rfl⟩
  unfold stsD at hd
  rw [List.getElem?_map] at hd
  obtain ⟨p,ep,rfl⟩:=Option.map_eq_some_iff.mp hd
  have hp:=(hs.2 p (List.mem_of_getElem? ep)).2
  have q1:=(hw p.2 (vc hp)).1
  unfold Yr stD
  walk_at "dl"
  simp only [q1]
  have e1:zw (yw.map Sum.inr) ((parts pr (ss.take i)).map D.int) (Sum.inr p.2)=some (.int (pr p.2 * cnt (ss.take i) p.2)):=Ui hp
  simp only [e1,W0 hp,Xv ep hp]
  exact ⟨by unfold parts; rw [zLm]; decide,_,_,rfl⟩
 ·rintro ρ ⟨a3,a4,rfl⟩
  walk_at "dl"
  unfold stsD
  rw [zLm,List.take_length]
  exact ⟨xh _,h⟩
def We (T:Tops mg) (F:Fun K "held_by" "held_by" (top 27) f fd) (m:mg "held_by" = some (.ref f)):FD P w K mg base 1 "held_by" ["many", "table"] jc:=by
 have S:zj ["many", "table"] ["many", "table"] (zb (top 27)):=⟨rfl,rfl,rfl,by decide +kernel,rfl,by decide +kernel,by decide +kernel⟩
 refine xp F S (F.binds λ_ _ _ _ _ _ us hl=>(by obtain ⟨_,_,rfl⟩:=rf hl; rfl)) m λqZ A outer s H E ds φ hr hl hT=>?_
 have hu:=hr.units
 refine ⟨_,(zh (zx (u7 (y0 hu (z9 1) yk) (yp (z9 0) zc)))),?_⟩
 obtain ⟨a,d,rfl,k,pr,rfl,hk,⟨ks,ns,rfl,hk7,hw⟩,h⟩:=Tb hT
 have q:=(hw "hold" W5).1
 walk_at "dl"
 simp only [q]
 exact ⟨IntMulOk.of_right (qm (by omega)),h⟩
def Wc (T:Tops mg) (Gz:FD P w K mg base 3 "check_table" ["table"] vj) (El:FD P w K mg base 1 "held_by" ["many", "table"] jc) (F:Fun K "room_of" "room_of" (top 28) f fd) (m:mg "room_of" = some (.ref f)):FD P w K mg base 4 "room_of" ["calls", "table"] L8:=by
 have S:zj ["calls", "table", "rooms", "call", "above"] ["calls", "table"] (zb (top 28)):=⟨rfl,rfl,rfl,by decide +kernel,rfl,by decide +kernel,by decide +kernel⟩
 refine xp F S (F.binds λ_ _ _ _ _ _ us hl=>(by obtain ⟨_,_,rfl⟩:=rf hl; rfl)) m λqZ A outer s H E ds φ hr hl hT=>?_
 have hu:=hr.units
 refine ⟨_,(ze (w6 (zk Gz (hr.mono (by decide)) (za (z9 1) zd)))
   (ze (zn 2 S.nd (yt zd))
   (ze (wn (qe (z9 0)) (zu (i:=3) S.nd rfl (by walk_at "o")) (yi 3) (ze (zn 4 S.nd (Yz (Ju (y0 hu (z9 3) zc) u6) zc (y0 hu (z9 2) (y0 hu (z9 3) zc))))
    (zh (vn 2 (yp (z9 4) (zk El (hr.mono (by decide)) (za (qg T.len (za (y0 hu (z9 3) zc) zd)) (za (z9 1) zd))))))))
   (zh (zx (Mm T.max (z9 2) zc)))))),?_⟩
 obtain ⟨c0,d,rfl,cl,pr,rfl,hC,ht,h⟩:=Tb hT
 have hc1:=hC.1
 walk_at "dl"
 simp only [vj,g1]
 refine ⟨pr,ht,?_⟩
 try walk_at "dl"
 refine xg cl (λψ hψ=>?_) (λi ρ=>∃ a3 a4,ρ=[some (dv (.lst cl)),some (dv d),some (dO (.lst (nsD (hs cl (pr "hold") i)))),a3,a4]) ⟨none,none,rfl⟩ ?_ ?_
 ·walk_at "dl"
  exact hψ
 ·rintro i e ρ he ⟨a3,a4,rfl⟩
  have hi:=(List.getElem?_eq_some_iff.mp he).1
  obtain ⟨nm,ar,up,dn,va,rfl,⟨hp,al,rfl,hal⟩,ho,u0,u1⟩:=hC.2 i e he
  have esz:szA cl i=(al.length:Int) + 1:=by
   unfold szA
   rw [List.getD_eq_getElem?_getD,he]
   rfl
  have hlen:(nsD (hs cl (pr "hold") i)).length <= 100000:=by
   unfold nsD hs
   simp
   omega
  have e2:nsD (hs cl (pr "hold") (i + 1))=nsD (hs cl (pr "hold") i) ++ [D.int (u4 cl (pr "hold") i)]:=by
   rw [Md]
   unfold nsD
   rw [zMa]
   rfl
  by_cases hz:i=0
  ·have eu:=u0 hz
   subst eu
   clear u0 u1
   walk_at "dl"
   simp only [jc,g2]
   refine ⟨al.length,pr,rfl,hal,ht,?_⟩
   try walk_at "dl"
   have e3:u4 cl (pr "hold") i=pr "hold" * ((al.length:Int) + 1):=by
    subst hz
    rw [T2,esz]
   rw [e2,e3]
   exact ⟨hlen,_,_,rfl⟩
  ·have hpos:0 < i:=by omega
   obtain ⟨u,rfl,hu1⟩:=u1 hpos
   clear u0 u1
   have eu:upOf cl i=u:=by
    unfold upOf
    rw [List.getD_eq_getElem?_getD,he]
    simp [upN]
   have e1:atI (nsD (hs cl (pr "hold") i)) (u:Int)=some (.int (u4 cl (pr "hold") u)):=ua (by omega) (by rw [Int.toNat_natCast]; unfold nsD; rw [List.getElem?_map,Jo hu1]; rfl)
   walk_at "dl"
   simp only [e1,jc,g2]
   have e3:u4 cl (pr "hold") i=u4 cl (pr "hold") u + pr "hold" * ((al.length:Int) + 1):=by
    rw [Me hpos (by rw [eu]; exact hu1),eu,esz,Int.add_comm]
   rw [e2,e3]
   exact ⟨al.length,pr,rfl,hal,ht,hlen,_,_,rfl⟩
 ·rintro ρ ⟨a3,a4,rfl⟩
  unfold nsD
  walk_at "dl"
  exact h
def Y6:FT:=g2 λx y φ=>∃ (a:List Str) (z:Str),x=wyD a /\ y=.str z /\ a.length <= 1000 /\ φ (dv (wyD (tz a z))) /\ φ ⟨.new,wyD (tz a z)⟩
def ub (cl:List D) (i:Nat):List D:=(List.range i).map λk=>wyD (wayF cl k)
def Ss:FT:=g1 λc φ=>∃ cl,c=.lst cl /\ Calls cl /\ φ (df (.lst (ub cl cl.length)))
def outW (cl:List D) (pr:Str->Int) (ss:List (Nat × Str)):List D:=(yu ((List.range cl.length).map (wayF cl))).map λw=>rowD w (wm (wayF cl) pr w ss)
def Pa:FT:=g3 λc s d φ=>∃ cl ss pr,c=.lst cl /\ Calls cl /\ s=.lst (stsD ss) /\ Sts ss cl.length /\ Tab d pr /\ φ (df (.lst (outW cl pr ss)))
def T8 (a:List Str):(a.map D.str).all qu=true:=by
 rw [List.all_map,List.all_eq_true]
 intro x _
 rfl
def Mb (z:Str) (a:List Str):inD (.str z) (a.map D.str)=decide (z ∈ a):=by
 unfold inD
 rw [List.any_map]
 induction a with
 | nil=>rfl
 | cons x a ih =>
  rw [List.any_cons,ih]
  show (eqD (.str x) (.str z) || _)=_
  simp only [eqD]
  by_cases e:x=z
  ·subst e
   simp
  ·simp [e,Ne.symm e]
def su (a:List Str):x6 (a.map D.str):=yf.mpr λd hd=>by
 obtain ⟨n,_,rfl⟩:=List.mem_map.mp hd
 trivial
def Vu (a:List Str):pureD (wyD a):=su a
def Hj (a:List Str) (k:Nat):cutD (a.map D.str) none (some ((k:Int) + 1))=(a.take (k + 1)).map D.str:=by
 have:=Tv (a.map D.str) (k + 1)
 rw [<- List.map_take] at this
 exact this
def Mq {cl:List D} {i:Nat} {nm:Str} {ar up dn va:D} (e:cl[i]?=some (.tup [.str nm,ar,up,dn,va])):nmOf cl i=nm /\ ∀ u:Nat,up=.int u->upOf cl i=u:=by
 unfold nmOf upOf
 rw [List.getD_eq_getElem?_getD,e]
 refine ⟨rfl,λu hu=>?_⟩
 subst hu
 simp [upN]
def O8 {cl:List D} {i u:Nat} (h:u < i):atI (ub cl i) (u:Int)=some (wyD (wayF cl u)):=by
 refine ua (by omega) ?_
 unfold ub
 rw [Int.toNat_natCast,List.getElem?_map,List.getElem?_range h]
 rfl
def gm (cl:List D) (i:Nat):ub cl (i + 1)=ub cl i ++ [wyD (wayF cl i)]:=by
 unfold ub
 rw [List.range_succ,zMa]
 rfl
def Si (cl:List D) (i:Nat):(ub cl i).length=i:=by unfold ub; simp
def Vv (cl:List D) (i:Nat):x6 (ub cl i):=yf.mpr λd hd=>by
 obtain ⟨n,_,rfl⟩:=List.mem_map.mp hd
 exact Vu _
def Sd (cl:List D) (own:List Int) (n:Nat) (h:own.length=n):zipD (ub cl n) (nsD own)=(xv (wayF cl) own n).map λq=>.tup [wyD q.1,.int q.2]:=by
 unfold zipD ub nsD xv
 apply List.ext_getElem
 ·simp [h]
 ·intro i h1 h2
  have hi:i < n:=by simpa using h2
  simp [List.getD,show i < own.length by omega]
def Yj (cl:List D) (pr:Str->Int) (ss:List (Nat × Str)):x6 (outW cl pr ss):=yf.mpr λd hd=>by
 obtain ⟨w,_,rfl⟩:=List.mem_map.mp hd
 exact ⟨Vu w,trivial,trivial⟩
def T9 (T:Tops mg) (F:Fun K "way_on" "way_on" (top 25) f fd) (m:mg "way_on" = some (.ref f)):FD P w K mg base 1 "way_on" ["above", "name"] Y6:=by
 have S:zj ["above", "name"] ["above", "name"] (zb (top 25)):=⟨rfl,rfl,rfl,by decide +kernel,rfl,by decide +kernel,by decide +kernel⟩
 refine xp F S (F.binds λ_ _ _ _ _ _ us hl=>(by obtain ⟨_,_,rfl⟩:=rf hl; rfl)) m λqZ A outer s H E ds φ hr hl hT=>?_
 have hu:=hr.units
 refine ⟨_,(ze (xf (Gk hu (z9 1) (z9 0)) (zh (zx (Tj (z9 0) Mi (Zu (yp (Qp (z9 0) (z9 1)) zc))))) yh)
   (zh (zx (Mp (z9 0) (Mk (za (z9 1) zd)))))),?_⟩
 obtain ⟨a0,z0,rfl,a,z,rfl,rfl,hl,h1,h2⟩:=Tb hT
 unfold wyD
 walk_at "dl"
 rw [Mb]
 simp only [if_false,decide_eq_true_eq,decide_eq_false_iff_not]
 refine ⟨T8 a,λhz=>⟨a,rfl,hz,?_⟩,λhz=>⟨su a,by rw [sizeLine_eq]; omega,?_⟩⟩
 ·rw [Hj,Sk hz]
  exact ⟨su _,h1⟩
 ·rw [show a.map D.str ++ [D.str z]=(tz a z).map D.str by rw [<- Wv hz,zMa]; rfl]
  exact h2
def Wb (T:Tops mg) (Ew:FD P w K mg base 1 "way_on" ["above", "name"] Y6) (F:Fun K "ways_of" "ways_of" (top 24) f fd) (m:mg "ways_of" = some (.ref f)):FD P w K mg base 2 "ways_of" ["calls"] Ss:=by
 have S:zj ["calls", "ways", "call", "above"] ["calls"] (zb (top 24)):=⟨rfl,rfl,rfl,by decide +kernel,rfl,by decide +kernel,by decide +kernel⟩
 refine xp F S (F.binds λ_ _ _ _ _ _ us hl=>(by obtain ⟨_,rfl⟩:=jn hl; rfl)) m λqZ A outer s H E ds φ hr hl hT=>?_
 have hu:=hr.units
 refine ⟨_,(ze (zn 1 S.nd (yt zd))
   (ze (wn (qe (z9 0)) (zu (i:=2) S.nd rfl (by walk_at "o")) (yi 2) (ze (zn 3 S.nd (Yz (Ju (y0 hu (z9 2) zc) u6) (v4 zd) (y0 hu (z9 1) (y0 hu (z9 2) zc))))
    (zh (vn 1 (zk Ew (hr.mono (by decide)) (za (z9 3) (za (y0 hu (z9 2) zc) zd)))))))
   (zh (zx (z9 1))))),?_⟩
 obtain ⟨d0,rfl,cl,rfl,hc,h⟩:=Wg hT
 have hc1:=hc.1
 walk_at "dl"
 refine xg cl (λψ hψ=>?_) (λi ρ=>∃ a2 a3,ρ=[some (dv (.lst cl)),some (dO (.lst (ub cl i))),a2,a3]) ⟨none,none,rfl⟩ ?_ ?_
 ·walk_at "dl"
  exact hψ
 ·rintro i d ρ hd ⟨a2,a3,rfl⟩
  have hi:i < cl.length:=(List.getElem?_eq_some_iff.mp hd).1
  obtain ⟨nm,ar,up,dn,va,rfl,hp,ho,u0,u1⟩:=hc.2 _ d hd
  obtain ⟨en,eu⟩:=Mq hd
  have wl:=Si cl i
  by_cases hz:i=0
  ·subst hz
   cases u0 rfl
   have ew:=O9 (cl:=cl)
   rw [en] at ew
   walk_at "dl"
   simp only [Y6,g2]
   have wl:(ub cl 0).length=0:=rfl
   rw [gm,ew]
   refine ⟨[],nm,rfl,rfl,by simp,⟨trivial,by omega,_,_,rfl⟩,⟨trivial,by omega,_,_,rfl⟩⟩
  ·obtain ⟨u,rfl,hu1⟩:=u1 (by omega)
   have ew:=Sj (eu u rfl) hu1
   rw [en] at ew
   have wu:=Oa cl u
   have e1:=O8 (cl:=cl) hu1
   walk_at "dl"
   simp only [e1,Y6,g2]
   rw [gm,ew]
   refine ⟨wayF cl u,nm,rfl,rfl,by omega,⟨trivial,by omega,_,_,rfl⟩,⟨trivial,by omega,_,_,rfl⟩⟩
 ·rintro ρ ⟨a2,a3,rfl⟩
  walk_at "dl"
  exact ⟨Vv _ _,h⟩
def Ta (T:Tops mg) (Fp:FD P w K mg base 2 "ways_of" ["calls"] Ss) (Fb:FD P w K mg base 4 "own_prices" ["calls", "steps", "table"] tOwn) (F:Fun K "by_way" "by_way" (top 23) f fd) (m:mg "by_way" = some (.ref f)):FD P w K mg base 5 "by_way" ["calls", "steps", "table"] Pa:=by
 have S:zj ["calls", "steps", "table", "parts", "way", "price"] ["calls", "steps", "table"] (zb (top 23)):=⟨rfl,rfl,rfl,by decide +kernel,rfl,by decide +kernel,by decide +kernel⟩
 refine xp F S (F.binds λ_ _ _ _ _ _ us hl=>(by obtain ⟨_,_,_,rfl⟩:=Z6 hl; rfl)) m λqZ A outer s H E ds φ hr hl hT=>?_
 have hu:=hr.units
 refine ⟨_,(ze (zn 3 S.nd cz)
   (ze (wn (Jx T.zip (za (zk Fp (hr.mono (by decide)) (za (z9 0) zd)) (za (zk Fb (hr.mono (by decide)) (za (z9 0) (za (z9 1) (za (z9 2) zd)))) zd))) (sy (K0:=K) (n:=2) (by rfl) (by rfl) (yy (zu (i:=4) S.nd rfl (by walk_at "o")) (yy (zu (i:=5) S.nd rfl (by walk_at "o")) sx))) (rm 4 5) (zh (Sz 3 hu (z9 4) (yp (Qq hu (z9 3) (z9 4) zc) (z9 5)))))
   (zh (zx (cx T.list (z9 3)))))),?_⟩
 obtain ⟨c0,s0,d,rfl,cl,ss,pr,rfl,hc,rfl,hs,ht,h⟩:=Qk hT
 have hol:=tj pr cl.length ss
 have hst:=λw=>Xl (wayF cl) pr cl.length w ss λp hp=>(hs.2 p hp).1
 walk_at "dl"
 refine xg ((xv (wayF cl) (ownF pr cl.length ss) cl.length).map λq=>.tup [wyD q.1,.int q.2]) (λψ hψ=>?_) (λi ρ=>∃ a4 a5,ρ=[some (dv (.lst cl)),some (dv (.lst (stsD ss))),some (dv d),some (dO (dtF ((xv (wayF cl) (ownF pr cl.length ss) cl.length).take i))),a4,a5]) ⟨none,none,rfl⟩ ?_ ?_
 ·walk_at "dl"
  simp only [Ss,g1,tOwn,g3]
  refine ⟨cl,rfl,hc,cl,ss,pr,rfl,hc,rfl,hs,ht,trivial,trivial,?_⟩
  rw [Sd cl _ cl.length hol]
  exact hψ
 ·rintro i e ρ he ⟨a4,a5,rfl⟩
  rw [List.getElem?_map] at he
  obtain ⟨q,eq,rfl⟩:=Option.map_eq_some_iff.mp he
  have hi:i < cl.length:=by
   have:=(List.getElem?_eq_some_iff.mp eq).1
   unfold xv at this
   simpa using this
  have e3:(xv (wayF cl) (ownF pr cl.length ss) cl.length).take (i + 1)=(xv (wayF cl) (ownF pr cl.length ss) cl.length).take i ++ [q]:=by rw [List.take_succ,eq]; rfl
  have ll:((xv (wayF cl) (ownF pr cl.length ss) cl.length).take i).length <= cl.length:=by
   unfold xv
   simp
   omega
  generalize (xv (wayF cl) (ownF pr cl.length ss) cl.length).take i=l at *
  rw [e3]
  have e1:=Hd l q.1
  have e2:=Hc l q
  have kl:(yu (l.map Prod.fst)).length <= 100000:=by
   have:=Qf (l.map Prod.fst)
   rw [zLm] at this
   have:=hc.1
   omega
  rw [<- e2]
  unfold dtF
  walk_at "dl"
  simp only [Nz,e1]
  exact ⟨kl,_,_,rfl⟩
 ·rintro ρ ⟨a4,a5,rfl⟩
  rw [zLm,List.take_length]
  unfold dtF
  walk_at "dl"
  have eo:ku ((yu ((xv (wayF cl) (ownF pr cl.length ss) cl.length).map Prod.fst)).map kz) ((yu ((xv (wayF cl) (ownF pr cl.length ss) cl.length).map Prod.fst)).map λw=>D.int (x8 (xv (wayF cl) (ownF pr cl.length ss) cl.length) w))=outW cl pr ss:=by
   rw [Qv,R5]
   unfold outW
   exact List.map_congr_left λw _=>by rw [hst]
  rw [eo]
  exact ⟨Yj cl pr ss,h⟩
end
structure Cls (K:W.Frag) (mg:Str->Option Value) (cE cT cNoPaper cNoValue cTooMany cNoFunction cNoProgram cNoText cNoRatio cNoSize cNoRow:Addr):Prop where
 b_TollError:mg "TollError" = some (.ref cE)
 b_NoTable:mg "NoTable" = some (.ref cT)
 b_NoPaper:mg "NoPaper" = some (.ref cNoPaper)
 b_NoValue:mg "NoValue" = some (.ref cNoValue)
 b_TooMany:mg "TooMany" = some (.ref cTooMany)
 b_NoFunction:mg "NoFunction" = some (.ref cNoFunction)
 b_NoProgram:mg "NoProgram" = some (.ref cNoProgram)
 b_NoText:mg "NoText" = some (.ref cNoText)
 b_NoRatio:mg "NoRatio" = some (.ref cNoRatio)
 b_NoSize:mg "NoSize" = some (.ref cNoSize)
 b_NoRow:mg "NoRow" = some (.ref cNoRow)
 x_NoTable:excV K cT
 m_NoTable:W.exmOne K (.ref cT) (.ref cE)=some true
 k_Val:W.kitOne K (.ref cT) (.type "ValueError")=some true
 k_no:∀ c ∈ [cNoPaper,cNoValue,cTooMany,cNoFunction,cNoProgram,cNoText,cNoRatio,cNoSize,cNoRow],W.kitOne K (.ref cT) (.ref c)=some false
 y_NoTable:Wr K cT
section
variable {P:Program} {w:World} {K:W.Frag} {mg:Str->Option Value} {base:Heap} {f:Addr} {fd:FuncData}
unseal SDs in
def wt {Γ:Hp->Prop} {X:Cx} {l:List Stmt}:SDs Γ X l (λ_ _=>False):=λH₀ pn s σ H D I h=>by
 obtain ⟨ρ,o,R,Z,hZ,_⟩:=h
 exact hZ.elim
def wy:D->Bool
 | .int i=>decide (0 <= i)
 | _=>false
def V5:FT:=g1 λd φ=>uo d=true /\ φ (dv (.bl (wy d)))
def Spl (d:D):Prop:=(∃ m:Int,d=.fd m /\ m < 0 /\ -m - 1 ≠ 7 /\ -m <= 1000) \/ ∃ (ks:List Str) (ds:List D),d=.dk (ks.map Sum.inr) ds /\ ks.length=7 /\ (∀ w ∈ yb,(Sum.inr w:Key) ∈ ks.map Sum.inr /\ ∃ v,zw (ks.map Sum.inr) ds (Sum.inr w)=some v /\ uo v=true) /\ ∃ w ∈ yb,∃ v,zw (ks.map Sum.inr) ds (Sum.inr w)=some v /\ wy v=false
def pcF (ks:List Str) (ds:List D):D->Option D
 | .str w=>(zw (ks.map Sum.inr) ds (Sum.inr w)).map λv=>.bl (wy v)
 | _=>none
def pcB (ks:List Str) (ds:List D) (w:Str):Bool:=match zw (ks.map Sum.inr) ds (Sum.inr w) with
 | some v=>wy v
 | none=>false
def Pj {ks:List Str} {ds:List D}:∀ ws:List Str,(∀ w ∈ ws,∃ v,zw (ks.map Sum.inr) ds (Sum.inr w)=some v)->(ws.map D.str).filterMap (pcF ks ds)=(ws.map (pcB ks ds)).map D.bl
 | [],_=>rfl
 | w :: ws,h=>by
  obtain ⟨v,e⟩:=h w (List.mem_cons_self ..)
  rw [List.map_cons,List.filterMap_cons_some (show pcF ks ds (.str w)=some (.bl (pcB ks ds w)) by show (zw (ks.map Sum.inr) ds (Sum.inr w)).map (λv=>D.bl (wy v))=some (.bl (match zw (ks.map Sum.inr) ds (Sum.inr w) with | some v=>wy v | none=>false)); rw [e]; rfl),Pj ws λx hx=>h x (List.mem_cons_of_mem _ hx)]
  rfl
def O5 {a b:TDb} {ρ:DE} {ψ:Bool->Prop} (ha:∀ ψ:Bool->Prop,ψ false->a ρ ψ) (hb:∀ ψ:Bool->Prop,ψ false->b ρ ψ) (h:ψ false):bOr a b ρ ψ:=ha _ ⟨λz=>(by cases z),λ_=>hb _ h⟩
def Lj {t:TD} {ρ:DE} {ψ:Bool->Prop} (h:t ρ λr=>match r.d with | .bl b=>ψ b | _=>False):tBo t ρ ψ:=h
def gh {a:TDb} {ρ:DE} {ψ:Bool->Prop} (h:a ρ λc=>ψ (!c)):bNot a ρ ψ:=h
def Hi {op:D->D->(EV->Prop)->Prop} {ta tb:TD} {ρ:DE} {φ:EV->Prop} (x y:EV) (h1:∀ ψ:EV->Prop,ψ x->ta ρ ψ) (h2:∀ ψ:EV->Prop,ψ y->tb ρ ψ) (h:op x.d y.d φ):d2 op ta tb ρ φ:=h1 _ (h2 _ h)
def Vl {tc:TDb} {t1 t2:TDS} {ρ:DE} {Z:DZ} (b:Bool) (h:∀ ψ:Bool->Prop,ψ b->tc ρ ψ) (h1:b=true->t1 ρ Z) (h2:b=false->t2 ρ Z):sIf tc t1 t2 ρ Z:=h _ ⟨h1,h2⟩
def zy {t u:TDS} {ρ:DE} {Z:DZ} (h:t ρ { Z with nx:=λρ'=>u ρ' Z }):sSeq t u ρ Z:=h
def Vk {ρ:DE} {Z:DZ} (h:Z.nx ρ):sNil ρ Z:=h
def Ou {i:Nat} {te:TD} {ρ:DE} {Z:DZ} (h:te ρ λr=>(match r.k with | .own=>False | _=>True) /\ Z.nx (setS ρ i r.sto)):sSet i te ρ Z:=h
def Ov {te:TD} {ρ:DE} {Z:DZ} (h:te ρ λr=>Z.rt r.ret):sRet te ρ Z:=h
def Qj {i:Nat} {d:D} {ρ:DE} {ψ:DE->Prop} (h:ψ (setS ρ i (dv d))):gN i d ρ ψ:=h
def S7 {tc:TD} {ρ:DE} {ψ:Bool->Prop} (bs:List Bool) (h:∀ φ:EV->Prop,φ (df (.lst (bs.map D.bl)))->tc ρ φ) (hψ:ψ (bs.all id)):tTru (dCB (Vo λbs=>bs.all id) (wk tc aNil)) ρ ψ:=by
 refine h _ ?_
 show match blsD (bs.map D.bl) with | some bs=>_ | none=>False
 rw [tu]
 exact hψ
def sh (c:Addr):FTX:=λds _ χ=>∃ d,ds=[d] /\ Spl d /\ χ c
def t2X (c:Addr):FTX:=λds _ χ=>∃ a d,ds=[a,d] /\ Spl d /\ χ c
def t3X (c:Addr):FTX:=λds _ χ=>∃ a b d,ds=[a,b,d] /\ Spl d /\ χ c
def xt {t1:TDS} {ρ:DE} {Z:DZ} {w:Int} (j:Int) (es:slot ρ 0=some (dv (.int w))) (h1:w=j->t1 ρ Z) (h2:w ≠ j->Z.nx ρ):sIf (tBo (d2 sEq (ww 0) (dC (.int j)))) t1 sNil ρ Z:=by
 refine Vl (w == j) (λψ hψ=>?_) (λz=>h1 (by simpa using z)) (λz=>h2 (by simpa using z))
 refine Lj (Hi (dv (.int w)) (dv (.int j)) (λψ hψ=>?_) (λψ hψ=>hψ) ⟨yv ▸ trivial,yv ▸ trivial,?_⟩)
 ·unfold ww
  rw [es]
  exact hψ
 ·show ψ (eqD (.int w) (.int j))
  rw [qd]
  exact hψ
def ansD (w:Nat) (cl:List D) (ss:List (Nat × Str)) (pr:Str->Int):EV:=match w with
 | 0=>dv (.int (Mx pr ss))
 | 1=>df (.lst (nsD (ownF pr cl.length ss)))
 | 2=>df (.lst (nsD (wc cl (ownF pr cl.length ss) (cl.length - 1))))
 | 3=>df (.lst (outW cl pr ss))
 | 4=>df (Yr pr ss)
 | _=>dv (.int (maxI 0 (hs cl (pr "hold") cl.length)))
def tAsk:FT:=λds φ=>∃ (w:Nat) (cl:List D) (ss:List (Nat × Str)) (d:D) (pr:Str->Int),ds=[.int w,.lst cl,.lst (stsD ss),d] /\ w <= 5 /\ Calls cl /\ Sts ss cl.length /\ Tab d pr /\ φ (ansD w cl ss pr)
def Lk (c:Addr):FTX:=λds _ χ=>∃ (w:Nat) (cl:List D) (b d:D),ds=[.int w,.lst cl,b,d] /\ w <= 5 /\ Calls cl /\ Spl d /\ χ c
def t3W (c:Addr):FTX:=λds _ χ=>∃ cl b d,ds=[.lst cl,b,d] /\ Calls cl /\ Spl d /\ χ c
def cu (T:Tops mg) (Fl:FD P w K mg base 1 "is_whole" ["thing"] sf) (F:Fun K "is_price" "is_price" (top 17) f fd) (m:mg "is_price" = some (.ref f)):FD P w K mg base 2 "is_price" ["thing"] V5:=by
 have S:zj ["thing"] ["thing"] (zb (top 17)):=⟨rfl,rfl,rfl,by decide +kernel,rfl,by decide +kernel,by decide +kernel⟩
 refine xp F S (F.binds λ_ _ _ _ _ _ us hl=>(by obtain ⟨_,rfl⟩:=jn hl; rfl)) m λqZ A outer s H E ds φ hr hl hT=>?_
 have hu:=hr.units
 refine ⟨_,(zh (zx (xy (zk Fl (hr.mono (by decide)) (za (z9 0) zd)) (qf (Ha (z9 0) zc))))),?_⟩
 obtain ⟨d,rfl,hp,h⟩:=Wg hT
 walk_at "dl"
 simp only [sf,g1]
 cases d <;> first | (cases hp; done) | (simp only [Y4,uo]; walk_at "dl"; exact h) | (simp only [Y4,uo]; walk_at "dl"; exact ⟨λz=>(by cases z),λ_=>h⟩)
def qr (T:Tops mg) (Z:Con K mg) {cE cT cNoPaper cNoValue cTooMany cNoFunction cNoProgram cNoText cNoRatio cNoSize cNoRow:Addr} (Y:Cls K mg cE cT cNoPaper cNoValue cTooMany cNoFunction cNoProgram cNoText cNoRatio cNoSize cNoRow) (Fm:FD P w K mg base 2 "is_price" ["thing"] V5) (F:Fun K "check_table" "check_table" (top 18) f fd) (m:mg "check_table" = some (.ref f)):FX P w K mg base 3 "check_table" ["table"] (sh cT):=by
 have S:zj ["table"] ["table"] (zb (top 18)):=⟨rfl,rfl,rfl,by decide +kernel,rfl,by decide +kernel,by decide +kernel⟩
 refine cb F S (F.binds λ_ _ _ _ _ _ us hl=>(by obtain ⟨_,rfl⟩:=jn hl; rfl)) m λqZ A outer s H E ds φ χ hr hl hT hxp hxr=>?_
 have hu:=hr.units
 refine ⟨_,(ze (xf (EW.et (Td (Ql hu (Mn T.len (za (z9 0) zd)) (Tl T.len (za (vd Z.c_WORDS) zd))) (cv (j0 (qb (g0 T.all (za (wq (T:=["word"]) (F:=["table"]) (js:=[0]) (Tg (vd Z.c_WORDS)) (show zt (zb (top 18)) _ ["word"] ["table"] from ⟨rfl,by decide +kernel,by decide +kernel,by decide +kernel,by decide +kernel,by decide +kernel⟩) (.cons rfl .nil) (by decide) (λcl C fp s H=>(zu (i:=0) (show ((["word"]:List Str) ++ (["table"]:List Str)).Nodup by decide +kernel) rfl (by walk_at "o"))) (xn (by decide)) (yi 0) (λcl C fp s H=>xu) (λcl C fp s H=>(Jz hu (z9 0) (z9 1)))) zd))))))) (zh (Yb PySem.F.excBase_ValueError Y.b_NoTable Y.x_NoTable hr.hd hxr (za yk zd))) yh)
   (zh (xf (j0 (qb (g0 T.all (za (wq (T:=["word"]) (F:=["table"]) (js:=[0]) (Tg (vd Z.c_WORDS)) (show zt (zb (top 18)) _ ["word"] ["table"] from ⟨rfl,by decide +kernel,by decide +kernel,by decide +kernel,by decide +kernel,by decide +kernel⟩) (.cons rfl .nil) (by decide) (λcl C fp s H=>(zu (i:=0) (show ((["word"]:List Str) ++ (["table"]:List Str)).Nodup by decide +kernel) rfl (by walk_at "o"))) (xn (by decide)) (yi 0) (λcl C fp s H=>xu) (λcl C fp s H=>(zk Fm (hr.mono (by decide)) (za (y0 hu (z9 1) (z9 0)) zd)))) zd)))) (zh (Yb PySem.F.excBase_ValueError Y.b_NoTable Y.x_NoTable hr.hd hxr (za yk zd))) yh))),?_⟩
 obtain ⟨d,rfl,hs,h⟩:=hT
 have hwl:(yb.map D.str).length <= 100000:=by decide
 rcases hs with ⟨m,rfl,m0,m7,m1⟩ | ⟨ks,ds,rfl,hk,hw,w0,hw0,v0,e0,p0⟩
 ·refine Vl true (λψ hψ=>?_) (λ_=>⟨rfl,h⟩) (λz=>(by cases z))
  refine ⟨m0,m1,yv ▸ trivial,yv ▸ trivial,λ_=>hψ,λz=>?_⟩
  have z:(!eqD (.int (-m - 1)) (.int 7))=false:=z
  rw [qd] at z
  exact absurd (by simpa using z) m7
 ·refine Vl false (λψ hψ=>?_) (λz=>(by cases z)) (λ_=>Vk ?_)
  ·refine O5 (λψ hψ=>?_) (λψ hψ=>?_) hψ
   ·refine ⟨yv ▸ trivial,yv ▸ trivial,?_⟩
    show ψ (!eqD (.int ((ks.map (Sum.inr:Str->Key)).length:Int)) (.int 7))
    rw [qd,zLm,hk]
    exact hψ
   ·refine gh ?_
    refine S7 (List.replicate (yb.map D.str).length true) (λφ hφ=>xc (yb.map D.str) (λψ hψ=>hψ) (λ_=>some (.bl true)) hwl (λd hd=>?_) ?_) ?_
    ·obtain ⟨w,hm,rfl⟩:=List.mem_map.mp hd
     refine Qj ⟨λ_=>?_,λz=>(by cases z)⟩
     show True /\ some (D.bl true)=some (D.bl (decide ((Sum.inr w:Key) ∈ ks.map Sum.inr)))
     rw [decide_eq_true (hw w hm).1]
     exact ⟨trivial,rfl⟩
    ·rw [gl]
     exact hφ
    ·rw [bx]
     exact hψ
  ·dsimp only
   refine Vl true (λψ hψ=>gh ?_) (λ_=>⟨rfl,h⟩) (λz=>(by cases z))
   refine S7 (yb.map (pcB ks ds)) (λφ hφ=>xc (yb.map D.str) (λψ hψ=>hψ) (pcF ks ds) hwl (λd hd=>?_) ?_) ?_
   ·obtain ⟨w,hm,rfl⟩:=List.mem_map.mp hd
    obtain ⟨q1,v,q2,q3⟩:=hw w hm
    refine Qj ⟨λ_=>?_,λz=>(by cases z)⟩
    have e:pcF ks ds (.str w)=some (.bl (wy v)):=by show (zw (ks.map Sum.inr) ds (Sum.inr w)).map (λv=>D.bl (wy v))=_; rw [q2]; rfl
    rw [e]
    show match zw (ks.map Sum.inr) ds (Sum.inr w) with | some d=>_ | none=>False
    rw [q2]
    exact ⟨rfl,q3,trivial,rfl⟩
   ·rw [Pj (ks:=ks) (ds:=ds) yb (λw hm=>let ⟨_,v,q,_⟩:=hw w hm; ⟨v,q⟩)]
    exact hφ
   ·have:(yb.map (pcB ks ds)).all id=false:=by
     rw [List.all_eq_false]
     refine ⟨false,List.mem_map.mpr ⟨w0,hw0,?_⟩,by simp⟩
     unfold pcB
     rw [e0]
     exact p0
    rw [this]
    exact hψ
def Zn (T:Tops mg) {cE cT cNoPaper cNoValue cTooMany cNoFunction cNoProgram cNoText cNoRatio cNoSize cNoRow:Addr} (Y:Cls K mg cE cT cNoPaper cNoValue cTooMany cNoFunction cNoProgram cNoText cNoRatio cNoSize cNoRow) (Fa:FX P w K mg base 3 "check_table" ["table"] (sh cT)) (F:Fun K "price_of" "price_of" (top 19) f fd) (m:mg "price_of" = some (.ref f)):FX P w K mg base 4 "price_of" ["steps", "table"] (t2X cT):=by
 have S:zj ["steps", "table"] ["steps", "table"] (zb (top 19)):=⟨rfl,rfl,rfl,by decide +kernel,rfl,by decide +kernel,by decide +kernel⟩
 refine cb F S (F.binds λ_ _ _ _ _ _ us hl=>(by obtain ⟨_,_,rfl⟩:=rf hl; rfl)) m λqZ A outer s H E ds φ χ hr hl hT hxp hxr=>?_
 have hu:=hr.units
 refine ⟨_,(ze (w6 (ym Fa (hr.mono (by decide)) hxp (za (z9 1) zd))) wt),?_⟩
 obtain ⟨a,d,rfl,hs,h⟩:=hT
 exact zy ⟨rfl,d,rfl,hs,h⟩
def jz (T:Tops mg) {cE cT cNoPaper cNoValue cTooMany cNoFunction cNoProgram cNoText cNoRatio cNoSize cNoRow:Addr} (Y:Cls K mg cE cT cNoPaper cNoValue cTooMany cNoFunction cNoProgram cNoText cNoRatio cNoSize cNoRow) (Fa:FX P w K mg base 3 "check_table" ["table"] (sh cT)) (F:Fun K "own_prices" "own_prices" (top 21) f fd) (m:mg "own_prices" = some (.ref f)):FX P w K mg base 4 "own_prices" ["calls", "steps", "table"] (t3X cT):=by
 have S:zj ["calls", "steps", "table", "prices", "number", "kind"] ["calls", "steps", "table"] (zb (top 21)):=⟨rfl,rfl,rfl,by decide +kernel,rfl,by decide +kernel,by decide +kernel⟩
 refine cb F S (F.binds λ_ _ _ _ _ _ us hl=>(by obtain ⟨_,_,_,rfl⟩:=Z6 hl; rfl)) m λqZ A outer s H E ds φ χ hr hl hT hxp hxr=>?_
 have hu:=hr.units
 refine ⟨_,(ze (w6 (ym Fa (hr.mono (by decide)) hxp (za (z9 2) zd))) wt),?_⟩
 obtain ⟨a,b,d,rfl,hs,h⟩:=hT
 exact zy ⟨rfl,d,rfl,hs,h⟩
def rn (T:Tops mg) {cE cT cNoPaper cNoValue cTooMany cNoFunction cNoProgram cNoText cNoRatio cNoSize cNoRow:Addr} (Y:Cls K mg cE cT cNoPaper cNoValue cTooMany cNoFunction cNoProgram cNoText cNoRatio cNoSize cNoRow) (Fc:FX P w K mg base 4 "own_prices" ["calls", "steps", "table"] (t3X cT)) (F:Fun K "whole_prices" "whole_prices" (top 22) f fd) (m:mg "whole_prices" = some (.ref f)):FX P w K mg base 5 "whole_prices" ["calls", "steps", "table"] (t3X cT):=by
 have S:zj ["calls", "steps", "table", "prices", "number"] ["calls", "steps", "table"] (zb (top 22)):=⟨rfl,rfl,rfl,by decide +kernel,rfl,by decide +kernel,by decide +kernel⟩
 refine cb F S (F.binds λ_ _ _ _ _ _ us hl=>(by obtain ⟨_,_,_,rfl⟩:=Z6 hl; rfl)) m λqZ A outer s H E ds φ χ hr hl hT hxp hxr=>?_
 have hu:=hr.units
 refine ⟨_,(ze (zn 3 S.nd (ym Fc (hr.mono (by decide)) hxp (za (z9 0) (za (z9 1) (za (z9 2) zd))))) wt),?_⟩
 obtain ⟨a,b,d,rfl,hs,h⟩:=hT
 exact zy ⟨rfl,a,b,d,rfl,hs,h⟩
def W8 (T:Tops mg) (Z:Con K mg) {cE cT cNoPaper cNoValue cTooMany cNoFunction cNoProgram cNoText cNoRatio cNoSize cNoRow:Addr} (Y:Cls K mg cE cT cNoPaper cNoValue cTooMany cNoFunction cNoProgram cNoText cNoRatio cNoSize cNoRow) (Fa:FX P w K mg base 3 "check_table" ["table"] (sh cT)) (F:Fun K "by_kind" "by_kind" (top 26) f fd) (m:mg "by_kind" = some (.ref f)):FX P w K mg base 4 "by_kind" ["steps", "table"] (t2X cT):=by
 have S:zj ["steps", "table", "parts", "number", "kind"] ["steps", "table"] (zb (top 26)):=⟨rfl,rfl,rfl,by decide +kernel,rfl,by decide +kernel,by decide +kernel⟩
 refine cb F S (F.binds λ_ _ _ _ _ _ us hl=>(by obtain ⟨_,_,rfl⟩:=rf hl; rfl)) m λqZ A outer s H E ds φ χ hr hl hT hxp hxr=>?_
 have hu:=hr.units
 refine ⟨_,(ze (w6 (ym Fa (hr.mono (by decide)) hxp (za (z9 1) zd))) wt),?_⟩
 obtain ⟨a,d,rfl,hs,h⟩:=hT
 exact zy ⟨rfl,d,rfl,hs,h⟩
def W7 (T:Tops mg) {cE cT cNoPaper cNoValue cTooMany cNoFunction cNoProgram cNoText cNoRatio cNoSize cNoRow:Addr} (Y:Cls K mg cE cT cNoPaper cNoValue cTooMany cNoFunction cNoProgram cNoText cNoRatio cNoSize cNoRow) (Fa:FX P w K mg base 3 "check_table" ["table"] (sh cT)) (F:Fun K "room_of" "room_of" (top 28) f fd) (m:mg "room_of" = some (.ref f)):FX P w K mg base 4 "room_of" ["calls", "table"] (t2X cT):=by
 have S:zj ["calls", "table", "rooms", "call", "above"] ["calls", "table"] (zb (top 28)):=⟨rfl,rfl,rfl,by decide +kernel,rfl,by decide +kernel,by decide +kernel⟩
 refine cb F S (F.binds λ_ _ _ _ _ _ us hl=>(by obtain ⟨_,_,rfl⟩:=rf hl; rfl)) m λqZ A outer s H E ds φ χ hr hl hT hxp hxr=>?_
 have hu:=hr.units
 refine ⟨_,(ze (w6 (ym Fa (hr.mono (by decide)) hxp (za (z9 1) zd))) wt),?_⟩
 obtain ⟨a,d,rfl,hs,h⟩:=hT
 exact zy ⟨rfl,d,rfl,hs,h⟩
def T6 (T:Tops mg) {cE cT cNoPaper cNoValue cTooMany cNoFunction cNoProgram cNoText cNoRatio cNoSize cNoRow:Addr} (Y:Cls K mg cE cT cNoPaper cNoValue cTooMany cNoFunction cNoProgram cNoText cNoRatio cNoSize cNoRow) (Fp:FD P w K mg base 2 "ways_of" ["calls"] Ss) (Fc:FX P w K mg base 4 "own_prices" ["calls", "steps", "table"] (t3X cT)) (F:Fun K "by_way" "by_way" (top 23) f fd) (m:mg "by_way" = some (.ref f)):FX P w K mg base 5 "by_way" ["calls", "steps", "table"] (t3W cT):=by
 have S:zj ["calls", "steps", "table", "parts", "way", "price"] ["calls", "steps", "table"] (zb (top 23)):=⟨rfl,rfl,rfl,by decide +kernel,rfl,by decide +kernel,by decide +kernel⟩
 refine cb F S (F.binds λ_ _ _ _ _ _ us hl=>(by obtain ⟨_,_,_,rfl⟩:=Z6 hl; rfl)) m λqZ A outer s H E ds φ χ hr hl hT hxp hxr=>?_
 have hu:=hr.units
 refine ⟨_,(ze (zn 3 S.nd cz)
   (ze (Om (Mj T.zip (za (zk Fp (hr.mono (by decide)) (za (z9 0) zd)) (za (ym Fc (hr.mono (by decide)) hxp (za (z9 0) (za (z9 1) (za (z9 2) zd)))) zd)))) wt)),?_⟩
 obtain ⟨cl,b,d,rfl,hc,hs,h⟩:=hT
 refine zy ⟨trivial,?_⟩
 dsimp only
 exact zy ⟨rfl,cl,rfl,hc,rfl,_,b,d,rfl,hs,h⟩
def cf (T:Tops mg) {cE cT cNoPaper cNoValue cTooMany cNoFunction cNoProgram cNoText cNoRatio cNoSize cNoRow:Addr} (Y:Cls K mg cE cT cNoPaper cNoValue cTooMany cNoFunction cNoProgram cNoText cNoRatio cNoSize cNoRow) (Ed:FX P w K mg base 4 "price_of" ["steps", "table"] (t2X cT)) (Fc:FX P w K mg base 4 "own_prices" ["calls", "steps", "table"] (t3X cT)) (Fs:FX P w K mg base 5 "whole_prices" ["calls", "steps", "table"] (t3X cT)) (Ex:FX P w K mg base 5 "by_way" ["calls", "steps", "table"] (t3W cT)) (Em:FX P w K mg base 4 "by_kind" ["steps", "table"] (t2X cT)) (En:FX P w K mg base 4 "room_of" ["calls", "table"] (t2X cT)) (F:Fun K "_law_asked" "_law_asked" (top 37) f fd) (m:mg "_law_asked" = some (.ref f)):FX P w K mg base 6 "_law_asked" ["_law_way", "_law_calls", "_law_steps", "_law_table_here"] (Lk cT):=by
 have S:zj ["_law_way", "_law_calls", "_law_steps", "_law_table_here"] ["_law_way", "_law_calls", "_law_steps", "_law_table_here"] (zb (top 37)):=⟨rfl,rfl,rfl,by decide +kernel,rfl,by decide +kernel,by decide +kernel⟩
 refine cb F S (F.binds λ_ _ _ _ _ _ us hl=>(by obtain ⟨_,_,_,_,rfl⟩:=Nw hl; rfl)) m λqZ A outer s H E ds φ χ hr hl hT hxp hxr=>?_
 have hu:=hr.units
 refine ⟨_,(ze (xf (wj hu (z9 0) zc) (zh (zx (ym Ed (hr.mono (by decide)) hxp (za (z9 2) (za (z9 3) zd))))) yh)
   (ze (xf (wj hu (z9 0) zc) (zh (zx (ym Fc (hr.mono (by decide)) hxp (za (z9 1) (za (z9 2) (za (z9 3) zd)))))) yh)
   (ze (xf (wj hu (z9 0) zc) (zh (zx (ym Fs (hr.mono (by decide)) hxp (za (z9 1) (za (z9 2) (za (z9 3) zd)))))) yh)
   (ze (xf (wj hu (z9 0) zc) (zh (zx (ym Ex (hr.mono (by decide)) hxp (za (z9 1) (za (z9 2) (za (z9 3) zd)))))) yh)
   (ze (xf (wj hu (z9 0) zc) (zh (zx (ym Em (hr.mono (by decide)) hxp (za (z9 2) (za (z9 3) zd))))) yh)
   (zh (zx (ym En (hr.mono (by decide)) hxp (za (z9 1) (za (z9 3) zd)))))))))),?_⟩
 obtain ⟨w,cl,b,d,rfl,hw,hc,hs,h⟩:=hT
 refine zy (xt 0 rfl (λ_=>⟨rfl,b,d,rfl,hs,h⟩) (λn0=>?_))
 dsimp only
 refine zy (xt 1 rfl (λ_=>⟨rfl,_,b,d,rfl,hs,h⟩) (λn1=>?_))
 dsimp only
 refine zy (xt 2 rfl (λ_=>⟨rfl,_,b,d,rfl,hs,h⟩) (λn2=>?_))
 dsimp only
 refine zy (xt 3 rfl (λ_=>⟨rfl,cl,b,d,rfl,hc,hs,h⟩) (λn3=>?_))
 dsimp only
 refine zy (xt 4 rfl (λ_=>⟨rfl,b,d,rfl,hs,h⟩) (λn4=>?_))
 dsimp only
 exact ⟨rfl,_,d,rfl,hs,h⟩
def cq (T:Tops mg) (Ee:FD P w K mg base 4 "price_of" ["steps", "table"] Y8) (Fb:FD P w K mg base 4 "own_prices" ["calls", "steps", "table"] tOwn) (Ft:FD P w K mg base 5 "whole_prices" ["calls", "steps", "table"] V4) (Ey:FD P w K mg base 5 "by_way" ["calls", "steps", "table"] Pa) (Eo:FD P w K mg base 4 "by_kind" ["steps", "table"] V9) (Ep:FD P w K mg base 4 "room_of" ["calls", "table"] L8) (F:Fun K "_law_asked" "_law_asked" (top 37) f fd) (m:mg "_law_asked" = some (.ref f)):FD P w K mg base 6 "_law_asked" ["_law_way", "_law_calls", "_law_steps", "_law_table_here"] tAsk:=by
 have S:zj ["_law_way", "_law_calls", "_law_steps", "_law_table_here"] ["_law_way", "_law_calls", "_law_steps", "_law_table_here"] (zb (top 37)):=⟨rfl,rfl,rfl,by decide +kernel,rfl,by decide +kernel,by decide +kernel⟩
 refine xp F S (F.binds λ_ _ _ _ _ _ us hl=>(by obtain ⟨_,_,_,_,rfl⟩:=Nw hl; rfl)) m λqZ A outer s H E ds φ hr hl hT=>?_
 have hu:=hr.units
 refine ⟨_,(ze (xf (wj hu (z9 0) zc) (zh (zx (zk Ee (hr.mono (by decide)) (za (z9 2) (za (z9 3) zd))))) yh)
   (ze (xf (wj hu (z9 0) zc) (zh (zx (zk Fb (hr.mono (by decide)) (za (z9 1) (za (z9 2) (za (z9 3) zd)))))) yh)
   (ze (xf (wj hu (z9 0) zc) (zh (zx (zk Ft (hr.mono (by decide)) (za (z9 1) (za (z9 2) (za (z9 3) zd)))))) yh)
   (ze (xf (wj hu (z9 0) zc) (zh (zx (zk Ey (hr.mono (by decide)) (za (z9 1) (za (z9 2) (za (z9 3) zd)))))) yh)
   (ze (xf (wj hu (z9 0) zc) (zh (zx (zk Eo (hr.mono (by decide)) (za (z9 2) (za (z9 3) zd))))) yh)
   (zh (zx (zk Ep (hr.mono (by decide)) (za (z9 1) (za (z9 3) zd)))))))))),?_⟩
 obtain ⟨w,cl,ss,d,pr,rfl,hw,hc,hss,ht,h⟩:=hT
 have pn:∀ l:List Int,x6 (nsD l):=λl=>xh l
 refine zy (xt 0 rfl (λe=>?_) (λn0=>?_))
 ·cases (show w=0 by omega)
  exact ⟨rfl,ss,pr,cl.length,rfl,hss,ht,trivial,h⟩
 dsimp only
 refine zy (xt 1 rfl (λe=>?_) (λn1=>?_))
 ·cases (show w=1 by omega)
  exact ⟨rfl,cl,ss,pr,rfl,hc,rfl,hss,ht,pn _,h⟩
 dsimp only
 refine zy (xt 2 rfl (λe=>?_) (λn2=>?_))
 ·cases (show w=2 by omega)
  exact ⟨rfl,cl,ss,pr,rfl,hc,rfl,hss,ht,pn _,h⟩
 dsimp only
 refine zy (xt 3 rfl (λe=>?_) (λn3=>?_))
 ·cases (show w=3 by omega)
  exact ⟨rfl,cl,ss,pr,rfl,hc,rfl,hss,ht,Yj cl pr ss,h⟩
 dsimp only
 refine zy (xt 4 rfl (λe=>?_) (λn4=>?_))
 ·cases (show w=4 by omega)
  exact ⟨rfl,ss,pr,cl.length,rfl,hss,ht,xh _,h⟩
 dsimp only
 cases (show w=5 by omega)
 exact ⟨rfl,cl,pr,rfl,hc,ht,trivial,h⟩
def L9:FT:=λds φ=>∃ (w:Nat) (cl:List D) (b d:D),ds=[.int w,.lst cl,b,d] /\ w <= 5 /\ Calls cl /\ Spl d /\ φ (dv (.bl true))
def qv (T:Tops mg) {cE cT cNoPaper cNoValue cTooMany cNoFunction cNoProgram cNoText cNoRatio cNoSize cNoRow:Addr} (Y:Cls K mg cE cT cNoPaper cNoValue cTooMany cNoFunction cNoProgram cNoText cNoRatio cNoSize cNoRow) (E2:FX P w K mg base 6 "_law_asked" ["_law_way", "_law_calls", "_law_steps", "_law_table_here"] (Lk cT)) (F:Fun K "_law_refused" "_law_refused" (top 38) f fd) (m:mg "_law_refused" = some (.ref f)):FD P w K mg base 7 "_law_refused" ["_law_way", "_law_calls", "_law_steps", "_law_table_here"] L9:=by
 have S:zj ["_law_way", "_law_calls", "_law_steps", "_law_table_here", "_law_told", "e"] ["_law_way", "_law_calls", "_law_steps", "_law_table_here"] (zb (top 38)):=⟨rfl,rfl,rfl,by decide +kernel,rfl,by decide +kernel,by decide +kernel⟩
 refine xp F S (F.binds λ_ _ _ _ _ _ us hl=>(by obtain ⟨_,_,_,_,rfl⟩:=Nw hl; rfl)) m λqZ A outer s H E ds φ hr hl hT=>?_
 have hu:=hr.units
 refine ⟨_,(ze (zn 4 S.nd Qu)
   (ze (Ln (K0:=K) (by rfl) 5 S.nd Y.b_TollError (λΓ1 pn xe χ hxp=>(zh (w6 (ym E2 (hr.mono (by decide)) hxp (za (z9 0) (za (z9 1) (za (z9 2) (za (z9 3) zd)))))))) (λa=>by exact (ze (zn 4 S.nd (xy (yz (K0:=K) (by rfl) T.isinstance Y.b_NoTable (z9 5)) (qf (To (K0:=K) (by rfl) T.isinstance T.ValueError t0 (z9 5)))))
    (ze (zn 4 S.nd (xy (z9 4) (xy (v5 (yz (K0:=K) (by rfl) T.isinstance Y.b_NoPaper (z9 5))) (xy (v5 (yz (K0:=K) (by rfl) T.isinstance Y.b_NoValue (z9 5))) (qf (v5 (yz (K0:=K) (by rfl) T.isinstance Y.b_TooMany (z9 5))))))))
    (ze (zn 4 S.nd (xy (z9 4) (xy (v5 (yz (K0:=K) (by rfl) T.isinstance Y.b_NoFunction (z9 5))) (xy (v5 (yz (K0:=K) (by rfl) T.isinstance Y.b_NoProgram (z9 5))) (qf (v5 (yz (K0:=K) (by rfl) T.isinstance Y.b_NoText (z9 5))))))))
    (zh (zn 4 S.nd (xy (z9 4) (xy (v5 (yz (K0:=K) (by rfl) T.isinstance Y.b_NoRatio (z9 5))) (xy (v5 (yz (K0:=K) (by rfl) T.isinstance Y.b_NoSize (z9 5))) (qf (v5 (yz (K0:=K) (by rfl) T.isinstance Y.b_NoRow (z9 5))))))))))))))
   (zh (zx (z9 4))))),?_⟩
 obtain ⟨w,cl,b,d,rfl,hw,hc,hs,h⟩:=hT
 have no:∀ c,c ∈ [cNoPaper,cNoValue,cTooMany,cNoFunction,cNoProgram,cNoText,cNoRatio,cNoSize,cNoRow]->W.kitOne K (.ref cT) (.ref c)=some false:=Y.k_no
 refine zy ⟨trivial,?_⟩
 dsimp only
 refine zy ?_
 refine ⟨rfl,w,cl,b,d,rfl,hw,hc,hs,Y.m_NoTable,?_⟩
 refine zy ⟨true,Qa,Y.y_NoTable,λ_=>⟨true,Y.k_Val,Y.y_NoTable,trivial,?_⟩,λz=>(by cases z)⟩
 dsimp only
 have q1:=no cNoPaper (by simp)
 have q2:=no cNoValue (by simp)
 have q3:=no cTooMany (by simp)
 refine (zy ⟨λ_=>⟨false,q1,Y.y_NoTable,λ_=>⟨false,q2,Y.y_NoTable,λ_=>⟨false,q3,Y.y_NoTable,trivial,?_⟩,λz=>(by cases z)⟩,λz=>(by cases z)⟩,λz=>(by cases z)⟩)
 dsimp only
 clear q1 q2 q3
 have q1:=no cNoFunction (by simp)
 have q2:=no cNoProgram (by simp)
 have q3:=no cNoText (by simp)
 refine (zy ⟨λ_=>⟨false,q1,Y.y_NoTable,λ_=>⟨false,q2,Y.y_NoTable,λ_=>⟨false,q3,Y.y_NoTable,trivial,?_⟩,λz=>(by cases z)⟩,λz=>(by cases z)⟩,λz=>(by cases z)⟩)
 dsimp only
 clear q1 q2 q3
 have q1:=no cNoRatio (by simp)
 have q2:=no cNoSize (by simp)
 have q3:=no cNoRow (by simp)
 refine ⟨λ_=>⟨false,q1,Y.y_NoTable,λ_=>⟨false,q2,Y.y_NoTable,λ_=>⟨false,q3,Y.y_NoTable,trivial,?_⟩,λz=>(by cases z)⟩,λz=>(by cases z)⟩,λz=>(by cases z)⟩
 clear q1 q2 q3
 exact ⟨trivial,h⟩
end
def vk:FT:=λds φ=>match ds with
 | [.scr _,.int k]=>0 <= k /\ ∀ c:Int,0 <= c->c < 10 ^ 62->φ (dv (.int c))
 | _=>False
def V8 {ds:List D} {φ:EV->Prop} (h:vk ds φ):∃ (ns:List Int) (k:Nat),ds=[.scr ns,.int k] /\ ∀ c:Int,0 <= c->c < 10 ^ 62->φ (dv (.int c)):=by
 unfold vk at h
 split at h
 ·rename_i ns k
  obtain ⟨h0,h⟩:=h
  exact ⟨ns,k.toNat,by rw [Int.toNat_of_nonneg h0],h⟩
 ·exact h.elim
def Od:FT:=w2 λ_ k φ=>0 <= k /\ k <= 100 /\ ∀ z:Str,φ (dv (.str z))
def qz:FT:=λds φ=>ds=[] /\ φ (df (.lst (yw.map D.str)))
def P9:FT:=g1 λd φ=>∃ ns,d=.scr ns /\ ∀ e pr,Tab e pr->φ (df e)
def numT (c:Int):Int:=(if c.fmod 2=0 then 1 else -1) * (c.fdiv 6).fmod (10 ^ 60)
def se (c:Int):List D:=[.int (numT c),.tup [],.non,.tup [.int (numT c)],.tup [.non,.int (numT c),.non],.tup [.int (numT c),.int (c.fmod 9)]]
def ul (c:Int):D:=(se c).getD ((c.fdiv 2).fmod 6).toNat .non
def Y7:FT:=w1 λc φ=>φ (dv (ul c))
def bv:FT:=g3 λa b s φ=>∃ c cl ns,a=.int c /\ b=.lst cl /\ s=.scr ns /\ Calls cl /\ ∀ d,Xa cl.length d->φ (dv d)
def tRun:FT:=g1 λd φ=>∃ ns:List Int,d=.scr ns /\ ns.length <= 63 /\ ∀ cl ss,Calls cl->Sts ss cl.length->φ ⟨.new,.tup [.lst cl,.lst (stsD ss)]⟩
def Lm (c:Int):atI [D.int 1,D.int (-1)] (c.fmod 2)=some (D.int (if c.fmod 2=0 then 1 else -1)):=by
 have m:=yn c 2 (by decide)
 have:c.fmod 2=0 \/ c.fmod 2=1:=by omega
 rcases this with e | e <;> rw [e] <;> rfl
def V2 (c:Int):ul c ∈ se c:=by
 have m:=yn (c.fdiv 2) 6 (by decide)
 unfold ul
 have h:((c.fdiv 2).fmod 6).toNat < (se c).length:=by
  show _ < 6
  omega
 rw [List.getD_eq_getElem?_getD,List.getElem?_eq_getElem h]
 exact List.getElem_mem h
def Sr (c:Int):atI (se c) ((c.fdiv 2).fmod 6)=some (ul c):=by
 have m:=yn (c.fdiv 2) 6 (by decide)
 have h:((c.fdiv 2).fmod 6).toNat < (se c).length:=by
  show _ < 6
  omega
 refine ua m.1 ?_
 unfold ul
 rw [List.getD_eq_getElem?_getD,List.getElem?_eq_getElem h]
 rfl
def jb (c:Int):pureD (ul c) /\ ∀ n,okD (n + 3) (ul c):=by
 have h:=V2 c
 unfold se at h
 simp only [List.mem_cons,List.not_mem_nil,or_false] at h
 rcases h with h | h | h | h | h | h <;> rw [h] <;> exact ⟨by simp [pureD,x6],λn=>by simp [okD]⟩
section
variable {P:Program} {w:World} {K:W.Frag} {mg:Str->Option Value} {base:Heap} {f:Addr} {fd:FuncData}
def OkD (d:D):Prop:=pureD d /\ ∀ n,okD (n + 3) d
def X3 {cl:List D} (h:Calls cl) (n:Nat):okD (n + 6) (.lst cl):=by
 show ∀ x ∈ cl,okD (n + 5) x
 intro x hx
 obtain ⟨i,hi⟩:=List.getElem?_of_mem hx
 obtain ⟨_,_,_,_,_,_,_,ho,_⟩:=h.2 i x hi
 exact ho n
def Px (cl:List D):eqD (.lst cl) (.lst [])=cl.isEmpty:=by
 cases cl <;> rfl
def Zr (T:Tops mg) (Gy:FD P w K mg base 1 "_law_cell_at" ["_law_script", "_law_k"] vk) (E7:FD P w K mg base 1 "_law_name" ["_law_cell", "_law_k"] Od) (Fn:FD P w K mg base 1 "_law_thing" ["_law_cell"] Y7) (F:Fun K "_law_call" "_law_call" (top 35) f fd) (m:mg "_law_call" = some (.ref f)):FD P w K mg base 2 "_law_call" ["_law_cell", "_law_calls", "_law_script"] bv:=by
 have S:zj ["_law_cell", "_law_calls", "_law_script", "_law_number", "_law_many", "_law_args", "_law_up", "_law_done", "_law_value"] ["_law_cell", "_law_calls", "_law_script"] (zb (top 35)):=⟨rfl,rfl,rfl,by decide +kernel,rfl,by decide +kernel,by decide +kernel⟩
 refine xp F S (F.binds λ_ _ _ _ _ _ us hl=>(by obtain ⟨_,_,_,rfl⟩:=Z6 hl; rfl)) m λqZ A outer s H E ds φ hr hl hT=>?_
 have hu:=hr.units
 refine ⟨_,(ze (yo (zn 3 S.nd (zr (xq (z9 0) zc) zc)))
   (ze (yo (zn 4 S.nd (yp zc (zr (xq (zk Gy (hr.mono (by decide)) (za (z9 2) (za zc zd))) (y0 hu (yt (za zc (za zc (za zc (za zc (za zc (za zc zd))))))) (z9 3))) zc))))
   (ze (yo (zn 5 S.nd (Th T.tuple (za (wq (T:=["_law_k"]) (F:=["_law_cell"]) (js:=[0]) (xo T.range (za (z9 4) zd)) (show zt (zb (top 35)) _ ["_law_k"] ["_law_cell"] from ⟨rfl,by decide +kernel,by decide +kernel,by decide +kernel,by decide +kernel,by decide +kernel⟩) (.cons rfl .nil) (by decide) (λcl C fp s H=>(zu (i:=0) (show ((["_law_k"]:List Str) ++ (["_law_cell"]:List Str)).Nodup by decide +kernel) rfl (by walk_at "o"))) (xn (by decide)) (yi 0) (λcl C fp s H=>xu) (λcl C fp s H=>(zk Fn (hr.mono (by decide)) (za (xq (z9 1) (yp (u7 zc (z9 0)) zc)) zd)))) zd))))
   (ze (yo (zn 6 S.nd u6))
   (ze (yo (xf (Ql hu (z9 1) (yt zd)) (zh (zn 6 S.nd (y0 hu (yt (za (Ti (qg T.len (za (z9 1) zd)) zc) (za (zr (xq (z9 0) zc) (qg T.len (za (z9 1) zd))) zd))) (zr (xq (z9 0) zc) zc)))) yh))
   (ze (yo (zn 7 S.nd (Gm hu (zr (xq (z9 0) zc) zc) zc)))
   (ze (yo (zn 8 S.nd u6))
   (ze (yo (xf (qb (z9 7)) (zh (zn 8 S.nd (zk Fn (hr.mono (by decide)) (za (xq (z9 0) zc) zd)))) yh))
   (zh (zx (v4 (za (zk E7 (hr.mono (by decide)) (za (zk Gy (hr.mono (by decide)) (za (z9 2) (za zc zd))) (za (z9 3) zd))) (za (z9 5) (za (z9 6) (za (z9 7) (za (z9 8) zd)))))))))))))))),?_⟩
 obtain ⟨a0,b0,s0,rfl,c,cl,ns,rfl,rfl,rfl,hc,h⟩:=Qk hT
 refine ya (λρ=>∃ n:Int,0 <= n /\ n <= 5 /\ ρ=[some (dv (.int c)),some (dv (.lst cl)),some (dv (.scr ns)),some (dv (.int n)),none,none,none,none,none]) ?_ ?_
 ·walk_at "dl"
  have m:=yn (c.fdiv 4) 6 (by decide)
  exact ⟨of_eq_true (yr (by decide) (by decide)),_,by omega,by omega,rfl⟩
 rintro _ ⟨n,hn0,hn1,rfl⟩
 refine ya (λρ=>∃ m:Int,1 <= m /\ m <= 4 /\ ρ=[some (dv (.int c)),some (dv (.lst cl)),some (dv (.scr ns)),some (dv (.int n)),some (dv (.int m)),none,none,none,none]) ?_ ?_
 ·walk_at "dl"
  simp only [vk]
  refine ⟨by decide,λe h0 h1=>?_⟩
  obtain ⟨v,ev,hv0,hv1⟩:∃ v:Int,atI [D.int 1,D.int 4,D.int 16,D.int 64,D.int 256,D.int 1024] n=some (.int v) /\ 1 <= v /\ v <= 1024:=by
   have:n=0 \/ n=1 \/ n=2 \/ n=3 \/ n=4 \/ n=5:=by omega
   rcases this with rfl | rfl | rfl | rfl | rfl | rfl
   ·exact ⟨1,rfl,by decide,by decide⟩
   ·exact ⟨4,rfl,by decide,by decide⟩
   ·exact ⟨16,rfl,by decide,by decide⟩
   ·exact ⟨64,rfl,by decide,by decide⟩
   ·exact ⟨256,rfl,by decide,by decide⟩
   ·exact ⟨1024,rfl,by decide,by decide⟩
  rw [ev]
  dsimp only
  have m:=yn (e.fdiv v) 4 (by decide)
  exact ⟨fdOk (m:=64) (by omega) (qm (by omega)),_,by omega,by omega,rfl⟩
 rintro _ ⟨m,hm0,hm1,rfl⟩
 refine ya (λρ=>∃ al,al.length <= 4 /\ (∀ d ∈ al,OkD d) /\ ρ=[some (dv (.int c)),some (dv (.lst cl)),some (dv (.scr ns)),some (dv (.int n)),some (dv (.int m)),some (dv (.tup al)),none,none,none]) ?_ ?_
 ·walk_at "dl"
  refine xc (rngD 0 m.toNat) (λψ hψ=>?_) (λd=>match d with | .int k=>some (ul (c.fdiv (24 * k + 7))) | _=>none) (by rw [sk]; omega) ?_ ?_
  ·walk_at "dl"
   exact ⟨by omega,by omega,hψ⟩
  ·intro d hd
   obtain ⟨i,hi⟩:=List.getElem?_of_mem hd
   obtain ⟨hi',rfl⟩:=ud hi
   simp only [ρ0,List.map_cons,List.map_nil,List.replicate,List.cons_append,List.nil_append]
   walk_at "dl"
   simp only [Y7,w1]
   exact ⟨IntMulOk.of_left (by decide),fdOk (m:=64) (by omega) (qm (by omega)),trivial,trivial⟩
  ·walk_at "dl"
   refine ⟨_,Nat.le_trans (List.length_filterMap_le _ _) (by rw [sk]; omega),λd hd=>?_,rfl⟩
   obtain ⟨e,he,e2⟩:=List.mem_filterMap.mp hd
   split at e2
   ·cases e2
    exact jb _
   ·cases e2
 rintro _ ⟨al,hal4,hal,rfl⟩
 refine ya (λρ=>ρ=[some (dv (.int c)),some (dv (.lst cl)),some (dv (.scr ns)),some (dv (.int n)),some (dv (.int m)),some (dv (.tup al)),some (dv .non),none,none]) ?_ ?_
 ·walk_at "dl"
 rintro _ rfl
 refine ya (λρ=>∃ up,(cl.length=0->up=.non) /\ (0 < cl.length->∃ u:Nat,up=.int u /\ u < cl.length) /\ ρ=[some (dv (.int c)),some (dv (.lst cl)),some (dv (.scr ns)),some (dv (.int n)),some (dv (.int m)),some (dv (.tup al)),some (dv up),none,none]) ?_ ?_
 ·walk_at "dl"
  refine ⟨X3 hc 34,by simp [okD],?_⟩
  rw [Px]
  refine ⟨λz=>?_,λz=>?_⟩
  ·have hp:0 < cl.length:=List.length_pos_iff.mpr (by intro e; subst e; cases z)
   have m2:=yn (c.fdiv 72) cl.length (by omega)
   obtain ⟨r,hr,er⟩:=G6 (D.int ((cl.length:Int) - 1)) (D.int ((c.fdiv 72).fmod cl.length)) (c.fdiv 24)
   refine ⟨of_eq_true (yr (by decide) (by decide)),by omega,of_eq_true (yr (by decide) (by decide)),?_⟩
   rw [er]
   dsimp only
   refine ⟨r,λz=>by omega,λ_=>?_,rfl⟩
   rcases hr with rfl | rfl
   ·exact ⟨cl.length - 1,by rw [show ((cl.length - 1:Nat):Int)=(cl.length:Int) - 1 by omega],by omega⟩
   ·exact ⟨((c.fdiv 72).fmod cl.length).toNat,by rw [Int.toNat_of_nonneg m2.1],by omega⟩
  ·have e:cl=[]:=by cases cl with | nil=>rfl | cons=>cases z
   subst e
   exact ⟨.non,λ_=>rfl,λz=>absurd z (by simp),rfl⟩
 rintro _ ⟨up,hu0,hu1,rfl⟩
 refine ya (λρ=>∃ b,ρ=[some (dv (.int c)),some (dv (.lst cl)),some (dv (.scr ns)),some (dv (.int n)),some (dv (.int m)),some (dv (.tup al)),some (dv up),some (dv (.bl b)),none]) ?_ ?_
 ·walk_at "dl"
  exact ⟨of_eq_true (yr (by decide) (by decide)),_,rfl⟩
 rintro _ ⟨bb,rfl⟩
 refine ya (λρ=>ρ=[some (dv (.int c)),some (dv (.lst cl)),some (dv (.scr ns)),some (dv (.int n)),some (dv (.int m)),some (dv (.tup al)),some (dv up),some (dv (.bl bb)),some (dv .non)]) ?_ ?_
 ·walk_at "dl"
 rintro _ rfl
 refine ya (λρ=>∃ va,OkD va /\ ρ=[some (dv (.int c)),some (dv (.lst cl)),some (dv (.scr ns)),some (dv (.int n)),some (dv (.int m)),some (dv (.tup al)),some (dv up),some (dv (.bl bb)),some (dv va)]) ?_ ?_
 ·walk_at "dl"
  simp only [Y7,w1]
  refine ⟨λ_=>⟨of_eq_true (yr (by decide) (by decide)),?_⟩,λ_=>⟨.non,⟨trivial,λn=>by simp [okD]⟩,rfl⟩⟩
  exact ⟨trivial,_,jb _,rfl⟩
 rintro _ ⟨va,hva,rfl⟩
 walk_at "dl"
 simp only [vk,Od,w2]
 refine ⟨by decide,λc' _ _=>⟨hn0,by omega,λz=>⟨trivial,?_,?_⟩⟩⟩
 ·have hup:pureD up:=by
   by_cases hz:cl.length=0
   ·rw [hu0 hz]; trivial
   ·obtain ⟨u,rfl,_⟩:=hu1 (by omega)
    trivial
  exact ⟨trivial,yf.mpr λd hd=>(hal d hd).1,hup,hva.1⟩
 ·refine h _ ⟨_,_,_,_,_,rfl,?_,λn=>?_,hu0,hu1⟩
  ·have hup:pureD up:=by
    by_cases hz:cl.length=0
    ·rw [hu0 hz]; trivial
    ·obtain ⟨u,rfl,_⟩:=hu1 (by omega)
     trivial
   exact ⟨⟨trivial,yf.mpr λd hd=>(hal d hd).1,hup,trivial,hva.1,trivial⟩,al,rfl,hal4⟩
  ·have hup:okD (n + 4) up:=by
    by_cases hz:cl.length=0
    ·rw [hu0 hz]; simp [okD]
    ·obtain ⟨u,rfl,_⟩:=hu1 (by omega)
     simp [okD]
   show ∀ x ∈ [D.str z,.tup al,up,.bl bb,va],okD (n + 4) x
   intro x hx
   simp only [List.mem_cons,List.not_mem_nil,or_false] at hx
   rcases hx with rfl | rfl | rfl | rfl | rfl
   ·simp [okD]
   ·show ∀ y ∈ al,okD (n + 3) y
    exact λy hy=>(hal y hy).2 n
   ·exact hup
   ·simp [okD]
   ·exact hva.2 (n + 1)
def Sts.nil (n:Nat):Sts [] n:=⟨Nat.zero_le _,λ_ h=>nomatch h⟩
def Calls.nil:Calls []:=⟨Nat.zero_le _,λi d h=>by simp at h⟩
def Calls.snoc {cl:List D} {d:D} (h:Calls cl) (hd:Xa cl.length d) (hl:cl.length < 100):Calls (cl ++ [d]):=by
 refine ⟨by simp; omega,λi e he=>?_⟩
 rcases Nat.lt_or_ge i cl.length with hi | hi
 ·rw [List.getElem?_append_left hi] at he
  exact h.2 i e he
 ·rw [List.getElem?_append_right hi] at he
  have:i=cl.length:=by
   have:=(List.getElem?_eq_some_iff.mp he).1
   simp at this
   omega
  subst this
  simp at he
  subst he
  exact hd
def Qd (x:Int):∃ w ∈ yw,atI yw (x.fmod 6)=some w:=vf (l:=yw) (by decide) x
def Wd (T:Tops mg) (Fd:FD P w K mg base 1 "_law_kinds" [] qz) (E8:FD P w K mg base 2 "_law_call" ["_law_cell", "_law_calls", "_law_script"] bv) (F:Fun K "_law_run" "_law_run" (top 36) f fd) (m:mg "_law_run" = some (.ref f)):FD P w K mg base 3 "_law_run" ["_law_script"] tRun:=by
 have S:zj ["_law_script", "_law_calls", "_law_steps", "_law_cell", "_law_mixed", "_law_k"] ["_law_script"] (zb (top 36)):=⟨rfl,rfl,rfl,by decide +kernel,rfl,by decide +kernel,by decide +kernel⟩
 refine xp F S (F.binds λ_ _ _ _ _ _ us hl=>(by obtain ⟨_,rfl⟩:=jn hl; rfl)) m λqZ A outer s H E ds φ hr hl hT=>?_
 have hu:=hr.units
 refine ⟨_,(ze (zn 1 S.nd (yt zd))
   (ze (zn 2 S.nd (yt zd))
   (ze (wn (qe (Qo (z9 0) (Zu zc) (Zu zc))) (zu (i:=3) S.nd rfl (by walk_at "o")) (yi 3) (ze (yo (zn 3 S.nd (zr (z9 3) (j3 zc zc))))
    (ze (yo (xf (EW.et (Td (wj hu (z9 1) (yt zd)) (cv (Ql hu (zr (z9 3) zc) zc)))) (zh (vn 1 (zk E8 (hr.mono (by decide)) (za (z9 3) (za (z9 1) (za (z9 0) zd)))))) yh))
    (ze (yo (zn 4 S.nd (zr (u7 (yp (z9 3) (u7 zc (qg T.len (za (z9 2) zd)))) zc) zc)))
    (zh (wn (xo T.range (za (zr (z9 4) zc) zd)) (zu (i:=5) S.nd rfl (by walk_at "o")) (yi 5) (ze (zn 4 S.nd (zr (yp (yp (u7 (z9 4) (z9 4)) (u7 zc (z9 4))) (z9 5)) zc))
     (zh (vn 2 (v4 (za (zr (z9 4) (qg T.len (za (z9 1) zd))) (za (y0 hu (h9 Fd (hr.mono (by decide))) (zr (xq (z9 4) zc) zc)) zd))))))))))))
   (zh (Ol (za (z9 1) (za (z9 2) zd))))))),?_⟩
 obtain ⟨d,rfl,ns,rfl,hn,h⟩:=Wg hT
 let cs:=(ns.drop 10).take 60
 have hcs:cs.length <= 53:=by show ((ns.drop 10).take 60).length <= 53; rw [List.length_take,List.length_drop]; omega
 have ecs:cutD (ns.map D.int) (some 10) (some 70)=nsD cs:=by
  rw [show cutD (ns.map D.int) (some 10) (some 70)=((ns.map D.int).drop 10).take (70 - 10) from P0 _ 10 70]
  unfold nsD
  rw [List.map_take,List.map_drop]
 generalize cs=cs at *
 walk_at "dl"
 refine xg (nsD cs) (λψ hψ=>?_) (λi ρ=>∃ cl ss a3 a4 a5,Calls cl /\ cl.length <= i /\ (0 < i->0 < cl.length) /\ ss.length <= 3 * i /\ (∀ p ∈ ss,p.1 < cl.length /\ p.2 ∈ yw) /\ ρ=[some (dv (.scr ns)),some (dO (.lst cl)),some (dO (.lst (stsD ss))),a3,a4,a5])
  ⟨[],[],none,none,none,Calls.nil,Nat.le_refl _,λz=>absurd z (by decide),Nat.le_refl _,(λ_ z=>nomatch z),rfl⟩ ?_ ?_
 ·walk_at "dl"
  rw [ecs]
  exact hψ
 ·rintro i d ρ hd ⟨cl,ss,a3,a4,a5,hC,hcl,hc0,hsl,hss,rfl⟩
  have hi:i < cs.length:=by have:=(List.getElem?_eq_some_iff.mp hd).1; simpa [nsD] using this
  obtain ⟨c,rfl⟩:∃ c,d=.int c:=by
   obtain ⟨n,_,e⟩:=List.mem_map.mp (List.mem_of_getElem? hd)
   exact ⟨n,e.symm⟩
  refine (show sSeq _ _ _ _ from ?_)
  refine ya (λρ=>∃ c,ρ=[some (dv (.scr ns)),some (dO (.lst cl)),some (dO (.lst (stsD ss))),some (dv (.int c)),a4,a5]) ?_ ?_
  ·walk_at "dl"
   exact ⟨_,rfl⟩
  rintro _ ⟨c,rfl⟩
  refine ya (λρ=>∃ cl',Calls cl' /\ cl'.length <= i + 1 /\ 0 < cl'.length /\ (∀ p ∈ ss,p.1 < cl'.length /\ p.2 ∈ yw) /\ ρ=[some (dv (.scr ns)),some (dO (.lst cl')),some (dO (.lst (stsD ss))),some (dv (.int c)),a4,a5]) ?_ ?_
  ·have app:∀ d,Xa cl.length d->∃ cl',Calls cl' /\ cl'.length <= i + 1 /\ 0 < cl'.length /\ (∀ p ∈ ss,p.1 < cl'.length /\ p.2 ∈ yw) /\ [some (dv (.scr ns)),some (dO (.lst (cl ++ [d]))),some (dO (.lst (stsD ss))),some (dv (.int c)),a4,a5]=[some (dv (.scr ns)),some (dO (.lst cl')),some (dO (.lst (stsD ss))),some (dv (.int c)),a4,a5]:=λd hd =>
    ⟨cl ++ [d],hC.snoc hd (by omega),by simp; omega,by simp,λp hp=>⟨by have:=(hss p hp).1; simp; omega,(hss p hp).2⟩,rfl⟩
   have hlen:cl.length <= 100000:=by omega
   walk_at "dl"
   refine ⟨X3 hC 34,by simp [okD],?_⟩
   rw [Px]
   simp only [bv,g3]
   refine ⟨λ_=>⟨c,cl,ns,rfl,rfl,rfl,hC,λd hd=>⟨trivial,hlen,app d hd⟩⟩,λz=>⟨λ_=>⟨c,cl,ns,rfl,rfl,rfl,hC,λd hd=>⟨trivial,hlen,app d hd⟩⟩,λ_=>⟨cl,hC,by omega,?_,hss,rfl⟩⟩⟩
   exact List.length_pos_iff.mpr (by intro e; subst e; cases z)
  rintro _ ⟨cl',hC',hl',hp',hss',rfl⟩
  refine ya (λρ=>∃ m:Int,0 <= m /\ m < 2147483647 /\ ρ=[some (dv (.scr ns)),some (dO (.lst cl')),some (dO (.lst (stsD ss))),some (dv (.int c)),some (dv (.int m)),a5]) ?_ ?_
  ·have e3:(stsD ss).length=ss.length:=by unfold stsD; simp
   walk_at "dl"
   rw [e3]
   have m:=yn ((c + 7 * (ss.length:Int)) * 48271) 2147483647 (by decide)
   exact ⟨IntMulOk.of_left (by decide),IntMulOk.of_right (by decide),_,m.1,m.2,rfl⟩
  rintro _ ⟨m,hm0,hm1,rfl⟩
  refine xg (rngD 0 (m.fmod 4).toNat) (λψ hψ=>?_) (λj ρ=>∃ ss' m' a5,ss'.length <= 3 * i + j /\ (∀ p ∈ ss',p.1 < cl'.length /\ p.2 ∈ yw) /\ 0 <= m' /\ m' < (2147483647:Int) /\ ρ=[some (dv (.scr ns)),some (dO (.lst cl')),some (dO (.lst (stsD ss'))),some (dv (.int c)),some (dv (.int m')),a5])
   ⟨ss,m,a5,by omega,hss',hm0,hm1,rfl⟩ ?_ ?_
  ·have m4:=yn m 4 (by decide)
   walk_at "dl"
   exact ⟨by omega,by omega,hψ⟩
  ·rintro j d ρ hd ⟨ss',m',a5,h1,h2,h3,h4,rfl⟩
   obtain ⟨hj,rfl⟩:=ud hd
   have m4:=yn m 4 (by decide)
   have q:=yn (m' * m' + 48271 * m' + j) 2147483647 (by decide)
   have e3:(stsD ss').length=ss'.length:=by unfold stsD; simp
   walk_at "dl"
   simp only [qz]
   have hmm:IntMulOk m' m':=IntMulOk.of_left (qm (by omega))
   generalize (m' * m' + 48271 * m' + (j:Int)).fmod 2147483647=m2 at *
   obtain ⟨v,hv,ev⟩:=Qd (m2.fdiv 64)
   rw [S5,ev]
   have m5:=yn m2 cl'.length (by omega)
   have ea:(((m2.fmod cl'.length).toNat:Nat):Int)=m2.fmod cl'.length:=Int.toNat_of_nonneg m5.1
   have e6:stsD ss' ++ [D.tup [.int (m2.fmod cl'.length),.str v]]=stsD (ss' ++ [((m2.fmod cl'.length).toNat,v)]):=by
    unfold stsD
    rw [zMa,List.map_singleton,stD,ea]
   refine ⟨hmm,IntMulOk.of_left (by decide),by omega,trivial,of_eq_true (yr (by decide) (by decide)),?_⟩
   simp only [Option.map_some]
   rw [e6]
   refine ⟨by omega,_,_,_,?_,?_,q.1,q.2,rfl⟩
   ·rw [zLa,List.length_singleton]
    omega
   ·intro p hp
    rcases List.mem_append.mp hp with hp | hp
    ·exact h2 p hp
    ·simp at hp
     subst hp
     exact ⟨by show (m2.fmod cl'.length).toNat < cl'.length; omega,hv⟩
  ·rintro ρ ⟨ss',m',a5,h1,h2,h3,h4,rfl⟩
   rw [sk] at h1
   have m4:=yn m 4 (by decide)
   exact ⟨cl',ss',_,_,_,hC',hl',λ_=>hp',by omega,h2,rfl⟩
 ·rintro ρ ⟨cl,ss,a3,a4,a5,hC,hcl,hc0,hsl,hss,rfl⟩
  have e3:(nsD cs).length=cs.length:=by unfold nsD; simp
  rw [e3] at hcl hsl
  walk_at "dl"
  refine ⟨⟨yf.mpr λd hd=>?_,yf.mpr λd hd=>?_⟩,h cl ss hC ⟨by omega,hss⟩⟩
  ·obtain ⟨k,hk⟩:=List.getElem?_of_mem hd
   obtain ⟨_,_,_,_,_,_,hp,_⟩:=hC.2 k d hk
   exact hp.1
  ·obtain ⟨p,_,rfl⟩:=List.mem_map.mp hd
   exact ⟨trivial,trivial,trivial⟩
def qw (T:Tops mg) (F:Fun K "_law_cell_at" "_law_cell_at" (top 30) f fd) (m:mg "_law_cell_at" = some (.ref f)):FD P w K mg base 1 "_law_cell_at" ["_law_script", "_law_k"] vk:=by
 have S:zj ["_law_script", "_law_k"] ["_law_script", "_law_k"] (zb (top 30)):=⟨rfl,rfl,rfl,by decide +kernel,rfl,by decide +kernel,by decide +kernel⟩
 refine xp F S (F.binds λ_ _ _ _ _ _ us hl=>(by obtain ⟨_,_,rfl⟩:=rf hl; rfl)) m λqZ A outer s H E ds φ hr hl hT=>?_
 have hu:=hr.units
 refine ⟨_,(ze (xf (Gj (z9 1) (qg T.len (za (z9 0) zd))) (zh (zx (zr (y0 hu (z9 0) (z9 1)) (j3 zc zc)))) yh)
   (zh (zx zc))),?_⟩
 obtain ⟨ns,k,rfl,h⟩:=V8 hT
 walk_at "dl"
 refine ⟨λhk=>?_,λhk=>h 0 (by decide) (by decide)⟩
 have hk':k < ns.length:=by omega
 rw [ua (x:=ns[k]) (by omega) (by simp [hk'])]
 have m:=yn ns[k] (10 ^ 62) (by decide)
 exact h _ m.1 m.2
def cm (T:Tops mg) (F:Fun K "_law_kinds" "_law_kinds" (top 32) f fd) (m:mg "_law_kinds" = some (.ref f)):FD P w K mg base 1 "_law_kinds" [] qz:=by
 have S:zj [] [] (zb (top 32)):=⟨rfl,rfl,rfl,by decide +kernel,rfl,by decide +kernel,by decide +kernel⟩
 refine xp F S (F.binds λ_ _ _ _ _ _ us hl=>match us,hl with | [],_=>rfl) m λqZ A outer s H E ds φ hr hl hT=>?_
 have hu:=hr.units
 refine ⟨_,(zh (zx (yt (za yk (za yk (za yk (za yk (za yk (za yk zd))))))))),?_⟩
 obtain ⟨rfl,h⟩:=hT
 walk_at "dl"
 exact h
def cj (T:Tops mg) (F:Fun K "_law_thing" "_law_thing" (top 34) f fd) (m:mg "_law_thing" = some (.ref f)):FD P w K mg base 1 "_law_thing" ["_law_cell"] Y7:=by
 have S:zj ["_law_cell", "_law_number"] ["_law_cell"] (zb (top 34)):=⟨rfl,rfl,rfl,by decide +kernel,rfl,by decide +kernel,by decide +kernel⟩
 refine xp F S (F.binds λ_ _ _ _ _ _ us hl=>(by obtain ⟨_,rfl⟩:=jn hl; rfl)) m λqZ A outer s H E ds φ hr hl hT=>?_
 have hu:=hr.units
 refine ⟨_,(ze (zn 1 S.nd (u7 (y0 hu (yt (za zc (za (Yy zc) zd))) (zr (z9 0) zc)) (zr (xq (z9 0) zc) (j3 zc zc))))
   (zh (zx (y0 hu (yt (za (z9 1) (za (v4 zd) (za u6 (za (v4 (za (z9 1) zd)) (za (v4 (za u6 (za (z9 1) (za u6 zd)))) (za (v4 (za (z9 1) (za (zr (z9 0) zc) zd))) zd))))))) (zr (xq (z9 0) zc) zc))))),?_⟩
 obtain ⟨c,rfl,h⟩:=Mu hT
 walk_at "dl"
 have e2:=Sr c
 unfold se numT at e2
 have hs:PySem.Builtin.Int.intBits (if c.fmod 2=0 then (1:Int) else -1) <= 64:=by split <;> decide
 rw [Lm]
 dsimp only
 refine ⟨of_eq_true (yr (by decide) (by decide)),IntMulOk.of_left hs,of_eq_true (yr (by decide) (by decide)),?_⟩
 rw [e2]
 exact ⟨(jb c).1,h⟩
def rot (t:Nat):List Str:=(List.range 7).map λk=>yb.getD ((k + t) % 7) ""
def Ye:∀ t < 7,(rot t).Nodup /\ (∀ w ∈ yb,w ∈ rot t) /\ (rot t).length=7:=by
 intro t ht
 have:t=0 \/ t=1 \/ t=2 \/ t=3 \/ t=4 \/ t=5 \/ t=6:=by omega
 rcases this with rfl | rfl | rfl | rfl | rfl | rfl | rfl <;> decide +kernel
def Yp {α β:Type} (f:α->β):∀ (ks:List Key) (xs:List α) (k:Key),zw ks (xs.map f) k=(zw ks xs k).map f
 | [],_,_=>by simp [zw]
 | _ :: _,[],_=>by simp [zw]
 | k' :: ks,x :: xs,k=>by
  rw [List.map_cons,zw,zw]
  split
  ·rfl
  ·exact Yp f ks xs k
def Yo {α:Type}:∀ {ks:List Key} {xs:List α} {k:Key} {x:α},zw ks xs k=some x->x ∈ xs
 | [],_,_,_,h=>by simp [zw] at h
 | _ :: _,[],_,_,h=>by simp [zw] at h
 | k' :: ks,y :: xs,k,x,h=>by
  rw [zw] at h
  split at h
  ·cases h; exact List.mem_cons_self ..
  ·exact List.mem_cons_of_mem _ (Yo h)
def L7 {t:Nat} (ht:t < 7) {ns:List Int} (hl:ns.length=7) (hp:∀ n ∈ ns,0 <= n):∃ pr,Tab (.dk ((rot t).map Sum.inr) (ns.map D.int)) pr:=by
 obtain ⟨h1,h2,h3⟩:=Ye t ht
 refine ⟨λw=>(zw ((rot t).map Sum.inr) ns (Sum.inr w)).getD 0,rot t,ns,rfl,h3,λw hw=>?_⟩
 have hm:(Sum.inr w:Key) ∈ (rot t).map Sum.inr:=List.mem_map.mpr ⟨w,h2 w hw,rfl⟩
 have hn:zw ((rot t).map Sum.inr) ns (Sum.inr w) ≠ none:=λz=>(xx (by rw [zLm,h3,hl])).mp z hm
 obtain ⟨x,ex⟩:=Option.ne_none_iff_exists'.mp hn
 refine ⟨?_,hm,?_⟩
 ·show _=some (D.int ((zw ((rot t).map Sum.inr) ns (Sum.inr w)).getD 0))
  rw [Yp,ex]
  rfl
 ·show 0 <= (zw ((rot t).map Sum.inr) ns (Sum.inr w)).getD 0
  rw [ex]
  exact hp x (Yo ex)
def Sg (k t:Nat):atI yb (((k:Int) + (t:Int)).fmod 7)=some (yb.getD ((k + t) % 7) ""):=by
 have e:((k:Int) + (t:Int)).fmod 7=(((k + t) % 7:Nat):Int):=by
  rw [Int.fmod_eq_emod_of_nonneg _ (by decide)]
  omega
 rw [e]
 have hl:(k + t) % 7 < yb.length:=Nat.mod_lt _ (by decide)
 refine ua (by omega) ?_
 rw [Int.toNat_natCast]
 simp [List.getD,hl]
def Yd {t i:Nat} (hi:i < 7):(rot t).take (i + 1)=(rot t).take i ++ [yb.getD ((i + t) % 7) ""]:=by
 rw [List.take_succ]
 congr 1
 unfold rot
 rw [List.getElem?_map,List.getElem?_range hi]
 rfl
def Oy {t i:Nat} (ht:t < 7) (hi:i < 7):(Sum.inr (yb.getD ((i + t) % 7) ""):Key) ∉ ((rot t).take i).map Sum.inr:=by
 obtain ⟨h1,_,h3⟩:=Ye t ht
 have h4:((rot t).take (i + 1)).Nodup:=h1.sublist (List.take_sublist _ _)
 rw [Yd hi,List.nodup_append] at h4
 intro z
 obtain ⟨w,hw,e⟩:=List.mem_map.mp z
 have:w=yb.getD ((i + t) % 7) "":=by simpa using e
 exact h4.2.2 w hw _ (by simp) this
def ck (T:Tops mg) (Gy:FD P w K mg base 1 "_law_cell_at" ["_law_script", "_law_k"] vk) (Fd:FD P w K mg base 1 "_law_kinds" [] qz) (F:Fun K "_law_table" "_law_table" (top 33) f fd) (m:mg "_law_table" = some (.ref f)):FD P w K mg base 2 "_law_table" ["_law_script"] P9:=by
 have S:zj ["_law_script", "_law_table_here", "_law_words", "_law_turn", "_law_k", "_law_word"] ["_law_script"] (zb (top 33)):=⟨rfl,rfl,rfl,by decide +kernel,rfl,by decide +kernel,by decide +kernel⟩
 refine xp F S (F.binds λ_ _ _ _ _ _ us hl=>(by obtain ⟨_,rfl⟩:=jn hl; rfl)) m λqZ A outer s H E ds φ hr hl hT=>?_
 have hu:=hr.units
 refine ⟨_,(ze (zn 1 S.nd Qt)
   (ze (zn 2 S.nd (yp (h9 Fd (hr.mono (by decide))) (yt (za yk zd))))
   (ze (zn 3 S.nd (zr (zk Gy (hr.mono (by decide)) (za (z9 0) (za zc zd))) zc))
   (ze (wn (xo T.range (za zc zd)) (zu (i:=4) S.nd rfl (by walk_at "o")) (yi 4) (ze (zn 5 S.nd (y0 hu (z9 2) (zr (yp (z9 4) (z9 3)) zc)))
    (zh (Oo 1 hu (z9 5) (zr (zk Gy (hr.mono (by decide)) (za (z9 0) (za (zr (yp (z9 4) (z9 3)) zc) zd))) (y0 hu (yt (za (j3 zc zc) (za (j3 zc zc) (za zc zd)))) (zr (xq (zk Gy (hr.mono (by decide)) (za (z9 0) (za zc zd))) zc) zc)))))))
   (zh (zx (z9 1))))))),?_⟩
 obtain ⟨d,rfl,ns0,rfl,h⟩:=Wg hT
 walk_at "dl"
 simp only [qz,vk]
 refine ⟨trivial,by rw [sizeLine_eq]; decide,by decide,?_⟩
 intro c hc0 hc1
 have mt:=yn c 7 (by decide)
 obtain ⟨t,et⟩:∃ t:Nat,c.fmod 7=t:=⟨(c.fmod 7).toNat,by omega⟩
 have ht:t < 7:=by omega
 rw [et,show List.map D.str yw ++ [D.str (Str.ofString "hold")]=yb.map D.str from rfl]
 refine ⟨by decide,?_⟩
 refine xg (rngD 0 7) (λψ hψ=>?_) (λi ρ=>∃ ns a4 a5,ns.length=i /\ (∀ n ∈ ns,(0:Int) <= n) /\ ρ=[some (dv (.scr ns0)),some (dO (.dk (((rot t).take i).map Sum.inr) (ns.map D.int))),some (dO (.lst (yb.map D.str))),some (dv (.int t)),a4,a5])
  ⟨[],none,none,rfl,(λ_ z=>nomatch z),rfl⟩ ?_ ?_
 ·walk_at "dl"
  exact ⟨by decide,by decide,hψ⟩
 ·rintro i d ρ hd ⟨ns,a4,a5,hl,hp,rfl⟩
  obtain ⟨hi,rfl⟩:=ud hd
  have e1:=Sg i t
  have e2:=Oy ht hi
  have e3:(((rot t).take i).map (Sum.inr:Str->Key)).length=(ns.map D.int).length:=by
   have:=(Ye t ht).2.2
   simp [hl,this]
   omega
  have e4:=yn ((i:Int) + t) 7 (by decide)
  walk_at "dl"
  simp only [e1]
  walk_at "dl"
  refine ⟨e4.1,λc1 h1 h2=>⟨by decide,λc2 h3 h4=>?_⟩⟩
  obtain ⟨r,hr,er⟩:=G5 (D.int (10 ^ 30)) (D.int (10 ^ 30)) (D.int 7) (c2.fdiv 7)
  dsimp only
  refine ⟨of_eq_true (yr (by decide) (by decide)),?_⟩
  rw [er]
  obtain ⟨m,rfl,hm⟩:∃ m:Int,r=.int m /\ 0 < m:=by
   rcases hr with rfl | rfl | rfl
   ·exact ⟨_,rfl,by decide⟩
   ·exact ⟨_,rfl,by decide⟩
   ·exact ⟨_,rfl,by decide⟩
  dsimp only
  rw [show kput (((rot t).take i).map Sum.inr) (Sum.inr (yb.getD ((i + t) % 7) ""))=((rot t).take (i + 1)).map Sum.inr by
   unfold kput
   rw [if_neg e2,Yd hi,zMa]
   rfl,tq e3 e2]
  rw [show ns.map D.int ++ [D.int (c1.fmod m)]=(ns ++ [c1.fmod m]).map D.int by simp]
  refine ⟨by omega,by omega,ns ++ [c1.fmod m],_,_,by simp [hl],λn hn=>?_,rfl⟩
  rcases List.mem_append.mp hn with hn | hn
  ·exact hp n hn
  ·simp at hn
   subst hn
   exact (yn c1 m hm).1
 ·rintro ρ ⟨ns,a4,a5,hl,hp,rfl⟩
  rw [sk] at hl ⊢
  obtain ⟨pr,tab⟩:=L7 ht hl hp
  rw [List.take_of_length_le (by rw [(Ye t ht).2.2]; exact Nat.le_refl _)]
  walk_at "dl"
  exact ⟨xh _,h _ pr tab⟩
def S8:("abcdefghijklmnopqrstuvwxyz" : Str).cps.toList.length=26:=by decide +kernel
def Hn (x:Int):atI ("abcdefghijklmnopqrstuvwxyz" : Str).cps.toList (x.fmod 26) ≠ none:=by
 have m:=yn x 26 (by decide)
 have h:(x.fmod 26).toNat < ("abcdefghijklmnopqrstuvwxyz" : Str).cps.toList.length:=by rw [S8]; omega
 rw [ua m.1 (by rw [List.getElem?_eq_getElem h])]
 simp
def U6 (c:Nat):(⟨#[c]⟩:Str).length=1:=rfl
def Zq (T:Tops mg) (F:Fun K "_law_name" "_law_name" (top 31) f fd) (m:mg "_law_name" = some (.ref f)):FD P w K mg base 1 "_law_name" ["_law_cell", "_law_k"] Od:=by
 have S:zj ["_law_cell", "_law_k", "_law_many", "_law_at", "_law_word", "_law_j", "_law_letter"] ["_law_cell", "_law_k"] (zb (top 31)):=⟨rfl,rfl,rfl,by decide +kernel,rfl,by decide +kernel,by decide +kernel⟩
 refine xp F S (F.binds λ_ _ _ _ _ _ us hl=>(by obtain ⟨_,_,rfl⟩:=rf hl; rfl)) m λqZ A outer s H E ds φ hr hl hT=>?_
 have hu:=hr.units
 refine ⟨_,(ze (zn 2 S.nd (yp zc (zr (z9 0) zc)))
   (ze (zn 3 S.nd (zr (xq (z9 0) zc) (z9 2)))
   (ze (zn 4 S.nd yk)
   (ze (wn (xo T.range (za (z9 2) zd)) (zu (i:=5) S.nd rfl (by walk_at "o")) (yi 5) (ze (zn 6 S.nd (zr (xq (z9 0) zc) zc))
    (ze (xf (wj hu (zr (xq (z9 0) zc) zc) zc) (zh (zn 6 S.nd (zr (yp (xq (xq (z9 0) zc) (yp (z9 5) zc)) (u7 (z9 5) (z9 5))) zc))) yh)
    (ze (xf (wj hu (z9 5) (z9 3)) (zh (zn 6 S.nd (zr (yp (z9 6) (u7 (z9 1) (y0 hu (yt (za zc (za zc (za zc (za zc (za zc (za zc zd))))))) (zr (xq (z9 0) zc) zc)))) zc))) yh)
    (zh (zn 4 S.nd (yp (z9 4) (y0 hu yk (z9 6)))))))))
   (ze (xf (EW.et (Td (wj hu (z9 4) yk) (cv (wj hu (z9 4) yk)))) (zh (zn 4 S.nd (yp (z9 4) yk))) yh)
   (zh (zx (z9 4)))))))),?_⟩
 obtain ⟨c,k,rfl,hk0,hk1,h⟩:=Hq hT
 have m1:=yn c 8 (by decide)
 walk_at "dl"
 refine ⟨of_eq_true (yr (by decide) (by decide)),by omega,?_⟩
 refine xg (rngD 0 (1 + c.fmod 8).toNat) (λψ hψ=>?_) (λi ρ=>∃ a2 a3 z a5 a6,z.length <= i /\ ρ=[some (dv (.int c)),some (dv (.int k)),a2,some (dv (.int a3)),some (dv (.str z)),a5,a6])
  ⟨_,_, "", none,none,Nat.le_refl _,rfl⟩ ?_ ?_
 ·walk_at "dl"
  exact ⟨by omega,by omega,hψ⟩
 ·rintro i d ρ hd ⟨a2,a3,z,a5,a6,hz,rfl⟩
  obtain ⟨hi,rfl⟩:=ud hd
  have hi8:i < 8:=by omega
  walk_at "dl"
  obtain ⟨r,hr,er⟩:=vf (l:=[D.int 1,D.int 3,D.int 5,D.int 7,D.int 9,D.int 11]) (by simp) (c.fdiv 3328)
  obtain ⟨v,rfl,hv0,hv1⟩:∃ v:Int,r=.int v /\ 0 <= v /\ v <= 11:=by
   simp only [List.mem_cons,List.not_mem_nil,or_false] at hr
   rcases hr with rfl | rfl | rfl | rfl | rfl | rfl
   ·exact ⟨_,rfl,by decide,by decide⟩
   ·exact ⟨_,rfl,by decide,by decide⟩
   ·exact ⟨_,rfl,by decide,by decide⟩
   ·exact ⟨_,rfl,by decide,by decide⟩
   ·exact ⟨_,rfl,by decide,by decide⟩
   ·exact ⟨_,rfl,by decide,by decide⟩
  have er':atI [D.int 1,D.int 3,D.int 5,D.int 7,D.int 9,D.int 11] ((c.fdiv 3328).fmod 6)=some (.int v):=er
  rw [er']
  dsimp only
  have hm:IntMulOk k v:=IntMulOk.of_right (qm (by omega))
  have hA:("abcdefghijklmnopqrstuvwxyz" : Str).length <= sizeLine:=by rw [vt,S8,sizeLine_eq]; decide
  have fin:∀ (x:Int) (G:Nat->Prop),(∀ ch,G ch)->(match atI ("abcdefghijklmnopqrstuvwxyz" : Str).cps.toList (x.fmod 26) with | some ch=>G ch | none=>False):=λx G hG=>by
   split
   ·exact hG _
   ·rename_i e
    exact absurd e (Hn x)
  have L1:∀ ch:Nat,z.length + (⟨#[ch]⟩:Str).length <= sizeLine:=λch=>by rw [U6,sizeLine_eq]; omega
  have L2:∀ ch:Nat,(z ++ (⟨#[ch]⟩:Str)).length <= i + 1:=λch=>by rw [Mr,U6]; omega
  refine ⟨of_eq_true (yr (by decide) (by decide)),of_eq_true (yr (by decide) (by decide)),λ_=>⟨of_eq_true (yr (by decide) (by decide)),fdOk (m:=64) (by omega) (qm (by omega)),IntMulOk.of_left (qm (by omega)),λ_=>⟨of_eq_true (yr (by decide) (by decide)),hm,hA,?_⟩,λ_=>⟨hA,?_⟩⟩,λ_=>⟨λ_=>⟨of_eq_true (yr (by decide) (by decide)),hm,hA,?_⟩,λ_=>⟨hA,?_⟩⟩⟩
  all_goals exact fin _ _ λch=>⟨L1 ch,_,_,_,_,_,L2 ch,rfl⟩
 ·rintro ρ ⟨a2,a3,z,a5,a6,hz,rfl⟩
  rw [sk] at hz
  walk_at "dl"
  have hx:z.length + ("x" : Str).length <= sizeLine:=by rw [show ("x" : Str).length=1 by decide +kernel,sizeLine_eq]; omega
  exact ⟨λ_=>⟨hx,h _⟩,λ_=>⟨λ_=>⟨hx,h _⟩,λ_=>h _⟩⟩
def SpD (d d':D):Prop:=(∃ m:Int,d'=.fd m /\ m < 0 /\ -m - 1 ≠ 7 /\ -m <= 1000) \/ ∃ (ks:List Str) (ds:List D) (z:Str) (b:D),d=.dk (ks.map Sum.inr) ds /\ z ∈ yb /\ uo b=true /\ pureD b /\ wy b=false /\ d'=.dk (ks.map Sum.inr) (dput (ks.map Sum.inr) ds (Sum.inr z) b)
def Vg (K:W.Frag):Sp:=λvs H Q _=>∃ a d pr c,vs=[.ref a,.int c] /\ Tab d pr /\ DL.Con K H [] d a /\ ∀ H' d',(∀ b u,H b=some u->b ≠ a->H' b=some u)->DL.Con K H' [] d' a->SpD d d'->Q .non H'
structure FSp (P:Program) (w:World) (K:W.Frag) (mg:Str->Option Value) (base:Heap) (k:Nat) (x:Str) (ps:List Str):Prop where
 ex:∃ f fd,FnOk P w K mg base CX0 k f fd ps (Vg K) /\ qo K fd ps [] /\ W.keepIn K (.ref f)=true /\ mg x=some (.ref f)
def wout (a:Addr) (H:Hp):Hp:=λb=>if b=a then none else H b
def Wt (a:Addr) (H:Hp):Same (wout a H) H:=λb u h=>by
 unfold wout at h
 split at h
 ·cases h
 ·exact h
def Ud:∀ {l m:List Str},l.Nodup->(∀ x ∈ l,x ∈ m)->l.length <= m.length
 | [],_,_,_=>Nat.zero_le _
 | x :: l,m,nd,h=>by
  have hx:=h x (List.mem_cons_self ..)
  obtain ⟨n1,n2⟩:=List.nodup_cons.mp nd
  have e:=Ud (l:=l) (m:=m.erase x) n2 λy hy=>(List.mem_erase_of_ne (λe:y=x=>n1 (e ▸ hy))).mpr (h y (List.mem_cons_of_mem _ hy))
  rw [List.length_erase_of_mem hx] at e
  have:=List.length_pos_of_mem hx
  rw [zLc]
  omega
def Gd {ks:List Str} (h:(ks.map (Sum.inr:Str->Key)).Nodup):ks.Nodup:=(List.pairwise_map.mp h).imp λh e=>h (by rw [e])
def Vc {ks:List Str} (nd:ks.Nodup) (h7:ks.length=7) (h:∀ w ∈ yb,w ∈ ks):∀ y ∈ ks,y ∈ yb:=λy hy=>Decidable.byContradiction λn=>by
 have:=Ud (l:=y :: yb) (m:=ks) (List.nodup_cons.mpr ⟨n,by decide +kernel⟩) λx hx=>by
  rcases List.mem_cons.mp hx with rfl | hx
  ·exact hy
  ·exact h x hx
 rw [zLc,h7] at this
 exact absurd this (by decide)
def Hl:Option EV->Prop
 | none=>True
 | some ⟨.val,.int _⟩=>True
 | some ⟨.val,.str _⟩=>True
 | _=>False
def Xo {K:W.Frag} {H₀ H H':Hp} {σ:St} {ρ:DE} {o:List (Nat × Addr)} (R:REnv K H₀ H σ ρ o) (ha:∀ r ∈ ρ,Hl r) (s:Same H₀ H'):REnv K H₀ H' σ ρ [] where
 same:=s
 fresh:=λ_ z=>absurd z (by simp)
 trk:=λ_ z=>absurd z (by simp)
 mtb:=λ_ z=>absurd z (by simp)
 nda:=List.nodup_nil
 len:=R.len
 slots:=λi r e=>by
  obtain ⟨v,ev,q⟩:=R.slots i r e
  have at':=ha _ (List.mem_of_getElem? e)
  refine ⟨v,ev,.inl ?_⟩
  obtain ⟨k,d⟩:=r
  cases k <;> cases d <;> first | (exact at'.elim) | skip
  all_goals
   rcases q with ⟨_,q⟩ | ⟨z,_⟩
   ·exact ⟨rfl,q⟩
   ·cases z
def W9 (T:Tops mg) (Fd:FD P w K mg base 1 "_law_kinds" [] qz) (F:Fun K "_law_spoiled" "_law_spoiled" (top 39) f fd) (m:mg "_law_spoiled" = some (.ref f)):FSp P w K mg base 3 "_law_spoiled" ["_law_table_here", "_law_cell"]:=by
 have S:zj ["_law_table_here", "_law_cell", "_law_word", "_law_far"] ["_law_table_here", "_law_cell"] (zb (top 39)):=⟨rfl,rfl,rfl,by decide +kernel,rfl,by decide +kernel,by decide +kernel⟩
 refine ⟨f,fd,F.ok S (λvs H Q E h=>?_) (λqZ A outer s H vs Q E hr h=>?_),F.binds λ_ _ _ _ _ _ us hl=>(by obtain ⟨_,_,rfl⟩:=rf hl; rfl),F.kp,m⟩
 ·obtain ⟨a,d,pr,c,rfl,_⟩:=h
  rfl
 ·obtain ⟨a,d,pr,c,rfl,ht,hc,kk⟩:=h
  have hu:=hr.units
  refine ⟨_,vp (Vw (i:=2) S.nd rfl (by walk_at "o") (ED.pe (Γ:=λ_=>True) (y0 hu (yp (h9 Fd (hr.mono (by decide))) (yt (za yk zd))) (zr (xq (z9 1) zc) zc)) ⟨wout a H,trivial⟩))
   (vp (Vw (i:=3) S.nd rfl (by walk_at "o") (ED.pe (Γ:=λ_=>True) (zr (xq (z9 1) zc) (j3 zc zc)) ⟨wout a H,trivial⟩))
   (vp (Rk (ET.pt (Γ:=λ_=>True) (wj hu (zr (z9 1) zc) zc) ⟨wout a H,trivial⟩) (sv (uf (Km PySem.F.plainAttrs_dict PySem.F.slot_dict_pop PySem.F.type_dict_pop Nm (wf (i:=0) rfl (by first | exact Or.inl rfl | exact Or.inr (Or.inl rfl) | exact Or.inr (Or.inr rfl)) (by decide) (by decide)) (xi (ED.pe (Γ:=λ_=>True) (z9 2) ⟨wout a H,trivial⟩) uq)))) sw)
   (vp (Rk (ET.pt (Γ:=λ_=>True) (wj hu (zr (z9 1) zc) zc) ⟨wout a H,trivial⟩) (sv (Pi (ED.pe (Γ:=λ_=>True) (z9 3) ⟨wout a H,trivial⟩) (Ka (wf (i:=0) rfl (by first | exact Or.inl rfl | exact Or.inr (Or.inl rfl) | exact Or.inr (Or.inr rfl)) (by decide) (by decide)) (ED.pe (Γ:=λ_=>True) (y0 hu (yt (za yk (za yk (za yk (za zc (za u6 (za (v4 (za yk zd)) zd))))))) (zr (xq (z9 1) zc) zc)) ⟨wout a H,trivial⟩) (PSet.or (Oi hu) Oj)))) sw)
   (sv (Rk (ET.pt (Γ:=λ_=>True) (wj hu (zr (z9 1) zc) zc) ⟨wout a H,trivial⟩) (sv (bz (Nat.lt_of_le_of_lt (Nat.add_le_add_left (by decide:1 <= 64) _) hu) (wf (i:=0) rfl (by first | exact Or.inl rfl | exact Or.inr (Or.inl rfl) | exact Or.inr (Or.inr rfl)) (by decide) (by decide)) (ED.pe (Γ:=λ_=>True) (z9 2) ⟨wout a H,trivial⟩) (ED.pe (Γ:=λ_=>True) (y0 hu (yt (za u6 (za Qu (za Qu (za yk (za (Yy zc) (za (Ti (Yy zc) (z9 3)) (za (v4 (za zc zd)) (za yk (za yk zd)))))))))) (zr (xq (z9 1) zc) zc)) ⟨wout a H,trivial⟩) rfl)) sw))))),?_⟩
  obtain ⟨ks,ns,rfl,hk7,hw⟩:=ht
  obtain ⟨xs,hx,hl0,nd,rx⟩:=hc
  have xl:(ks.map (Sum.inr:Str->Key)).length=xs.length:=by rw [hl0,rx.length]
  have x7:xs.length=7:=by rw [<- xl,zLm,hk7]
  have zl:((ks.map (Sum.inr:Str->Key)).zip xs).length=7:=by rw [List.length_zip,xl,Nat.min_self,x7]
  have sameW:∀ H':Hp,(∀ b u,H b=some u->b ≠ a->H' b=some u)->Same (wout a H) H':=λH' h b u e=>by
   unfold wout at e
   split at e
   ·cases e
   ·exact h b u e (by assumption)
  have R0:REnv K (wout a H) H (L2.start ["_law_table_here", "_law_cell", "_law_word", "_law_far"] [V.ref a,V.int c]) [none,some (dv (.int c)),none,none] []:=by
   refine ⟨Wt a H,(λ_ z=>absurd z (by simp)),(λ_ z=>absurd z (by simp)),(λ_ z=>absurd z (by simp)),List.nodup_nil,λi r' e=>?_,rfl⟩
   match i,e with
   | 0,e=>cases e
   | 1,e=>cases e; exact ⟨_,rfl,.inl ⟨rfl,rfl⟩⟩
   | 2,e=>cases e
   | 3,e=>cases e
   | n + 4,e=>cases e
  obtain ⟨rz,hrz,erz⟩:=vf (l:=yb.map D.str) (by decide) (c.fdiv 3)
  obtain ⟨z,hz,rfl⟩:=List.mem_map.mp hrz
  refine ⟨_,[],R0,λr=>r=dv (.str z),⟨rfl,rfl,?_⟩,λv r H1 s1 rv h1=>?_⟩
  ·refine ⟨rfl,rfl,by rw [sizeLine_eq]; decide,of_eq_true (yr (by decide) (by decide)),(show (7:Int) ≠ 0 by decide),?_⟩
   show match atI (yb.map D.str) ((c.fdiv 3).fmod 7) with | some d=>dv d=dv (.str z) | none=>False
   rw [show (7:Int)=((yb.map D.str).length:Int) from rfl,erz]
  subst h1
  obtain rfl:v=V.str z:=rv
  have R1:=(R0.to s1).setV 2 (d:=.str z) (v:=.str z) rfl
  refine ⟨_,[],R1,λr=>∃ q:Int,0 <= q /\ r=dv (.int q),?_,λv r H2 s2 rv h2=>?_⟩
  ·show d2 sMod (d2 sFd (ww 1) (dC (D.int 189))) (d2 sPow (dC (D.int 10)) (dC (D.int 30))) [none,some (dv (.int c)),some (dv (.str z)),none] _
   walk_at "dl"
   exact ⟨of_eq_true (yr (by decide) (by decide)),_,(yn _ _ (by decide)).1,rfl⟩
  obtain ⟨q,q0,rfl⟩:=h2
  obtain rfl:v=V.int q:=rv
  have R2:=(R1.to s2).setV 3 (d:=.int q) (v:=.int q) rfl
  have s12:=s1.trans s2
  have hx2:=s12 _ _ hx
  show (tSeq _ _) _ (((L2.start ["_law_table_here", "_law_cell", "_law_word", "_law_far"] [V.ref a,V.int c]).set 2 (some (V.str z))).set 3 (some (V.int q))) H2
  generalize hσ:(((L2.start ["_law_table_here", "_law_cell", "_law_word", "_law_far"] [V.ref a,V.int c]).set 2 (some (V.str z))).set 3 (some (V.int q)))=σ2 at *
  have hat:∀ r ∈ [none,some (dv (.int c)),some (dv (.str z)),some (dv (.int q))],Hl r:=by
   intro r hr
   simp only [List.mem_cons,List.not_mem_nil,or_false] at hr
   rcases hr with rfl | rfl | rfl | rfl <;> trivial
  have R2:REnv K (wout a H) H2 σ2 [none,some (dv (.int c)),some (dv (.str z)),some (dv (.int q))] []:=R2
  have RX:∀ H':Hp,(∀ b u,H b=some u->b ≠ a->H' b=some u)->REnv K (wout a H) H' σ2 [none,some (dv (.int c)),some (dv (.str z)),some (dv (.int q))] []:=λH' h=>Xo R2 hat (sameW H' h)
  have tst:∀ (H':Hp) (j:Int) (QQ:Bool->Hp->Prop),(∀ b u,H b=some u->b ≠ a->H' b=some u)->(∀ H'',Same H' H''->QQ (decide (c.fmod 3=j)) H'')->jm K (wout a H) (tBo (d2 sEq (d2 sMod (ww 1) (dC (D.int 3))) (dC (D.int j)))) σ2 H' QQ:=λH' j QQ h hq=>by
   refine ⟨_,[],RX H' h,λb=>b=decide (c.fmod 3=j),⟨(show (3:Int) ≠ 0 by decide),yv ▸ trivial,yv ▸ trivial,?_⟩,λb H'' s e=>e ▸ hq H'' s⟩
   show eqD (.int (c.fmod 3)) (.int j)=_
   rw [qd]
   by_cases e:c.fmod 3=j <;> simp [e]
  have m3:=yn c 3 (by decide)
  have hv0:σ2[0]?=some (some (V.ref a)):=by rw [<- hσ]; rfl
  have keep2:∀ b u,H b=some u->b ≠ a->H2 b=some u:=λb u e _=>s12 _ _ e
  have off:∀ {H3:Hp} {ho:HO},Same H2 H3->∀ b u,H b=some u->b ≠ a->upd H3 a ho b=some u:=λs3 b u e n=>by rw [zi n]; exact s3 _ _ (s12 _ _ e)
  have zin:(Sum.inr z:Key) ∈ ks.map Sum.inr:=(hw z hz).2.1
  have vlk:∀ k:Key,valV ((ks.map (Sum.inr:Str->Key)).zip xs) k=zw (ks.map Sum.inr) xs k:=λk=>vg _ _ k
  have vs:∃ v,valV ((ks.map (Sum.inr:Str->Key)).zip xs) (Sum.inr z)=some v:=by
   rw [vlk]
   have e:=rh (k:=(Sum.inr z:Key)) xl
   rw [decide_eq_true zin] at e
   exact Option.isSome_iff_exists.mp e
  have hx3:∀ {H3:Hp},Same H2 H3->H3 a=some (.dK ((ks.map (Sum.inr:Str->Key)).zip xs)):=λs3=>s3 _ _ hx2
  have finF:∀ (H':Hp) (m:Int),(∀ b u,H b=some u->b ≠ a->H' b=some u)->H' a=some (wx a m)->m < 0->-m - 1 ≠ 7->-m <= 1000->Q V.non H':=λH' m h1 h2 h3 h4 h5=>kk H' (.fd m) h1 h2 (.inl ⟨m,rfl,h3,h4,h5⟩)
  refine tst H2 0 _ keep2 λH3 s3=>?_
  by_cases e0:c.fmod 3=0
  ·rw [decide_eq_true e0]
   refine iteT ?_
   refine ⟨.ref a,hv0,.inr (.inr (.inl ⟨rfl,.inl ⟨_,hx3 s3⟩⟩)),_,[],RX H3 (λb u e n=>s3 _ _ (keep2 b u e n)),λr=>r=dv (.str z),rfl,λv r H4 s4 rv h4=>?_⟩
   subst h4
   obtain rfl:v=V.str z:=rv
   have s34:=s3.trans s4
   obtain ⟨v0,ev0⟩:=vs
   refine ⟨a,_,z,v0,rfl,rfl,hx3 s34,ev0,?_⟩
   have dl:(Wi ((ks.map (Sum.inr:Str->Key)).zip xs) (Sum.inr z)).length < 7:=by
    rw [<- zl]
    unfold Wi
    rw [List.length_filter_lt_length_iff_exists]
    obtain ⟨i,hi,ei⟩:=List.getElem_of_mem zin
    refine ⟨(Sum.inr z,xs[i]'(by omega)),?_,by simp⟩
    rw [<- ei,<- List.getElem_zip (h:=by rw [zl]; rw [zLm,hk7] at hi; exact hi)]
    exact List.getElem_mem _
   refine tst _ 1 _ (off s34) λH5 s5=>?_
   rw [decide_eq_false (by omega)]
   refine iteF ?_
   refine tst _ 2 _ (λb u e n=>s5 _ _ (off s34 b u e n)) λH6 s6=>?_
   rw [decide_eq_false (by omega)]
   refine iteF ?_
   exact finF H6 _ (λb u e n=>s6 _ _ (s5 _ _ (off s34 b u e n))) (s6 _ _ (s5 _ _ zg)) (by omega) (by omega) (by omega)
  rw [decide_eq_false e0]
  refine iteF ?_
  refine tst H3 1 _ (λb u e n=>s3 _ _ (keep2 b u e n)) λH4 s4=>?_
  have s34:=s3.trans s4
  by_cases e1:c.fmod 3=1
  ·rw [decide_eq_true e1]
   refine iteT ?_
   refine ⟨_,[],RX H4 (λb u e n=>s34 _ _ (keep2 b u e n)),λr=>r=dv (.int q),rfl,λv r H5 s5 rv h5=>?_⟩
   subst h5
   obtain rfl:v=V.int q:=rv
   have s35:=s34.trans s5
   obtain ⟨rk,hrk,erk⟩:=vf (l:=[D.str "calls", .str "", .str "Call", .int 7,.non,.tup [.str "call"]]) (by simp) (c.fdiv 21)
   refine ⟨.ref a,hv0,_,[],RX H5 (λb u e n=>s35 _ _ (keep2 b u e n)),λr=>r=dv rk,⟨rfl,rfl,rfl,rfl,of_eq_true (yr (by decide) (by decide)),(show (6:Int) ≠ 0 by decide),?_⟩,λv2 r2 H6 s6 rv2 h6=>?_⟩
   ·show match atI [D.str "calls", .str "", .str "Call", .int 7,.non,.tup [.str "call"]] ((c.fdiv 21).fmod 6) with | some d=>dv d=dv rk | none=>False
    have erk':atI [D.str "calls", .str "", .str "Call", .int 7,.non,.tup [.str "call"]] ((c.fdiv 21).fmod 6)=some rk:=erk
    rw [erk']
   subst h6
   have rv2:Rep K H6 [] rk v2:=rv2
   have s36:=s35.trans s6
   have nxt:(λH7=>(tIfS (jm K (wout a H) (tBo (d2 sEq (d2 sMod (ww 1) (dC (D.int 3))) (dC (D.int 2))))) (Lv (tVar 0) (v7 K (wout a H) (ww 2)) (v7 K (wout a H) (d2 sIxx (dLst (wk (dC D.non) (wk (dC (D.bl true)) (wk (dC (D.bl false)) (wk (dC (D.str "1")) (wk (d1 sNeg (dC (D.int 1))) (wk (d2 sSub (d1 sNeg (dC (D.int 1))) (ww 3)) (wk (dTup (wk (dC (D.int 1)) aNil)) (wk (dC (D.str "")) (wk (dC (D.str "call")) aNil)))))))))) (d2 sMod (d2 sFd (ww 1) (dC (D.int 21))) (dC (D.int 9)))))) La) { nx:=λx H'=>Q V.non H',rt:=Q } σ2 H7) (upd H6 a (wx a (-((((ks.map (Sum.inr:Str->Key)).zip xs).length + 1:Nat):Int) - 1))):=by
    refine tst _ 2 _ (off s36) λH7 s7=>?_
    rw [decide_eq_false (by omega)]
    refine iteF ?_
    refine finF H7 _ (λb u e n=>s7 _ _ (off s36 b u e n)) (s7 _ _ zg) ?_ ?_ ?_ <;> rw [zl] <;> decide
   have newk:∀ k:Key,(∀ y:Str,k=Sum.inr y->y ∉ yb)->valV ((ks.map (Sum.inr:Str->Key)).zip xs) k=none:=λk hk=>by
    rw [vlk,xx xl]
    intro hm
    obtain ⟨y,hy,ey⟩:=List.mem_map.mp hm
    exact hk y ey.symm (Vc (Gd nd) hk7 (λw hw'=>let ⟨y,hy,e⟩:=List.mem_map.mp (hw w hw').2.1; (Sum.inr.inj e) ▸ hy) y hy)
   simp only [List.mem_cons,List.not_mem_nil,or_false] at hrk
   have z1000:((ks.map (Sum.inr:Str->Key)).zip xs).length <= 1000:=by rw [zl]; decide
   have allS:∀ p ∈ (ks.map (Sum.inr:Str->Key)).zip xs,∃ x,p.1=Sum.inr x:=λp hp=>by
    obtain ⟨y,_,e⟩:=List.mem_map.mp (List.of_mem_zip hp).1
    exact ⟨y,e.symm⟩
   rcases hrk with rfl | rfl | rfl | rfl | rfl | rfl
   ·cases (show v2=_ from rv2)
    exact .inr ⟨a,_,Sum.inr "calls", rfl,hx3 s36,rfl,newk _ (λy e=>by cases e; decide +kernel),z1000,nxt⟩
   ·cases (show v2=_ from rv2)
    exact .inr ⟨a,_,Sum.inr "", rfl,hx3 s36,rfl,newk _ (λy e=>by cases e; decide +kernel),z1000,nxt⟩
   ·cases (show v2=_ from rv2)
    exact .inr ⟨a,_,Sum.inr "Call", rfl,hx3 s36,rfl,newk _ (λy e=>by cases e; decide +kernel),z1000,nxt⟩
   ·cases (show v2=_ from rv2)
    exact .inr ⟨a,_,Sum.inl 7,rfl,hx3 s36,rfl,newk _ (λy e=>by cases e),z1000,nxt⟩
   ·cases (show v2=_ from rv2)
    exact .inl ⟨a,_,rfl,hx3 s36,allS,z1000,.inl rfl,nxt⟩
   ·obtain ⟨b,ys,rfl,sq,y,r,rfl,ey,er⟩:=rv2
    cases (show y=_ from ey)
    cases (show r=_ from er)
    exact .inl ⟨a,_,rfl,hx3 s36,allS,z1000,.inr ⟨b,_,rfl,sq.2⟩,nxt⟩
  rw [decide_eq_false e1]
  refine iteF ?_
  refine tst H4 2 _ (λb u e n=>s34 _ _ (keep2 b u e n)) λH5 s5=>?_
  have s35:=s34.trans s5
  rw [decide_eq_true (show c.fmod 3=2 by omega)]
  refine iteT ?_
  obtain ⟨rk,hrk,erk⟩:=vf (l:=[D.non,.bl true,.bl false,.str "1", .int (-1),.int (-1 - q),.tup [.int 1],.str "", .str "call"]) (by simp) (c.fdiv 21)
  refine ⟨_,[],RX H5 (λb u e n=>s35 _ _ (keep2 b u e n)),λr=>r=dv rk,⟨rfl,rfl,rfl,rfl,of_eq_true (yr (by decide) (by decide)),(show (9:Int) ≠ 0 by decide),?_⟩,λv r H6 s6 rv h6=>?_⟩
  ·show match atI [D.non,.bl true,.bl false,.str "1", .int (-1),.int (-1 - q),.tup [.int 1],.str "", .str "call"] ((c.fdiv 21).fmod 9) with | some d=>dv d=dv rk | none=>False
   have erk':atI [D.non,.bl true,.bl false,.str "1", .int (-1),.int (-1 - q),.tup [.int 1],.str "", .str "call"] ((c.fdiv 21).fmod 9)=some rk:=erk
   rw [erk']
  subst h6
  have rv:Rep K H6 [] rk v:=rv
  have s36:=s35.trans s6
  have bad:uo rk=true /\ pureD rk /\ wy rk=false:=by
   simp only [List.mem_cons,List.not_mem_nil,or_false] at hrk
   rcases hrk with rfl | rfl | rfl | rfl | rfl | rfl | rfl | rfl | rfl <;> first | exact ⟨rfl,trivial,rfl⟩ | exact ⟨rfl,⟨trivial,trivial⟩,rfl⟩ | exact ⟨rfl,trivial,decide_eq_false (by omega)⟩
  refine ⟨.ref a,hv0,_,[],RX H6 (λb u e n=>s36 _ _ (keep2 b u e n)),λr=>r=dv (.str z),rfl,λv2 r2 H7 s7 rv2 h7=>?_⟩
  subst h7
  obtain rfl:v2=V.str z:=rv2
  have s37:=s36.trans s7
  refine ⟨a,_,rfl,DPut.k (k:=Sum.inr z) (hx3 s37) (by rw [zl,sizeLine_eq]; decide),?_⟩
  have kz:kput (ks.map (Sum.inr:Str->Key)) (Sum.inr z)=ks.map Sum.inr:=by unfold kput; rw [if_pos zin]
  have gr:∀ {HH:Hp} {ho:HO},Same HH H7->HH a=some (.dK ((ks.map (Sum.inr:Str->Key)).zip xs))->Grow [a] [] HH (upd H7 a ho):=λs h=>⟨λb u e n=>⟨by rw [zi (λe2=>n (by rw [e2]; simp))]; exact s _ _ e,by simp⟩,λb ys e=>by rw [zi (λe2=>by rw [e2,h] at e; cases e)]; exact s _ _ e,λb o u e=>by rw [zi (λe2=>by rw [e2,h] at e; cases e)]; exact s _ _ e⟩
  refine kk _ (.dk (ks.map Sum.inr) (dput (ks.map Sum.inr) (ns.map D.int) (Sum.inr z) rk)) (off s37) ⟨dput (ks.map Sum.inr) xs (Sum.inr z) v,?_,?_,nd,vo (Reps.grow (gr (s12.trans s37) hx) _ _ (Reps.pure _ _ (xh ns) rx)) (Rep.grow (gr s7 (hx3 s36)) _ _ (Rep.pure _ _ bad.2.1 rv))⟩ (.inr ⟨ks,_,z,rk,rfl,hz,bad.1,bad.2.1,bad.2.2,rfl⟩)
  ·rw [zg,jh nd xl,kz]
  ·have:=g6 (k:=(Sum.inr z:Key)) (v:=rk) hl0
   rw [kz] at this
   exact this
def rc {α:Type}:∀ {ks:List Key} {xs:List α} {k j:Key} {x y:α},zw ks xs k=some y->zw ks (dput ks xs k x) j=if j=k then some x else zw ks xs j
 | [],_,k,_,_,_,h=>by simp [zw] at h
 | k' :: ks,[],_,_,_,_,h=>by simp [zw] at h
 | k' :: ks,z :: xs,k,j,x,y,h=>by
  rw [dput]
  by_cases e:k'=k
  ·subst e
   rw [if_pos rfl,zw,zw]
   by_cases e2:k'=j
   ·subst e2; simp
   ·rw [if_neg e2,if_neg e2,if_neg (Ne.symm e2)]
  ·rw [zw,if_neg e] at h
   rw [if_neg e,zw,zw]
   by_cases e2:k'=j
   ·subst e2
    rw [if_pos rfl,if_pos rfl,if_neg e]
   ·rw [if_neg e2,if_neg e2]
    exact rc h
def X1 {α:Type}:∀ {ks:List Key} {xs:List α} {k:Key} {y x:α},x ∈ dput ks xs k y->x=y \/ x ∈ xs
 | [],xs,k,y,x,h=>.inl (by cases xs <;> exact List.mem_singleton.mp h)
 | _ :: _,[],k,y,x,h=>.inl (List.mem_singleton.mp h)
 | k' :: ks,d :: ds,k,y,x,h=>by
  unfold dput at h
  split at h
  ·rcases List.mem_cons.mp h with h | h
   ·exact .inl h
   ·exact .inr (List.mem_cons_of_mem _ h)
  ·rcases List.mem_cons.mp h with h | h
   ·exact .inr (by rw [h]; exact List.mem_cons_self ..)
   ·exact (X1 h).imp id (List.mem_cons_of_mem _)
def Ll {d d':D} {pr:Str->Int} (ht:Tab d pr) (h:SpD d d'):Spl d':=by
 rcases h with h | ⟨ks,ds,z,b,rfl,hz,pb,_,nb,rfl⟩
 ·exact .inl h
 ·obtain ⟨ks',ns,e,h7,hw⟩:=ht
  obtain ⟨ek,ed⟩:=DL.D.dk.inj e
  have ek:ks=ks':=(List.map_inj_right (λa b h=>Sum.inr.inj h)).mp ek
  subst ek ed
  refine .inr ⟨ks,_,rfl,h7,λw hm=>⟨(hw w hm).2.1,?_⟩,z,hz,b,?_,nb⟩
  ·rw [rc (hw z hz).1]
   split
   ·exact ⟨b,rfl,pb⟩
   ·exact ⟨_,(hw w hm).1,rfl⟩
  ·rw [rc (hw z hz).1,if_pos rfl]
def bfF (cl:List D) (ss:List (Nat × Str)) (pr:Str->Int):D->Option D
 | .int k=>some (ansD k.toNat cl ss pr).d
 | _=>none
def bfL (cl:List D) (ss:List (Nat × Str)) (pr:Str->Int):List D:=(List.range 6).map λw=>(ansD w cl ss pr).d
def Hk (cl:List D) (ss:List (Nat × Str)) (pr:Str->Int):(rngD 0 6).filterMap (bfF cl ss pr)=bfL cl ss pr:=rfl
def Gw {w:Nat} {cl:List D} {ss:List (Nat × Str)} {pr:Str->Int} (h:w <= 5):match (ansD w cl ss pr).k with | .own=>False | _=>True:=by
 rcases (show w=0 \/ w=1 \/ w=2 \/ w=3 \/ w=4 \/ w=5 by omega) with rfl | rfl | rfl | rfl | rfl | rfl <;> trivial
def Uc:∀ {l m:List Str},l.Nodup->(∀ x ∈ l,x ∈ m)->l.length=m.length->m.Nodup
 | [],m,_,_,h=>by
  have:m=[]:=List.length_eq_zero_iff.mp h.symm
  subst this
  exact List.nodup_nil
 | x :: l,m,nd,h,hl=>by
  have hx:=h x (List.mem_cons_self ..)
  obtain ⟨n1,n2⟩:=List.nodup_cons.mp nd
  have sub:∀ y ∈ l,y ∈ m.erase x:=λy hy=>(List.mem_erase_of_ne (λe:y=x=>n1 (e ▸ hy))).mpr (h y (List.mem_cons_of_mem _ hy))
  have le:=List.length_erase_of_mem hx
  have hp:=List.length_pos_of_mem hx
  rw [zLc] at hl
  have ih:=Uc n2 sub (by omega)
  refine (List.perm_cons_erase hx).nodup_iff.mpr (List.nodup_cons.mpr ⟨λz=>?_,ih⟩)
  have:=Ud (l:=x :: l) (m:=m.erase x) nd λy hy=>by
   rcases List.mem_cons.mp hy with rfl | hy
   ·exact z
   ·exact sub y hy
  rw [zLc] at this
  omega
def Kx (l:List Int) (n:Nat):okD (n + 1) (.lst (nsD l)):=by
 show ∀ x ∈ nsD l,okD n x
 intro x hx
 obtain ⟨y,_,rfl⟩:=List.mem_map.mp hx
 rw [yv]; trivial
def Kw (cl:List D) (pr:Str->Int) (ss:List (Nat × Str)) (n:Nat):okD (n + 3) (.lst (outW cl pr ss)):=by
 show ∀ x ∈ outW cl pr ss,okD (n + 2) x
 intro x hx
 obtain ⟨y,_,rfl⟩:=List.mem_map.mp hx
 show ∀ z ∈ [wyD y,.int _],okD (n + 1) z
 intro z hz
 simp only [List.mem_cons,List.not_mem_nil,or_false] at hz
 rcases hz with rfl | rfl
 ·show ∀ u ∈ y.map D.str,okD n u
  intro u hu
  obtain ⟨v,_,rfl⟩:=List.mem_map.mp hu
  rw [U7]; trivial
 ·rw [yv]; trivial
def Hm {w:Nat} {cl:List D} {ss:List (Nat × Str)} {pr:Str->Int} (h:w <= 5):okS (ansD w cl ss pr).d:=by
 rcases (show w=0 \/ w=1 \/ w=2 \/ w=3 \/ w=4 \/ w=5 by omega) with rfl | rfl | rfl | rfl | rfl | rfl
 ·exact .inl (yv ▸ trivial)
 ·exact .inl (Kx _ _)
 ·exact .inl (Kx _ _)
 ·exact .inl (Kw cl pr ss _)
 ·exact .inr ⟨yw,parts pr ss,rfl⟩
 ·exact .inl (yv ▸ trivial)
def Lp (i:Nat) (te:TD):TDS:=λρ Z=>∃ d pr,slot ρ i=some (dO d) /\ Tab d pr /\ te ρ λr=>∃ c,r.d=.int c /\ ∀ d',SpD d d'->Z.nx (setS ρ i (dO d'))
unseal SD ED in
def Sy {Γ:Hp->Prop} {X:Cx} {x y:Str} {ps:List Str} {k:Nat} {e:Expr} {te:TD} {p np pos spos:Pos} (i:Nat) (F:FSp X.prog X.w X.K X.mg X.base k x ps) (hr:Room k X.A) (he:ED Γ X e te) (hN:X.N[i]?=some y:=by rfl) (hv:Vis X.env.scope y:=by first | exact Or.inl rfl | exact Or.inr (Or.inl rfl) | exact Or.inr (Or.inr rfl)) (hd:(y == ("__debug__" : Str))=false:=by decide) (hcd:(y == ("__classdict__" : Str))=false:=by decide)
  (hg:Gl X x:=by rfl) (hdb:(x == ("__debug__" : Str))=false:=by decide) (hs:starEach [.Name y np,e] X.env=(false,eval (.Name y np) X.env) :: starEach [e] X.env:=by rfl) (hs2:starEach [e] X.env=(false,eval e X.env) :: starEach [] X.env:=by rfl) (hpl:(backTo pos (starEach [e] X.env)).any (·.1)=false:=by rfl)
  (hsw:swapsWith (.Call (.Name x p) [.Name y np,e] [] pos) none spos.line X.env=pure false:=by rfl):SD Γ X (.Expr (.Call (.Name x p) [.Name y np,e] [] pos) spos) (Lp i te):=λH₀=>by
 obtain ⟨f,fd,ok,b,kp,m⟩:=F.ex
 refine impS (uf (U2 ok hr hg m kp b .nil Ng (xi (wf hN hv hd hcd) (xi (he H₀) uq hs2) hs) hdb hs hpl) hsw) λD σ H h=>?_
 obtain ⟨ρ,o,R,Z,⟨d,pr,es,ht,hZ⟩,k1,k2,k3,k4⟩:=h
 obtain ⟨v0,ev0,q0⟩:=R.slots i _ (yc es)
 rcases q0 with ⟨kk,_⟩ | ⟨_,a,rfl,mo,c⟩
 ·cases kk
 refine ⟨.ref a,ev0,ρ,o,R,_,hZ,λv r H1 s1 rv h1=>?_⟩
 obtain ⟨cc,ec,h1⟩:=h1
 obtain ⟨kd,dd⟩:=r
 cases ec
 cases (show v=V.int cc from rv.view)
 show Vg X.K [V.ref a,V.int cc] H1 (λx H1=>D.nx σ H1) E0
 have c1:=c.same s1
 refine ⟨a,d,pr,cc,rfl,ht,c1.sub (λ_ z=>by cases z),λH' d' keep con sp=>?_⟩
 obtain ⟨⟨ho,eho⟩,nt,nf⟩:=con.mtb
 obtain ⟨⟨ho1,eho1⟩,nt1,nf1⟩:=c1.mtb
 have e1:H'=upd (λb=>if b=a then H1 a else H' b) a ho:=by
  funext b
  by_cases hb:b=a
  ·subst hb; rw [zg,eho]
  ·rw [zi hb,if_neg hb]
 have sm:Same H1 (λb=>if b=a then H1 a else H' b):=λb u q=>by
  show (if b=a then H1 a else H' b)=some u
  by_cases hb:b=a
  ·subst hb; rw [if_pos rfl]; exact q
  ·rw [if_neg hb]; exact keep b u q hb
 have cO:DL.Con X.K H' (o.map Prod.snd) d' a:=by
  rcases sp with ⟨mm,rfl,_⟩ | ⟨ks,ds,z,bb,rfl,hz,pb,pp,nb,rfl⟩
  ·exact con
  ·obtain ⟨xs,q1,q2,q3,q4⟩:=con
   refine ⟨xs,q1,q2,q3,Reps.pure _ _ (yf.mpr λx hx=>?_) q4⟩
   rcases X1 hx with rfl | hx
   ·exact pp
   ·obtain ⟨ks',ns,e,_⟩:=ht
    obtain ⟨_,ed⟩:=DL.D.dk.inj e
    rw [ed] at hx
    obtain ⟨n,_,rfl⟩:=List.mem_map.mp hx
    trivial
 rw [e1] at cO ⊢
 obtain ⟨R3,g3⟩:=(R.to (s1.trans sm)).chg (d':=d') (ho:=ho) (yc es) ev0 mo ⟨λxs z=>nt xs (by rw [eho,z]),λob u z=>nf ob u (by rw [eho,z])⟩ λ_=>cO
 exact k1 _ σ _ o ((Grow.same (s1.trans sm)).trans g3) R3 (h1 d' sp)
def Ky (T:Tops mg) (Fu:FSp P w K mg base 3 "_law_spoiled" ["_law_table_here", "_law_cell"]) (Gy:FD P w K mg base 1 "_law_cell_at" ["_law_script", "_law_k"] vk) (E3:FD P w K mg base 2 "_law_table" ["_law_script"] P9) (Ef:FD P w K mg base 3 "_law_run" ["_law_script"] tRun) (Fo:FD P w K mg base 6 "_law_asked" ["_law_way", "_law_calls", "_law_steps", "_law_table_here"] tAsk) (Fk:FD P w K mg base 7 "_law_refused" ["_law_way", "_law_calls", "_law_steps", "_law_table_here"] L9) (F:Fun K "law" "law" (top 40) f fd):FnOk P w K mg base CX0 9 f fd ["_law_script"] (spD K 1 lawT):=by
 have S:zj ["_law_script", "_law_table_here", "_law_calls", "_law_steps", "_law_cell", "_law_handed", "_law_before", "_law_turn", "_law_k", "_law_way"] ["_law_script"] (zb (top 40)):=⟨rfl,rfl,rfl,by decide +kernel,rfl,by decide +kernel,by decide +kernel⟩
 refine Pv F S λqZ A outer s H E ds φ hr hl hT=>?_
 have hu:=hr.units
 refine ⟨_,(ze (yo (zn 1 S.nd (zk E3 (hr.mono (by decide)) (za (z9 0) zd))))
   (ze (yo (Hy (zk Ef (hr.mono (by decide)) (za (z9 0) zd)) (sy (K0:=K) (n:=2) (by rfl) (by rfl) (yy (zu (i:=2) S.nd rfl (by walk_at "o")) (yy (zu (i:=3) S.nd rfl (by walk_at "o")) sx))) (rm 2 3)))
   (ze (yo (zn 4 S.nd (yp (zk Gy (hr.mono (by decide)) (za (z9 0) (za zc zd))) (zk Gy (hr.mono (by decide)) (za (z9 0) (za zc zd))))))
   (ze (yo (zn 5 S.nd (Qs T.dict (za (z9 1) zd))))
   (ze (yo (kh (T:=["_law_way"]) (F:=["_law_calls", "_law_steps", "_law_handed"]) (js:=[2,3,5]) 6 S.nd (xo T.range (za zc zd)) (show zt (zb (top 40)) _ ["_law_way"] ["_law_calls", "_law_steps", "_law_handed"] from ⟨rfl,by decide +kernel,by decide +kernel,by decide +kernel,by decide +kernel,by decide +kernel⟩) (.cons rfl (.cons rfl (.cons rfl .nil))) (by decide) (λcl C fp s H=>(zu (i:=0) (show ((["_law_way"]:List Str) ++ (["_law_calls", "_law_steps", "_law_handed"]:List Str)).Nodup by decide +kernel) rfl (by walk_at "o"))) (xn (by decide)) (yi 0) (λcl C fp s H=>xu) (λcl C fp s H=>(zk Fo (hr.mono (by decide)) (za (z9 0) (za (z9 1) (za (z9 2) (za (z9 3) zd))))))))
   (ze (yo (Sy 5 Fu (hr.mono (by decide)) (z9 4)))
   (ze (yo (zn 7 S.nd (zr (xq (z9 4) zc) zc)))
   (ze (yo (wn (xo T.range (za zc zd)) (zu (i:=8) S.nd rfl (by walk_at "o")) (yi 8) (ze (zn 9 S.nd (zr (yp (z9 8) (z9 7)) zc))
    (zh (xf (EW.et (Td (j0 (qb (zk Fk (hr.mono (by decide)) (za (z9 9) (za (z9 2) (za (z9 3) (za (z9 5) zd))))))) (cv (j0 (qb (zk Fk (hr.mono (by decide)) (za (z9 9) (za (yt zd) (za (yt zd) (za (z9 5) zd)))))))))) (zh (zx Qu)) yh)))))
   (ze (yo (Oq 5))
   (ze (yo (Lo 1 (On 5 (z9 1))))
   (zh (zx (Hb hu (wq (T:=["_law_way"]) (F:=["_law_calls", "_law_steps", "_law_handed"]) (js:=[2,3,5]) (xo T.range (za zc zd)) (show zt (zb (top 40)) _ ["_law_way"] ["_law_calls", "_law_steps", "_law_handed"] from ⟨rfl,by decide +kernel,by decide +kernel,by decide +kernel,by decide +kernel,by decide +kernel⟩) (.cons rfl (.cons rfl (.cons rfl .nil))) (by decide) (λcl C fp s H=>(zu (i:=0) (show ((["_law_way"]:List Str) ++ (["_law_calls", "_law_steps", "_law_handed"]:List Str)).Nodup by decide +kernel) rfl (by walk_at "o"))) (xn (by decide)) (yi 0) (λcl C fp s H=>xu) (λcl C fp s H=>(zk Fo (hr.mono (by decide)) (za (z9 0) (za (z9 1) (za (z9 2) (za (z9 3) zd))))))) (z9 6)))))))))))))),?_⟩
 obtain ⟨ns,rfl,hn,h⟩:=hT
 refine ya (λρ=>∃ d pr,Tab d pr /\ ρ=[some (dv (.scr ns)),some (dO d),none,none,none,none,none,none,none,none]) ?_ ?_
 ·exact ⟨rfl,ns,rfl,λe pr he=>⟨trivial,e,pr,he,rfl⟩⟩
 rintro _ ⟨d,pr,hd,rfl⟩
 refine ya (λρ=>∃ cl ss,Calls cl /\ Sts ss cl.length /\ ρ=[some (dv (.scr ns)),some (dO d),some (dv (.lst cl)),some (dv (.lst (stsD ss))),none,none,none,none,none,none]) ?_ ?_
 ·exact ⟨rfl,ns,rfl,hn,λcl ss hc hs=>⟨trivial,cl,ss,hc,hs,rfl⟩⟩
 rintro _ ⟨cl,ss,hC,hS,rfl⟩
 refine ya (λρ=>∃ c:Int,ρ=[some (dv (.scr ns)),some (dO d),some (dv (.lst cl)),some (dv (.lst (stsD ss))),some (dv (.int c)),none,none,none,none,none]) ?_ ?_
 ·exact ⟨rfl,by decide,λc1 _ _=>⟨rfl,by decide,λc2 _ _=>⟨trivial,_,rfl⟩⟩⟩
 rintro _ ⟨c,rfl⟩
 refine ya (λρ=>ρ=[some (dv (.scr ns)),some (dO d),some (dv (.lst cl)),some (dv (.lst (stsD ss))),some (dv (.int c)),some (dO d),none,none,none,none]) ?_ ?_
 ·obtain ⟨ks,vs,rfl,_⟩:=hd
  exact ⟨trivial,rfl⟩
 rintro _ rfl
 have ask:∀ (ρ:DE) (φ:EV->Prop),slot ρ 2=some (dv (.lst cl))->slot ρ 3=some (dv (.lst (stsD ss)))->slot ρ 5=some (dO d)->φ (df (.lst (bfL cl ss pr)))->Tu (iR1 (wk (dC (D.int 6)) aNil)) [Str.ofString "_law_way"].length [2,3,5] (gN 0) bYes (Wj [Str.ofString "_law_way", Str.ofString "_law_calls", Str.ofString "_law_steps", Str.ofString "_law_table_here"].length tAsk (wk (ww 0) (wk (ww 1) (wk (ww 2) (wk (ww 3) aNil))))) ρ φ:=λρ φ e2 e3 e5 hφ=>by
  refine xc (rngD 0 6) (λψ hψ=>⟨by decide,by decide,hψ⟩) (bfF cl ss pr) (by decide) (λx hx=>?_) ?_
  ·obtain ⟨i,hi⟩:=List.getElem?_of_mem hx
   obtain ⟨hi',rfl⟩:=ud hi
   refine Qj ⟨λ_=>?_,λz=>(by cases z)⟩
   show Wj 4 tAsk _ [some (dv (.int (0 + (i:Int)))),slot ρ 2,slot ρ 3,slot ρ 5] _
   rw [e2,e3,e5,Int.zero_add]
   exact ⟨rfl,i,cl,ss,d,pr,rfl,by omega,hC,hS,hd,Gw (by omega),rfl⟩
  ·rw [Hk]
   exact hφ
 refine ya (λρ=>ρ=[some (dv (.scr ns)),some (dO d),some (dv (.lst cl)),some (dv (.lst (stsD ss))),some (dv (.int c)),some (dO d),some (dO (.lst (bfL cl ss pr))),none,none,none]) ?_ ?_
 ·exact Ou (ask _ _ rfl rfl rfl ⟨trivial,rfl⟩)
 rintro _ rfl
 refine ya (λρ=>∃ d',SpD d d' /\ ρ=[some (dv (.scr ns)),some (dO d),some (dv (.lst cl)),some (dv (.lst (stsD ss))),some (dv (.int c)),some (dO d'),some (dO (.lst (bfL cl ss pr))),none,none,none]) ?_ ?_
 ·exact ⟨d,pr,rfl,hd,c,rfl,λd' sp=>⟨d',sp,rfl⟩⟩
 rintro _ ⟨d',sp,rfl⟩
 have spl:=Ll hd sp
 have tb:=yn (c.fdiv 7) 6 (by decide)
 obtain ⟨t,et⟩:∃ t:Nat,(c.fdiv 7).fmod 6=(t:Int):=⟨((c.fdiv 7).fmod 6).toNat,by omega⟩
 refine ya (λρ=>ρ=[some (dv (.scr ns)),some (dO d),some (dv (.lst cl)),some (dv (.lst (stsD ss))),some (dv (.int c)),some (dO d'),some (dO (.lst (bfL cl ss pr))),some (dv (.int (t:Nat))),none,none]) ?_ ?_
 ·refine ⟨of_eq_true (yr (by decide) (by decide)),(show (6:Int) ≠ 0 by decide),trivial,?_⟩
  show setS _ 7 (dv (.int ((c.fdiv 7).fmod 6)))=_
  rw [et]
  rfl
 rintro _ rfl
 refine ya (λρ=>∃ a8 a9,ρ=[some (dv (.scr ns)),some (dO d),some (dv (.lst cl)),some (dv (.lst (stsD ss))),some (dv (.int c)),some (dO d'),some (dO (.lst (bfL cl ss pr))),some (dv (.int (t:Nat))),a8,a9]) ?_ ?_
 ·refine xg (rngD 0 6) (λψ hψ=>⟨by decide,by decide,hψ⟩) (λi ρ=>∃ a8 a9,ρ=[some (dv (.scr ns)),some (dO d),some (dv (.lst cl)),some (dv (.lst (stsD ss))),some (dv (.int c)),some (dO d'),some (dO (.lst (bfL cl ss pr))),some (dv (.int (t:Nat))),a8,a9]) ⟨none,none,rfl⟩ ?_ (λ_ q=>q)
  rintro i x _ hx ⟨a8,a9,rfl⟩
  obtain ⟨hi,rfl⟩:=ud hx
  have wb:=yn ((0:Int) + (i:Int) + (t:Int)) 6 (by decide)
  obtain ⟨w,ew⟩:∃ w:Nat,((0:Int) + (i:Int) + (t:Int)).fmod 6=(w:Int):=⟨(((0:Int) + (i:Int) + (t:Int)).fmod 6).toNat,by omega⟩
  refine Qj (zy ⟨(show (6:Int) ≠ 0 by decide),trivial,?_⟩)
  dsimp only
  refine Vl false (λψ hψ=>O5 (λψ hψ=>gh ?_) (λψ hψ=>gh ?_) hψ) (λz=>(by cases z)) (λ_=>Vk ⟨_,_,rfl⟩)
  ·exact ⟨rfl,w,cl,_,d',by rw [<- ew]; rfl,by omega,hC,spl,hψ⟩
  ·exact ⟨rfl,rfl,rfl,rfl,rfl,w,[],_,d',by rw [<- ew]; rfl,by omega,Calls.nil,spl,hψ⟩
 rintro _ ⟨a8,a9,rfl⟩
 refine ya (λρ=>ρ=[some (dv (.scr ns)),some (dO d),some (dv (.lst cl)),some (dv (.lst (stsD ss))),some (dv (.int c)),some (dO (.dk [] [])),some (dO (.lst (bfL cl ss pr))),some (dv (.int (t:Nat))),a8,a9]) ?_ ?_
 ·rcases sp with ⟨m,rfl,m0,_,m1⟩ | ⟨ks,ds,z,b,_,_,_,_,_,rfl⟩
  ·exact ⟨m0,m1,rfl⟩
  ·exact rfl
 rintro _ rfl
 refine ya (λρ=>ρ=[some (dv (.scr ns)),some (dv d),some (dv (.lst cl)),some (dv (.lst (stsD ss))),some (dv (.int c)),some (dO d),some (dO (.lst (bfL cl ss pr))),some (dv (.int (t:Nat))),a8,a9]) ?_ ?_
 ·obtain ⟨ks,vs,rfl,h7,hw⟩:=hd
  refine ⟨trivial,?_,?_,rfl⟩
  ·show 0 + (ks.map (Sum.inr:Str->Key)).length <= 100000
   rw [zLm,h7]
   decide
  ·show (ks.map (Sum.inr:Str->Key)).Nodup
   have n1:=Uc (l:=yb) (m:=ks) (by decide +kernel) (λw hm=>let ⟨y,hy,e⟩:=List.mem_map.mp (hw w hm).2.1; (Sum.inr.inj e) ▸ hy) (by rw [h7]; rfl)
   exact List.pairwise_map.mpr (n1.imp λh e=>h (Sum.inr.inj e))
 rintro _ rfl
 refine Ov (Hi (df (.lst (bfL cl ss pr))) (dO (.lst (bfL cl ss pr))) (λψ hψ=>ask _ _ rfl rfl rfl hψ) (λψ hψ=>hψ) ⟨rfl,.inl ⟨_,rfl,λe he=>?_⟩,trivial,h⟩)
 obtain ⟨w,hw,rfl⟩:=List.mem_map.mp he
 exact Hm (by have:=List.mem_range.mp hw; omega)
end
section
open PySem.W PySem.PyData
def hl1:LeftO PySem.Challenge.pw_toll_k21_no_table zq [] zX (Hook.obs (kHook zK zA zAK)) (Hook.val (kHook zK zA zAK)) 6368:=by
 intro w; rw [Fast.te4187177175401517315,Fast.te5923862056798008813,Fast.te14364793385576792824]; exact hl0 w
def said:PySem.Challenge.rw_toll_k21_no_table.wellSaid=true:=by kernel_rfl
def zD:DefRec:=match top 40 with | .FunctionDef n a b _ _ _ c _ _ p=>⟨n,a,b,c,p⟩ | _=>⟨"", ⟨[],[],none,[],[],none,[]⟩,[],⟨.function,[],false,false,[]⟩,⟨0,0,0,0⟩⟩
def opened (hc:WalkO zq [] (XL zq []) (Hook.says (kHook zK zA zAK)) PySem.Challenge.rw_toll_k21_no_table.row.toRowW zD [] (λf vs=>PySem.call f vs)):PySem.Challenge.rw_toll_k21_no_table.Holds:=by
 refine holds_law said λsd=>holds_open (q:=zq) (loose:=[]) (Xt:=zX) (XP:=XL zq []) (d:=zD) (kwd:=[]) (Yf:=Hook.obs (kHook zK zA zAK)) (Ya:=Hook.val (kHook zK zA zAK)) (YP:=Hook.says (kHook zK zA zAK)) (N:=6368) hl1 (Hook.of (kHook zK zA zAK)) (Hook.keeps (kHook zK zA zAK)) (λs e=>xl_of s (Bool.and_eq_true_iff.mp e).1) XL.keeps (by kernel_rfl) (by kernel_rfl) (by kernel_rfl) (λs e=>recFacts_of (Bool.and_eq_true_iff.mp e).2) (by kernel_rfl) sd (by kernel_rfl) ⟨rfl,rfl,rfl,rfl,rfl,by decide +kernel⟩ ?hw hc
 case hw=>w_witness2
end
section
variable {P:Program} {w:World} {K:W.Frag} {mg:Str->Option Value} {base:Heap} {f:Addr} {fd:FuncData}
def all_mk {l:W.OpenLaw} {w:World} {K:W.Frag} {h:Heap} {mg:Str->Option Value} {fa:Addr} (X:K.In h) (G:h.Ns mainGlobals mg) (hfa:mg "law" = some (.ref fa)) {f1:Addr} {od1 an1:Option Addr} {sl1:Array (Option Value)} {oc1 kV1 dc1 pm1 cd1 ct1:Value} {f2:Addr} {od2 an2:Option Addr} {sl2:Array (Option Value)} {oc2 kV2 dc2 pm2 cd2 ct2:Value} {f3:Addr} {od3 an3:Option Addr} {sl3:Array (Option Value)} {oc3 kV3 dc3 pm3 cd3 ct3:Value} {f4:Addr} {od4 an4:Option Addr} {sl4:Array (Option Value)} {oc4 kV4 dc4 pm4 cd4 ct4:Value} {f5:Addr} {od5 an5:Option Addr} {sl5:Array (Option Value)} {oc5 kV5 dc5 pm5 cd5 ct5:Value} {f6:Addr} {od6 an6:Option Addr} {sl6:Array (Option Value)} {oc6 kV6 dc6 pm6 cd6 ct6:Value} {f7:Addr} {od7 an7:Option Addr} {sl7:Array (Option Value)} {oc7 kV7 dc7 pm7 cd7 ct7:Value} {f8:Addr} {od8 an8:Option Addr} {sl8:Array (Option Value)} {oc8 kV8 dc8 pm8 cd8 ct8:Value} {f9:Addr} {od9 an9:Option Addr} {sl9:Array (Option Value)} {oc9 kV9 dc9 pm9 cd9 ct9:Value} {f10:Addr} {od10 an10:Option Addr} {sl10:Array (Option Value)} {oc10 kV10 dc10 pm10 cd10 ct10:Value} {f11:Addr} {od11 an11:Option Addr} {sl11:Array (Option Value)} {oc11 kV11 dc11 pm11 cd11 ct11:Value} {f12:Addr} {od12 an12:Option Addr} {sl12:Array (Option Value)} {oc12 kV12 dc12 pm12 cd12 ct12:Value} {f13:Addr} {od13 an13:Option Addr} {sl13:Array (Option Value)} {oc13 kV13 dc13 pm13 cd13 ct13:Value} {f14:Addr} {od14 an14:Option Addr} {sl14:Array (Option Value)} {oc14 kV14 dc14 pm14 cd14 ct14:Value} {f15:Addr} {od15 an15:Option Addr} {sl15:Array (Option Value)} {oc15 kV15 dc15 pm15 cd15 ct15:Value} {f16:Addr} {od16 an16:Option Addr} {sl16:Array (Option Value)} {oc16 kV16 dc16 pm16 cd16 ct16:Value} {f17:Addr} {od17 an17:Option Addr} {sl17:Array (Option Value)} {oc17 kV17 dc17 pm17 cd17 ct17:Value} {f18:Addr} {od18 an18:Option Addr} {sl18:Array (Option Value)} {oc18 kV18 dc18 pm18 cd18 ct18:Value} {f19:Addr} {od19 an19:Option Addr} {sl19:Array (Option Value)} {oc19 kV19 dc19 pm19 cd19 ct19:Value} {f20:Addr} {od20 an20:Option Addr} {sl20:Array (Option Value)} {oc20 kV20 dc20 pm20 cd20 ct20:Value} {f21:Addr} {od21 an21:Option Addr} {sl21:Array (Option Value)} {oc21 kV21 dc21 pm21 cd21 ct21:Value} {f22:Addr} {od22 an22:Option Addr} {sl22:Array (Option Value)} {oc22 kV22 dc22 pm22 cd22 ct22:Value} {f23:Addr} {od23 an23:Option Addr} {sl23:Array (Option Value)} {oc23 kV23 dc23 pm23 cd23 ct23:Value} {cE cT cNoPaper cNoValue cTooMany cNoFunction cNoProgram cNoText cNoRatio cNoSize cNoRow aW aK:Addr} {odW odK:Option Addr} {nW nK:Nat} {slW slK:Array (Option Value)} {tw0 tw1 tw2 tw3 tw4 tw5 tw6 tk0 tk1 tk2 tk3 tk4 tk5:Tok}
  (a1:W.nsIn K mainGlobals "is_whole" = some (some (.ref f1))) (l1:K.lookup f1=some ⟨oc1,od1,.func (W.fnOf "is_whole" "is_whole" (zp (top 13)) (zm (top 13)) (zb (top 13)) .none kV1 dc1 pm1 an1 cd1 ct1),sl1⟩) (c1:W.codeIn K cd1 "is_whole" = true) (k1:W.keepIn K (.ref f1)=true)
  (a2:W.nsIn K mainGlobals "is_price" = some (some (.ref f2))) (l2:K.lookup f2=some ⟨oc2,od2,.func (W.fnOf "is_price" "is_price" (zp (top 17)) (zm (top 17)) (zb (top 17)) .none kV2 dc2 pm2 an2 cd2 ct2),sl2⟩) (c2:W.codeIn K cd2 "is_price" = true) (k2:W.keepIn K (.ref f2)=true)
  (a3:W.nsIn K mainGlobals "check_table" = some (some (.ref f3))) (l3:K.lookup f3=some ⟨oc3,od3,.func (W.fnOf "check_table" "check_table" (zp (top 18)) (zm (top 18)) (zb (top 18)) .none kV3 dc3 pm3 an3 cd3 ct3),sl3⟩) (c3:W.codeIn K cd3 "check_table" = true) (k3:W.keepIn K (.ref f3)=true)
  (a4:W.nsIn K mainGlobals "price_of" = some (some (.ref f4))) (l4:K.lookup f4=some ⟨oc4,od4,.func (W.fnOf "price_of" "price_of" (zp (top 19)) (zm (top 19)) (zb (top 19)) .none kV4 dc4 pm4 an4 cd4 ct4),sl4⟩) (c4:W.codeIn K cd4 "price_of" = true) (k4:W.keepIn K (.ref f4)=true)
  (a5:W.nsIn K mainGlobals "own_prices" = some (some (.ref f5))) (l5:K.lookup f5=some ⟨oc5,od5,.func (W.fnOf "own_prices" "own_prices" (zp (top 21)) (zm (top 21)) (zb (top 21)) .none kV5 dc5 pm5 an5 cd5 ct5),sl5⟩) (c5:W.codeIn K cd5 "own_prices" = true) (k5:W.keepIn K (.ref f5)=true)
  (a6:W.nsIn K mainGlobals "whole_prices" = some (some (.ref f6))) (l6:K.lookup f6=some ⟨oc6,od6,.func (W.fnOf "whole_prices" "whole_prices" (zp (top 22)) (zm (top 22)) (zb (top 22)) .none kV6 dc6 pm6 an6 cd6 ct6),sl6⟩) (c6:W.codeIn K cd6 "whole_prices" = true) (k6:W.keepIn K (.ref f6)=true)
  (a7:W.nsIn K mainGlobals "way_on" = some (some (.ref f7))) (l7:K.lookup f7=some ⟨oc7,od7,.func (W.fnOf "way_on" "way_on" (zp (top 25)) (zm (top 25)) (zb (top 25)) .none kV7 dc7 pm7 an7 cd7 ct7),sl7⟩) (c7:W.codeIn K cd7 "way_on" = true) (k7:W.keepIn K (.ref f7)=true)
  (a8:W.nsIn K mainGlobals "ways_of" = some (some (.ref f8))) (l8:K.lookup f8=some ⟨oc8,od8,.func (W.fnOf "ways_of" "ways_of" (zp (top 24)) (zm (top 24)) (zb (top 24)) .none kV8 dc8 pm8 an8 cd8 ct8),sl8⟩) (c8:W.codeIn K cd8 "ways_of" = true) (k8:W.keepIn K (.ref f8)=true)
  (a9:W.nsIn K mainGlobals "by_way" = some (some (.ref f9))) (l9:K.lookup f9=some ⟨oc9,od9,.func (W.fnOf "by_way" "by_way" (zp (top 23)) (zm (top 23)) (zb (top 23)) .none kV9 dc9 pm9 an9 cd9 ct9),sl9⟩) (c9:W.codeIn K cd9 "by_way" = true) (k9:W.keepIn K (.ref f9)=true)
  (a10:W.nsIn K mainGlobals "by_kind" = some (some (.ref f10))) (l10:K.lookup f10=some ⟨oc10,od10,.func (W.fnOf "by_kind" "by_kind" (zp (top 26)) (zm (top 26)) (zb (top 26)) .none kV10 dc10 pm10 an10 cd10 ct10),sl10⟩) (c10:W.codeIn K cd10 "by_kind" = true) (k10:W.keepIn K (.ref f10)=true)
  (a11:W.nsIn K mainGlobals "held_by" = some (some (.ref f11))) (l11:K.lookup f11=some ⟨oc11,od11,.func (W.fnOf "held_by" "held_by" (zp (top 27)) (zm (top 27)) (zb (top 27)) .none kV11 dc11 pm11 an11 cd11 ct11),sl11⟩) (c11:W.codeIn K cd11 "held_by" = true) (k11:W.keepIn K (.ref f11)=true)
  (a12:W.nsIn K mainGlobals "room_of" = some (some (.ref f12))) (l12:K.lookup f12=some ⟨oc12,od12,.func (W.fnOf "room_of" "room_of" (zp (top 28)) (zm (top 28)) (zb (top 28)) .none kV12 dc12 pm12 an12 cd12 ct12),sl12⟩) (c12:W.codeIn K cd12 "room_of" = true) (k12:W.keepIn K (.ref f12)=true)
  (a13:W.nsIn K mainGlobals "_law_cell_at" = some (some (.ref f13))) (l13:K.lookup f13=some ⟨oc13,od13,.func (W.fnOf "_law_cell_at" "_law_cell_at" (zp (top 30)) (zm (top 30)) (zb (top 30)) .none kV13 dc13 pm13 an13 cd13 ct13),sl13⟩) (c13:W.codeIn K cd13 "_law_cell_at" = true) (k13:W.keepIn K (.ref f13)=true)
  (a14:W.nsIn K mainGlobals "_law_name" = some (some (.ref f14))) (l14:K.lookup f14=some ⟨oc14,od14,.func (W.fnOf "_law_name" "_law_name" (zp (top 31)) (zm (top 31)) (zb (top 31)) .none kV14 dc14 pm14 an14 cd14 ct14),sl14⟩) (c14:W.codeIn K cd14 "_law_name" = true) (k14:W.keepIn K (.ref f14)=true)
  (a15:W.nsIn K mainGlobals "_law_kinds" = some (some (.ref f15))) (l15:K.lookup f15=some ⟨oc15,od15,.func (W.fnOf "_law_kinds" "_law_kinds" (zp (top 32)) (zm (top 32)) (zb (top 32)) .none kV15 dc15 pm15 an15 cd15 ct15),sl15⟩) (c15:W.codeIn K cd15 "_law_kinds" = true) (k15:W.keepIn K (.ref f15)=true)
  (a16:W.nsIn K mainGlobals "_law_table" = some (some (.ref f16))) (l16:K.lookup f16=some ⟨oc16,od16,.func (W.fnOf "_law_table" "_law_table" (zp (top 33)) (zm (top 33)) (zb (top 33)) .none kV16 dc16 pm16 an16 cd16 ct16),sl16⟩) (c16:W.codeIn K cd16 "_law_table" = true) (k16:W.keepIn K (.ref f16)=true)
  (a17:W.nsIn K mainGlobals "_law_thing" = some (some (.ref f17))) (l17:K.lookup f17=some ⟨oc17,od17,.func (W.fnOf "_law_thing" "_law_thing" (zp (top 34)) (zm (top 34)) (zb (top 34)) .none kV17 dc17 pm17 an17 cd17 ct17),sl17⟩) (c17:W.codeIn K cd17 "_law_thing" = true) (k17:W.keepIn K (.ref f17)=true)
  (a18:W.nsIn K mainGlobals "_law_call" = some (some (.ref f18))) (l18:K.lookup f18=some ⟨oc18,od18,.func (W.fnOf "_law_call" "_law_call" (zp (top 35)) (zm (top 35)) (zb (top 35)) .none kV18 dc18 pm18 an18 cd18 ct18),sl18⟩) (c18:W.codeIn K cd18 "_law_call" = true) (k18:W.keepIn K (.ref f18)=true)
  (a19:W.nsIn K mainGlobals "_law_run" = some (some (.ref f19))) (l19:K.lookup f19=some ⟨oc19,od19,.func (W.fnOf "_law_run" "_law_run" (zp (top 36)) (zm (top 36)) (zb (top 36)) .none kV19 dc19 pm19 an19 cd19 ct19),sl19⟩) (c19:W.codeIn K cd19 "_law_run" = true) (k19:W.keepIn K (.ref f19)=true)
  (a20:W.nsIn K mainGlobals "_law_asked" = some (some (.ref f20))) (l20:K.lookup f20=some ⟨oc20,od20,.func (W.fnOf "_law_asked" "_law_asked" (zp (top 37)) (zm (top 37)) (zb (top 37)) .none kV20 dc20 pm20 an20 cd20 ct20),sl20⟩) (c20:W.codeIn K cd20 "_law_asked" = true) (k20:W.keepIn K (.ref f20)=true)
  (a21:W.nsIn K mainGlobals "_law_refused" = some (some (.ref f21))) (l21:K.lookup f21=some ⟨oc21,od21,.func (W.fnOf "_law_refused" "_law_refused" (zp (top 38)) (zm (top 38)) (zb (top 38)) .none kV21 dc21 pm21 an21 cd21 ct21),sl21⟩) (c21:W.codeIn K cd21 "_law_refused" = true) (k21:W.keepIn K (.ref f21)=true)
  (a22:W.nsIn K mainGlobals "_law_spoiled" = some (some (.ref f22))) (l22:K.lookup f22=some ⟨oc22,od22,.func (W.fnOf "_law_spoiled" "_law_spoiled" (zp (top 39)) (zm (top 39)) (zb (top 39)) .none kV22 dc22 pm22 an22 cd22 ct22),sl22⟩) (c22:W.codeIn K cd22 "_law_spoiled" = true) (k22:W.keepIn K (.ref f22)=true)
  (a23:W.nsIn K mainGlobals "law" = some (some (.ref f23))) (l23:K.lookup f23=some ⟨oc23,od23,.func (W.fnOf "law" "law" (zp (top 40)) (zm (top 40)) (zb (top 40)) .none kV23 dc23 pm23 an23 cd23 ct23),sl23⟩) (c23:W.codeIn K cd23 "law" = true) (k23:W.keepIn K (.ref f23)=true) (b_TollError:W.nsIn K mainGlobals "TollError" = some (some (.ref cE))) (b_NoTable:W.nsIn K mainGlobals "NoTable" = some (some (.ref cT))) (b_NoPaper:W.nsIn K mainGlobals "NoPaper" = some (some (.ref cNoPaper))) (b_NoValue:W.nsIn K mainGlobals "NoValue" = some (some (.ref cNoValue))) (b_TooMany:W.nsIn K mainGlobals "TooMany" = some (some (.ref cTooMany))) (b_NoFunction:W.nsIn K mainGlobals "NoFunction" = some (some (.ref cNoFunction))) (b_NoProgram:W.nsIn K mainGlobals "NoProgram" = some (some (.ref cNoProgram))) (b_NoText:W.nsIn K mainGlobals "NoText" = some (some (.ref cNoText))) (b_NoRatio:W.nsIn K mainGlobals "NoRatio" = some (some (.ref cNoRatio))) (b_NoSize:W.nsIn K mainGlobals "NoSize" = some (some (.ref cNoSize))) (b_NoRow:W.nsIn K mainGlobals "NoRow" = some (some (.ref cNoRow))) (xN:excV K cT) (sE:W.subIn K (.ref cE) (.type "BaseException")=some true) (tE:W.typeIn K (.ref cE)=some (.type "type")) (dE:W.hasDictIn K cE=true) (uE:W.subIn K (.ref cT) (.ref cE)=some true) (uV:W.subIn K (.ref cT) (.type "ValueError")=some true) (y1:W.findIn K (.ref cT) "__getattribute__" = some (some (.builtin "BaseException.__getattribute__"))) (y2:W.findIn K (.ref cT) "__getattr__" = some none) (y3:W.findIn K (.ref cT) "__class__" = some (some (.builtin "object.__class__"))) (y4:W.specialIn K (.builtin "object.__class__") "__get__" = some (some (.builtin "getset_descriptor.__get__"))) (y5:W.takesIn K (.builtin "object.__class__")=some true) (y6:W.mroIn K cT (.type "object")=some true) (y7:W.subIn K (.ref cT) (.type "BaseException")=some true) (y8:W.hasDictIn K cT=true) (n_NoPaper:cT ≠ cNoPaper) (t_NoPaper:W.typeIn K (.ref cNoPaper)=some (.type "type")) (d_NoPaper:W.hasDictIn K cNoPaper=true) (u_NoPaper:W.subIn K (.ref cT) (.ref cNoPaper)=some false) (n_NoValue:cT ≠ cNoValue) (t_NoValue:W.typeIn K (.ref cNoValue)=some (.type "type")) (d_NoValue:W.hasDictIn K cNoValue=true) (u_NoValue:W.subIn K (.ref cT) (.ref cNoValue)=some false) (n_TooMany:cT ≠ cTooMany) (t_TooMany:W.typeIn K (.ref cTooMany)=some (.type "type")) (d_TooMany:W.hasDictIn K cTooMany=true) (u_TooMany:W.subIn K (.ref cT) (.ref cTooMany)=some false) (n_NoFunction:cT ≠ cNoFunction) (t_NoFunction:W.typeIn K (.ref cNoFunction)=some (.type "type")) (d_NoFunction:W.hasDictIn K cNoFunction=true) (u_NoFunction:W.subIn K (.ref cT) (.ref cNoFunction)=some false) (n_NoProgram:cT ≠ cNoProgram) (t_NoProgram:W.typeIn K (.ref cNoProgram)=some (.type "type")) (d_NoProgram:W.hasDictIn K cNoProgram=true) (u_NoProgram:W.subIn K (.ref cT) (.ref cNoProgram)=some false) (n_NoText:cT ≠ cNoText) (t_NoText:W.typeIn K (.ref cNoText)=some (.type "type")) (d_NoText:W.hasDictIn K cNoText=true) (u_NoText:W.subIn K (.ref cT) (.ref cNoText)=some false) (n_NoRatio:cT ≠ cNoRatio) (t_NoRatio:W.typeIn K (.ref cNoRatio)=some (.type "type")) (d_NoRatio:W.hasDictIn K cNoRatio=true) (u_NoRatio:W.subIn K (.ref cT) (.ref cNoRatio)=some false) (n_NoSize:cT ≠ cNoSize) (t_NoSize:W.typeIn K (.ref cNoSize)=some (.type "type")) (d_NoSize:W.hasDictIn K cNoSize=true) (u_NoSize:W.subIn K (.ref cT) (.ref cNoSize)=some false) (n_NoRow:cT ≠ cNoRow) (t_NoRow:W.typeIn K (.ref cNoRow)=some (.type "type")) (d_NoRow:W.hasDictIn K cNoRow=true) (u_NoRow:W.subIn K (.ref cT) (.ref cNoRow)=some false) (bW:W.nsIn K mainGlobals "WORDS" = some (some (.ref aW))) (lW:K.lookup aW=some ⟨.type "tuple", odW,.seq #[.str "call" tw0,.str "make" tw1,.str "sum" tw2,.str "let" tw3,.str "less" tw4,.str "open" tw5,.str "hold" tw6] nW,slW⟩) (bK:W.nsIn K mainGlobals "KINDS" = some (some (.ref aK))) (lK:K.lookup aK=some ⟨.type "tuple", odK,.seq #[.str "call" tk0,.str "make" tk1,.str "sum" tk2,.str "let" tk3,.str "less" tk4,.str "open" tk5] nK,slK⟩) (z_ValueError:W.nsIn K mainGlobals "ValueError" = some none) (z_all:W.nsIn K mainGlobals "all" = some none) (z_bool:W.nsIn K mainGlobals "bool" = some none) (z_dict:W.nsIn K mainGlobals "dict" = some none) (z_int:W.nsIn K mainGlobals "int" = some none) (z_isinstance:W.nsIn K mainGlobals "isinstance" = some none) (z_len:W.nsIn K mainGlobals "len" = some none) (z_list:W.nsIn K mainGlobals "list" = some none) (z_max:W.nsIn K mainGlobals "max" = some none) (z_range:W.nsIn K mainGlobals "range" = some none) (z_sum:W.nsIn K mainGlobals "sum" = some none) (z_tuple:W.nsIn K mainGlobals "tuple" = some none) (z_zip:W.nsIn K mainGlobals "zip" = some none) :
  ∃ fd:FuncData,(∀ (s:Shared) (v:Value),BindsTo s fd ⟨[v],[]⟩ [("_law_script", v)]) /\ ∀ base:Heap,K.In base->base.Ns mainGlobals mg->FnOk l.prog w K mg base CX0 9 fa fd ["_law_script"] (spD K 1 lawT):=by
 have e:=hfa.symm.trans (W.mg_of X G a23)
 cases e
 have T:Tops mg:=⟨W.mg_none_of X G z_ValueError,W.mg_none_of X G z_all,W.mg_none_of X G z_bool,W.mg_none_of X G z_dict,W.mg_none_of X G z_int,W.mg_none_of X G z_isinstance,W.mg_none_of X G z_len,W.mg_none_of X G z_list,W.mg_none_of X G z_max,W.mg_none_of X G z_range,W.mg_none_of X G z_sum,W.mg_none_of X G z_tuple,W.mg_none_of X G z_zip⟩
 have F1:=yj (st:=top 13) l1 c1 k1
 have F2:=yj (st:=top 17) l2 c2 k2
 have F3:=yj (st:=top 18) l3 c3 k3
 have F4:=yj (st:=top 19) l4 c4 k4
 have F5:=yj (st:=top 21) l5 c5 k5
 have F6:=yj (st:=top 22) l6 c6 k6
 have F7:=yj (st:=top 25) l7 c7 k7
 have F8:=yj (st:=top 24) l8 c8 k8
 have F9:=yj (st:=top 23) l9 c9 k9
 have F10:=yj (st:=top 26) l10 c10 k10
 have F11:=yj (st:=top 27) l11 c11 k11
 have F12:=yj (st:=top 28) l12 c12 k12
 have F13:=yj (st:=top 30) l13 c13 k13
 have F14:=yj (st:=top 31) l14 c14 k14
 have F15:=yj (st:=top 32) l15 c15 k15
 have F16:=yj (st:=top 33) l16 c16 k16
 have F17:=yj (st:=top 34) l17 c17 k17
 have F18:=yj (st:=top 35) l18 c18 k18
 have F19:=yj (st:=top 36) l19 c19 k19
 have F20:=yj (st:=top 37) l20 c20 k20
 have F21:=yj (st:=top 38) l21 c21 k21
 have F22:=yj (st:=top 39) l22 c22 k22
 have F23:=yj (st:=top 40) l23 c23 k23
 refine ⟨W.fnOf "law" "law" (zp (top 40)) (zm (top 40)) (zb (top 40)) .none kV23 dc23 pm23 an23 cd23 ct23,λs v=>.of_eq rfl,λbase _ _=>?_⟩
 have Z:Con K mg:=⟨Yt (ws:=yw) (W.mg_of X G bK) lK rfl rfl (by rw [sizeLine_eq]; show (6:Nat) <= _; decide) (.cons ⟨_,rfl⟩ (.cons ⟨_,rfl⟩ (.cons ⟨_,rfl⟩ (.cons ⟨_,rfl⟩ (.cons ⟨_,rfl⟩ (.cons ⟨_,rfl⟩ .nil)))))),Yt (ws:=yb) (W.mg_of X G bW) lW rfl rfl (by rw [sizeLine_eq]; show (7:Nat) <= _; decide) (.cons ⟨_,rfl⟩ (.cons ⟨_,rfl⟩ (.cons ⟨_,rfl⟩ (.cons ⟨_,rfl⟩ (.cons ⟨_,rfl⟩ (.cons ⟨_,rfl⟩ (.cons ⟨_,rfl⟩ .nil)))))))⟩
 have Y:Cls K mg cE cT cNoPaper cNoValue cTooMany cNoFunction cNoProgram cNoText cNoRatio cNoSize cNoRow:=⟨W.mg_of X G b_TollError,W.mg_of X G b_NoTable,W.mg_of X G b_NoPaper,W.mg_of X G b_NoValue,W.mg_of X G b_TooMany,W.mg_of X G b_NoFunction,W.mg_of X G b_NoProgram,W.mg_of X G b_NoText,W.mg_of X G b_NoRatio,W.mg_of X G b_NoSize,W.mg_of X G b_NoRow,xN,Jt sE tE dE uE,Ny rb uV,λc hc=>by
  simp only [List.mem_cons,List.not_mem_nil,or_false] at hc
  rcases hc with rfl | rfl | rfl | rfl | rfl | rfl | rfl | rfl | rfl
  ·exact w8 n_NoPaper t_NoPaper d_NoPaper u_NoPaper
  ·exact w8 n_NoValue t_NoValue d_NoValue u_NoValue
  ·exact w8 n_TooMany t_TooMany d_TooMany u_TooMany
  ·exact w8 n_NoFunction t_NoFunction d_NoFunction u_NoFunction
  ·exact w8 n_NoProgram t_NoProgram d_NoProgram u_NoProgram
  ·exact w8 n_NoText t_NoText d_NoText u_NoText
  ·exact w8 n_NoRatio t_NoRatio d_NoRatio u_NoRatio
  ·exact w8 n_NoSize t_NoSize d_NoSize u_NoSize
  ·exact w8 n_NoRow t_NoRow d_NoRow u_NoRow,⟨y1,y2,y3,y4,y5,y6,y7,y8⟩⟩
 have Fv:=Zs (P:=l.prog) (w:=w) (base:=base) T  F1 (W.mg_of X G a1)
 have Eg:=Zt (P:=l.prog) (w:=w) (base:=base) T Fv F2 (W.mg_of X G a2)
 have E9:=cu (P:=l.prog) (w:=w) (base:=base) T Fv F2 (W.mg_of X G a2)
 have Ff:=qx (P:=l.prog) (w:=w) (base:=base) T Z Eg F3 (W.mg_of X G a3)
 have Fe:=qr (P:=l.prog) (w:=w) (base:=base) T Z Y E9 F3 (W.mg_of X G a3)
 have Eh:=Zp (P:=l.prog) (w:=w) (base:=base) T Ff F4 (W.mg_of X G a4)
 have Ea:=Zn (P:=l.prog) (w:=w) (base:=base) T Y Fe F4 (W.mg_of X G a4)
 have Fi:=h8 (P:=l.prog) (w:=w) (base:=base) T Ff F5 (W.mg_of X G a5)
 have Fh:=jz (P:=l.prog) (w:=w) (base:=base) T Y Fe F5 (W.mg_of X G a5)
 have Fw:=qa (P:=l.prog) (w:=w) (base:=base) T Fi F6 (W.mg_of X G a6)
 have Fq:=rn (P:=l.prog) (w:=w) (base:=base) T Y Fh F6 (W.mg_of X G a6)
 have Ez:=T9 (P:=l.prog) (w:=w) (base:=base) T  F7 (W.mg_of X G a7)
 have E1:=Wb (P:=l.prog) (w:=w) (base:=base) T Ez F8 (W.mg_of X G a8)
 have D1:=Ta (P:=l.prog) (w:=w) (base:=base) T E1 Fi F9 (W.mg_of X G a9)
 have Er:=T6 (P:=l.prog) (w:=w) (base:=base) T Y E1 Fh F9 (W.mg_of X G a9)
 have Es:=Wf (P:=l.prog) (w:=w) (base:=base) T Z Ff F10 (W.mg_of X G a10)
 have Ei:=W8 (P:=l.prog) (w:=w) (base:=base) T Z Y Fe F10 (W.mg_of X G a10)
 have Et:=We (P:=l.prog) (w:=w) (base:=base) T  F11 (W.mg_of X G a11)
 have Eu:=Wc (P:=l.prog) (w:=w) (base:=base) T Ff Et F12 (W.mg_of X G a12)
 have Ej:=W7 (P:=l.prog) (w:=w) (base:=base) T Y Fe F12 (W.mg_of X G a12)
 have Fg:=qw (P:=l.prog) (w:=w) (base:=base) T  F13 (W.mg_of X G a13)
 have Eb:=Zq (P:=l.prog) (w:=w) (base:=base) T  F14 (W.mg_of X G a14)
 have Fj:=cm (P:=l.prog) (w:=w) (base:=base) T  F15 (W.mg_of X G a15)
 have E4:=ck (P:=l.prog) (w:=w) (base:=base) T Fg Fj F16 (W.mg_of X G a16)
 have E5:=cj (P:=l.prog) (w:=w) (base:=base) T  F17 (W.mg_of X G a17)
 have Ec:=Zr (P:=l.prog) (w:=w) (base:=base) T Fg Eb E5 F18 (W.mg_of X G a18)
 have Ek:=Wd (P:=l.prog) (w:=w) (base:=base) T Fj Ec F19 (W.mg_of X G a19)
 have E6:=cq (P:=l.prog) (w:=w) (base:=base) T Eh Fi Fw D1 Es Eu F20 (W.mg_of X G a20)
 have Fz:=cf (P:=l.prog) (w:=w) (base:=base) T Y Ea Fh Fq Er Ei Ej F20 (W.mg_of X G a20)
 have Fx:=qv (P:=l.prog) (w:=w) (base:=base) T Y Fz F21 (W.mg_of X G a21)
 have Fy:=W9 (P:=l.prog) (w:=w) (base:=base) T Fj F22 (W.mg_of X G a22)
 exact Ky T Fy Fg E4 Ek E6 Fx F23
end
end K21
open PySem PySem.W PyProof.Rows
set_option maxRecDepth 100000 in
set_option maxHeartbeats 0 in
theorem PySem.Challenge.cw_toll_k21_no_table_holds : PySem.Challenge.rw_toll_k21_no_table.Holds := by
 refine K21.opened ?_
 k_fill
 refine DL.walkD (l:=PySem.Challenge.rw_toll_k21_no_table) (k:=9) (x:="_law_script") rfl rfl ⟨rfl,by decide,by decide⟩ (λw h Y=>PySem.W.kIn_of Y) ?F
 case F =>
  intro w mg fa h KX G hmg
  refine' K21.all_mk KX G hmg ?a1 ?l1 ?c1 ?k1 ?a2 ?l2 ?c2 ?k2 ?a3 ?l3 ?c3 ?k3 ?a4 ?l4 ?c4 ?k4 ?a5 ?l5 ?c5 ?k5 ?a6 ?l6 ?c6 ?k6 ?a7 ?l7 ?c7 ?k7 ?a8 ?l8 ?c8 ?k8 ?a9 ?l9 ?c9 ?k9 ?a10 ?l10 ?c10 ?k10 ?a11 ?l11 ?c11 ?k11 ?a12 ?l12 ?c12 ?k12 ?a13 ?l13 ?c13 ?k13 ?a14 ?l14 ?c14 ?k14 ?a15 ?l15 ?c15 ?k15 ?a16 ?l16 ?c16 ?k16 ?a17 ?l17 ?c17 ?k17 ?a18 ?l18 ?c18 ?k18 ?a19 ?l19 ?c19 ?k19 ?a20 ?l20 ?c20 ?k20 ?a21 ?l21 ?c21 ?k21 ?a22 ?l22 ?c22 ?k22 ?a23 ?l23 ?c23 ?k23 ?b_TollError ?b_NoTable ?b_NoPaper ?b_NoValue ?b_TooMany ?b_NoFunction ?b_NoProgram ?b_NoText ?b_NoRatio ?b_NoSize ?b_NoRow ?xN ?sE ?tE ?dE ?uE ?uV ?y1 ?y2 ?y3 ?y4 ?y5 ?y6 ?y7 ?y8 ?n_NoPaper ?t_NoPaper ?d_NoPaper ?u_NoPaper ?n_NoValue ?t_NoValue ?d_NoValue ?u_NoValue ?n_TooMany ?t_TooMany ?d_TooMany ?u_TooMany ?n_NoFunction ?t_NoFunction ?d_NoFunction ?u_NoFunction ?n_NoProgram ?t_NoProgram ?d_NoProgram ?u_NoProgram ?n_NoText ?t_NoText ?d_NoText ?u_NoText ?n_NoRatio ?t_NoRatio ?d_NoRatio ?u_NoRatio ?n_NoSize ?t_NoSize ?d_NoSize ?u_NoSize ?n_NoRow ?t_NoRow ?d_NoRow ?u_NoRow ?bW ?lW ?bK ?lK ?z_ValueError ?z_all ?z_bool ?z_dict ?z_int ?z_isinstance ?z_len ?z_list ?z_max ?z_range ?z_sum ?z_tuple ?z_zip
  (case a1=>k_is)
  (case l1=>k_is)
  (case c1=>k_is)
  (case k1=>k_is)
  (case a2=>k_is)
  (case l2=>k_is)
  (case c2=>k_is)
  (case k2=>k_is)
  (case a3=>k_is)
  (case l3=>k_is)
  (case c3=>k_is)
  (case k3=>k_is)
  (case a4=>k_is)
  (case l4=>k_is)
  (case c4=>k_is)
  (case k4=>k_is)
  (case a5=>k_is)
  (case l5=>k_is)
  (case c5=>k_is)
  (case k5=>k_is)
  (case a6=>k_is)
  (case l6=>k_is)
  (case c6=>k_is)
  (case k6=>k_is)
  (case a7=>k_is)
  (case l7=>k_is)
  (case c7=>k_is)
  (case k7=>k_is)
  (case a8=>k_is)
  (case l8=>k_is)
  (case c8=>k_is)
  (case k8=>k_is)
  (case a9=>k_is)
  (case l9=>k_is)
  (case c9=>k_is)
  (case k9=>k_is)
  (case a10=>k_is)
  (case l10=>k_is)
  (case c10=>k_is)
  (case k10=>k_is)
  (case a11=>k_is)
  (case l11=>k_is)
  (case c11=>k_is)
  (case k11=>k_is)
  (case a12=>k_is)
  (case l12=>k_is)
  (case c12=>k_is)
  (case k12=>k_is)
  (case a13=>k_is)
  (case l13=>k_is)
  (case c13=>k_is)
  (case k13=>k_is)
  (case a14=>k_is)
  (case l14=>k_is)
  (case c14=>k_is)
  (case k14=>k_is)
  (case a15=>k_is)
  (case l15=>k_is)
  (case c15=>k_is)
  (case k15=>k_is)
  (case a16=>k_is)
  (case l16=>k_is)
  (case c16=>k_is)
  (case k16=>k_is)
  (case a17=>k_is)
  (case l17=>k_is)
  (case c17=>k_is)
  (case k17=>k_is)
  (case a18=>k_is)
  (case l18=>k_is)
  (case c18=>k_is)
  (case k18=>k_is)
  (case a19=>k_is)
  (case l19=>k_is)
  (case c19=>k_is)
  (case k19=>k_is)
  (case a20=>k_is)
  (case l20=>k_is)
  (case c20=>k_is)
  (case k20=>k_is)
  (case a21=>k_is)
  (case l21=>k_is)
  (case c21=>k_is)
  (case k21=>k_is)
  (case a22=>k_is)
  (case l22=>k_is)
  (case c22=>k_is)
  (case k22=>k_is)
  (case a23=>k_is)
  (case l23=>k_is)
  (case c23=>k_is)
  (case k23=>k_is)
  (case b_TollError=>k_is)
  (case b_NoTable=>k_is)
  (case b_NoPaper=>k_is)
  (case b_NoValue=>k_is)
  (case b_TooMany=>k_is)
  (case b_NoFunction=>k_is)
  (case b_NoProgram=>k_is)
  (case b_NoText=>k_is)
  (case b_NoRatio=>k_is)
  (case b_NoSize=>k_is)
  (case b_NoRow=>k_is)
  (case xN=>(show PySem.W.excIn _ _ _ _=true; k_exc))
  (case sE=>k_is)
  (case tE=>k_is)
  (case dE=>k_is)
  (case uE=>k_is)
  (case uV=>k_is)
  (case y1=>k_is)
  (case y2=>k_is)
  (case y3=>k_is)
  (case y4=>k_is)
  (case y5=>k_is)
  (case y6=>k_is)
  (case y7=>k_is)
  (case y8=>k_is)
  (case n_NoPaper=>decide)
  (case t_NoPaper=>k_is)
  (case d_NoPaper=>k_is)
  (case u_NoPaper=>k_is)
  (case n_NoValue=>decide)
  (case t_NoValue=>k_is)
  (case d_NoValue=>k_is)
  (case u_NoValue=>k_is)
  (case n_TooMany=>decide)
  (case t_TooMany=>k_is)
  (case d_TooMany=>k_is)
  (case u_TooMany=>k_is)
  (case n_NoFunction=>decide)
  (case t_NoFunction=>k_is)
  (case d_NoFunction=>k_is)
  (case u_NoFunction=>k_is)
  (case n_NoProgram=>decide)
  (case t_NoProgram=>k_is)
  (case d_NoProgram=>k_is)
  (case u_NoProgram=>k_is)
  (case n_NoText=>decide)
  (case t_NoText=>k_is)
  (case d_NoText=>k_is)
  (case u_NoText=>k_is)
  (case n_NoRatio=>decide)
  (case t_NoRatio=>k_is)
  (case d_NoRatio=>k_is)
  (case u_NoRatio=>k_is)
  (case n_NoSize=>decide)
  (case t_NoSize=>k_is)
  (case d_NoSize=>k_is)
  (case u_NoSize=>k_is)
  (case n_NoRow=>decide)
  (case t_NoRow=>k_is)
  (case d_NoRow=>k_is)
  (case u_NoRow=>k_is)
  (case bW=>k_is)
  (case lW=>k_is)
  (case bK=>k_is)
  (case lK=>k_is)
  (case z_ValueError=>k_is)
  (case z_all=>k_is)
  (case z_bool=>k_is)
  (case z_dict=>k_is)
  (case z_int=>k_is)
  (case z_isinstance=>k_is)
  (case z_len=>k_is)
  (case z_list=>k_is)
  (case z_max=>k_is)
  (case z_range=>k_is)
  (case z_sum=>k_is)
  (case z_tuple=>k_is)
  (case z_zip=>k_is)
