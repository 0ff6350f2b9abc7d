import PyProof.Rows.All
import Wide.All
import OpenK.KSplit
import OpenK.KApp
import KE.RegKMod
import KE.KJoinElse
import KE.KTops
import KE.RegKSuper
import KE.RegLcAnyAll
import KE.KCells
import KE.KPassesOwn
import KE.KNestStore
import KE.KStopIter
import KE.RegKBase
import KE.KDictOne
import KE.KxDecode
import KE.RegKMathGB
import KE.KNestM
import KE.KDflt
import KE.KOwnIterCall
import KE.KSortedM
import KE.KxLen
import KE.RegKMathGC
import KE.KIsClose
import KE.KDisp
import KE.KSetIn
import KE.KRevSl
import KE.KEqDeep
import KE.KAnyBase
import KE.KWhile
import KE.KRevIter
import KE.KTreeR
import KE.KxStill
import KE.KFinally
import KE.KTopLam
import KE.KWithOwn
import KE.KOpsOwn
import KE.KDictNew
import KE.KWhileD
import KE.KSumEnd
import KE.KPopAny
import KE.KGrown
import KE.KItemAt
import KE.KTextLit
import KE.KTupDict
import KE.KFmtOwn
import KE.KMinKey
import KE.KExtendNil
import KE.KMethU
import KE.KDictAnyTail
import KE.RegKStar
import KE.RegKTupTruth
import KE.RegKTupSum
import KE.KMethJoin
import KE.KPathRangeEnd
import KE.RegKParC
import KE.KxAffix
import KE.KxField
import KE.RegKMatchCls
import KE.KLcPair
import KE.KJoinL
import KE.RegKNeg
import KE.KxPercentT
import KE.KBytesCut
import KE.KCompIf
import KE.KxFormat
import KE.KTypeName
import KE.KCompText
import KE.BytesMulAny
import KE.KSortTup
import KE.KPairAssign
import KE.KTypeOf
import KE.KMulAny
import KE.KBytesMenu
import KE.KTextDict
import KE.KPathShort
import KE.KSplitRange
import KE.KKinds
import KE.KxPart
import KE.KRangeItem
import KE.KRangeNest
import KE.KSetAt
import KE.KxTruthy
import KE.KPairRows
import KE.KBytesMore
import KE.KRangePlain
import KE.KBitsMul
import KE.KTextTable
import KE.KForList
import KE.KIdxIf
import KE.KAssignIn
import KE.KFirstTurn
import KE.KOwnRange
import KE.KLooksOwn
import KE.KDictWord
import KE.KTurnsGround
import KE.KFinFacts
import KE.RegKTryOn
import KE.KCenter
import KE.KStrWords
import KE.KStateTextK
import KE.KStateWGiven
import KE.KCallTup
import KE.KTreeF
import KE.KEndWord
import KE.KStateBytes
import KE.KRangeEnd
import KE.KOf
import KE.KRepItem
import KE.KListLetter
import KE.KSliceSign
import KE.KToBytes
import KE.KPathText
import KE.KMinBuiltin
import KE.KFromBytes
import KE.KEqDat
import KE.KBytesUnr
import KE.KIsBytes
import KE.KCallRec
import KE.KEndW
import KE.RegLGeC
import Wide.FinOn
import PySem.Challenge.RW_toll_k16_cut_deep_and_great
noncomputable section
set_option Elab.async false
set_option linter.all false
def zaa:=@PySem.wpAny_bind
def zab:=@PySem.wpAny_pure
def zac:=@PySem.Heap.get?_push_of_some
def zad:=@PySem.Heap.get?_push_size
def zae:=@PySem.Heap.lt_size
def zaf:=@List.getElem?_eq_getElem
def zag:=@List.getElem?_eq_some_iff
def zah:=@List.mem_map
def zai:=@List.getElem?_map
def zaj:=@Nat.le_refl
def zak:=@Nat.le_trans
def zal:=@List.mem_cons_of_mem
def zam:=@List.mem_cons
def zan:=@List.mem_of_getElem?
def zao:=@List.mem_cons_self
def zap:=@List.size_toArray
def zar:=@Option.map_eq_some_iff
def zas:=@List.mem_append
set_option maxRecDepth 100000
set_option maxHeartbeats 8000000
set_option exponentiation.threshold 5000
set_option compiler.extract_closed false
set_option bootstrap.genMatcherCode false
def zLa.{u} {α:Type u} {a b:List α}:(a++b).length=a.length+b.length:=List.length_append
def zLc.{u} {α:Type u} {x:α} {a:List α}:(x::a).length=a.length+1:=rfl
def zLn.{u} {α:Type u}:([]:List α).length=0:=rfl
def zLm.{u,v} {α:Type u} {β:Type v} {as:List α} (f:α->β):(as.map f).length=as.length:=List.length_map f
def zMa.{u,v} {α:Type u} {β:Type v} {f:α->β} {l₁ l₂:List α}:(l₁++l₂).map f=l₁.map f++l₂.map f:=List.map_append
local macro_rules | `(tactic| walk_at "o")=>`(tactic| first | exact Or.inl rfl | exact Or.inr rfl | exact Or.inr (Or.inl rfl) | exact Or.inr (Or.inr rfl))
local macro_rules | `(tactic| walk_at "f")=>`(tactic| exact ⟨rfl,rfl,rfl,by decide +kernel,rfl,by decide +kernel,by decide +kernel⟩)
local macro_rules | `(tactic| walk_at "c")=>`(tactic| exact ⟨rfl,by decide +kernel,by decide +kernel,by decide +kernel,by decide +kernel,by decide +kernel⟩)
local macro_rules | `(tactic| walk_at "m")=>`(tactic| exact ⟨by first | omega | (simp; omega),by repeat first | assumption | exact trivial | refine $(Lean.mkIdent `prs1) ?_ ?_⟩)
set_option hygiene false in
local macro_rules | `(tactic| walk_at "h")=>`(tactic| rcases hF with ⟨rfl,t,rfl,rfl,rfl,rfl⟩ | ⟨fn,rfl,hf1,hf4,⟨rfl,l,hl,rfl,rfl,rfl,rfl⟩ | ⟨rfl,t,ht,hd,rfl,rfl,rfl,rfl⟩ | ⟨rfl,t,ht,hd,rfl,rfl,rfl,rfl⟩⟩)
namespace ZZ
open PySem PySem.Spec PyProof.Rows
def wz (s:Stmt):Arguments:=match s with
 | .FunctionDef _ a _ _ _ _ _ _ _ _=>a
 | _=>{ posonlyargs:=[],args:=[],vararg:=none,kwonlyargs:=[],kw_defaults:=[],kwarg:=none,defaults:=[] }
def yq (s:Stmt):List Stmt:=match s with
 | .FunctionDef _ _ b _ _ _ _ _ _ _=>b
 | _=>[]
def ze (s:Stmt):Scope:=match s with
 | .FunctionDef _ _ _ _ _ _ sc _ _ _=>sc
 | _=>{ kind:=.function,names:=[],isGenerator:=false,isCoroutine:=false }
def xg (s:Stmt) (j:Nat):Stmt:=match s with
 | .ClassDef _ _ _ body _ _ _ _ _ _ _=>body.getD j (.Pass ⟨0,0,0,0⟩)
 | _=>.Pass ⟨0,0,0,0⟩
def top (i:Nat):Stmt:=PySem.Challenge.pw_toll_k16_cut_deep_and_great.main.body.getD i (.Pass ⟨0,0,0,0⟩)
section
open PySem.W PySem.PyData
def zE (P:Params) (s:Str) (t:Nat) (v:Value):DictEntry:=⟨keyHash P s,.str s t,v⟩
def zG (n q:Str) (s:Stmt) (d c m:Value) (k:Nat):Obj:=⟨.type "function", none,.func (fnOf n q (wz s) (yq s) (ze s) d .none c m none (.ref k) .none),#[]⟩
def zF (n:Str) (s:Stmt) (m:Str) (i k:Nat):Obj:=⟨.type "function", none,.func (fnOf n n (wz s) (yq s) (ze s) .none .none .none (.str m i) none (.ref k) .none),#[]⟩
def zC (n:Str) (a:Nat) (q:Str) (b c:Nat) (d e f:Int) (g:Nat) (h:Int) (i j k l:Nat) (m o:Int) (p:Nat):Obj:=⟨.type "code", none,.fields #[.str n a,.str q b,.str "/claim/cut.py" c,.int d 0,.int e 0,.int 0 0,.int 0 0,.int f 0,.ref g,.bool true,.int h 0,.ref i,.none,.ref j,.ref k,.ref l,.int m 0,.int o 0,.str "/claim/cut.py" p],#[]⟩
def zK (P:Params):Frag:=(nat_lit 2,⟨.none,none,(.dict #[] 0),#[]⟩)::
(nat_lit 3,⟨(.type "dict"),none,(.dict #[zE P "__name__" 165 (.str "law_toll_k16_cut_deep_and_great" 493),zE P "__doc__" 166 .none,zE P "__package__" 167 .none,zE P "__loader__" 168 (.builtin "__main__.__loader__#opaque"),zE P "__spec__" 169 .none,zE P "__annotations__" 170 (.ref 6),zE P "__builtins__" 171 (.ref 4),zE P "__file__" 173 (.str "/claim/cut.py" 172),zE P "__cached__" 174 .none,zE P "TollError" 206 (.ref 24),zE P "NoFunction" 222 (.ref 37),zE P "NoValue" 238 (.ref 49),zE P "is_whole" 247 (.ref 58),zE P "function_of" 256 (.ref 65),zE P "fits" 264 (.ref 70),zE P "is_tree" 273 (.ref 77),zE P "size_of" 281 (.ref 84),zE P "nodes_of" 291 (.ref 91),zE P "MOST_CALLS" 295 (.int 20 294),zE P "MOST_SIZE" 297 (.int 100 296),zE P "trace" 309 (.ref 99),zE P "check_args" 315 (.ref 104),zE P "Run" 492 (.ref 234),zE P "_law_cell_at" 502 (.ref 245),zE P "_law_number" 509 (.ref 252),zE P "_law_names" 515 (.ref 257),zE P "_law_program" 535 (.ref 264),zE P "_law_next" 541 (.ref 269),zE P "_law_inner" 547 (.ref 274),zE P "_law_over" 556 (.ref 281),zE P "_law_due" 571 (.ref 288),zE P "_law_whole" 578 (.ref 295),zE P "_law_told" 584 (.ref 300),zE P "_law_doubling" 597 (.ref 307),zE P "_law_doubled" 609 (.ref 314),zE P "_law_doubled_told" 615 (.ref 319),zE P "law" 621 (.ref 324)] 37),#[]⟩)::
(nat_lit 15,⟨(.type "tuple"),none,(.seq #[(.type "ValueError")] 0),#[]⟩)::
(nat_lit 22,⟨(.type "tuple"),none,(.seq #[] 0),#[]⟩)::
(nat_lit 23,⟨(.type "dict"),none,(.dict #[zE P "__module__" 196 (.str "toll.errors" 187),zE P "__firstlineno__" 200 (.int 2 199),zE P "__static_attributes__" 201 (.ref 22),zE P "__weakref__" 203 (.ref 25),zE P "__doc__" 204 .none] 3),#[]⟩)::
(nat_lit 24,⟨(.type "type"),none,(.cls ⟨"TollError",[(.type "ValueError")],[(.ref 24),(.type "ValueError"),(.type "Exception"),(.type "BaseException"),(.type "object")],23,"TollError",true,[],[(.ref 37),(.ref 49)],false,none,false⟩),#[(some (.ref 15)),none,(some (.str "TollError" 189)),(some (.str "TollError" 197)),(some (.builtin "ValueError.__new__")),(some (.bool true))]⟩)::
(nat_lit 25,⟨(.type "getset_descriptor"),none,(.fields #[(.str "__weakref__" 202),(.ref 24),(.builtin "ExceptionGroup.__weakref__"),.none]),#[]⟩)::
(nat_lit 28,⟨(.type "tuple"),none,(.seq #[(.ref 24)] 0),#[]⟩)::
(nat_lit 35,⟨(.type "tuple"),none,(.seq #[] 0),#[]⟩)::
(nat_lit 36,⟨(.type "dict"),none,(.dict #[zE P "__module__" 214 (.str "toll.errors" 187),zE P "__firstlineno__" 218 (.int 4 217),zE P "__static_attributes__" 219 (.ref 35),zE P "__doc__" 220 .none] 2),#[]⟩)::
(nat_lit 37,⟨(.type "type"),none,(.cls ⟨"NoFunction",[(.ref 24)],[(.ref 37),(.ref 24),(.type "ValueError"),(.type "Exception"),(.type "BaseException"),(.type "object")],36,"NoFunction",true,[],[],false,none,false⟩),#[(some (.ref 28)),none,(some (.str "NoFunction" 207)),(some (.str "NoFunction" 215)),(some (.builtin "ValueError.__new__")),(some (.bool true))]⟩)::
(nat_lit 40,⟨(.type "tuple"),none,(.seq #[(.ref 24)] 0),#[]⟩)::
(nat_lit 47,⟨(.type "tuple"),none,(.seq #[] 0),#[]⟩)::
(nat_lit 48,⟨(.type "dict"),none,(.dict #[zE P "__module__" 230 (.str "toll.errors" 187),zE P "__firstlineno__" 234 (.int 6 233),zE P "__static_attributes__" 235 (.ref 47),zE P "__doc__" 236 .none] 2),#[]⟩)::
(nat_lit 49,⟨(.type "type"),none,(.cls ⟨"NoValue",[(.ref 24)],[(.ref 49),(.ref 24),(.type "ValueError"),(.type "Exception"),(.type "BaseException"),(.type "object")],48,"NoValue",true,[],[],false,none,false⟩),#[(some (.ref 40)),none,(some (.str "NoValue" 223)),(some (.str "NoValue" 231)),(some (.builtin "ValueError.__new__")),(some (.bool true))]⟩)::
(nat_lit 57,zC "is_whole" 241 "is_whole" 242 243 9 1 3 52 181 53 54 55 56 245 9 246)::
(nat_lit 58,zF "is_whole" (top 5) "toll.programs" 239 57)::
(nat_lit 64,zC "function_of" 248 "function_of" 249 250 11 2 3 59 181 60 61 62 63 254 11 255)::
(nat_lit 65,zF "function_of" (top 6) "toll.programs" 239 64)::
(nat_lit 69,⟨(.type "code"),none,(.fields #[(.str "fits" 259),(.str "fits" 260),(.str "/claim/cut.py" 261),(.int 17 0),(.int 2 0),(.int 0 0),(.int 0 0),(.int 3 0),(.ref 66),(.bool true),(.int 181 0),(.ref 67),.none,.none,.none,(.ref 68),(.int 262 0),(.int 17 0),(.str "/claim/cut.py" 263)]),#[]⟩)::
(nat_lit 70,zF "fits" (top 8) "toll.values" 257 69)::
(nat_lit 76,zC "is_tree" 265 "is_tree" 266 267 23 1 3 71 181 72 73 74 75 271 23 272)::
(nat_lit 77,zF "is_tree" (top 9) "toll.values" 257 76)::
(nat_lit 83,zC "size_of" 274 "size_of" 275 276 33 2 3 78 181 79 80 81 82 279 33 280)::
(nat_lit 84,zF "size_of" (top 10) "toll.values" 257 83)::
(nat_lit 90,zC "nodes_of" 282 "nodes_of" 283 284 39 1 3 85 181 86 87 88 89 289 39 290)::
(nat_lit 91,zF "nodes_of" (top 11) "toll.values" 257 90)::
(nat_lit 92,⟨(.type "tuple"),none,(.seq #[(.int 1000 298)] 0),#[]⟩)::
(nat_lit 98,zC "trace" 299 "trace" 300 301 51 4 3 93 181 94 95 96 97 307 51 308)::
(nat_lit 99,zG "trace" "trace" (top 15) (.ref 92) .none (.str "toll.runs" 292) 98)::
(nat_lit 103,⟨(.type "code"),none,(.fields #[(.str "check_args" 310),(.str "check_args" 311),(.str "/claim/cut.py" 312),(.int 57 0),(.int 2 0),(.int 0 0),(.int 0 0),(.int 3 0),(.ref 100),(.bool true),(.int 181 0),(.ref 101),.none,.none,.none,(.ref 102),(.int 313 0),(.int 57 0),(.str "/claim/cut.py" 314)]),#[]⟩)::
(nat_lit 104,zF "check_args" (top 16) "toll.runs" 292 103)::
(nat_lit 115,⟨(.type "code"),none,(.fields #[(.str "__init__" 328),(.str "Run.__init__" 329),(.str "/claim/cut.py" 330),(.int 65 0),(.int 3 0),(.int 0 0),(.int 0 0),(.int 3 0),(.ref 112),(.bool true),(.int 181 0),(.ref 113),.none,.none,.none,(.ref 114),(.int 331 0),(.int 65 0),(.str "/claim/cut.py" 332)]),#[]⟩)::
(nat_lit 116,zG "__init__" "Run.__init__" (xg (top 17) 0) .none .none (.str "toll.runs" 292) 115)::
(nat_lit 122,zC "told" 334 "Run.told" 335 336 75 1 3 117 181 118 119 120 121 338 75 339)::
(nat_lit 123,zG "told" "Run.told" (xg (top 17) 1) .none .none (.str "toll.runs" 292) 122)::
(nat_lit 129,zC "go" 341 "Run.go" 342 343 80 1 3 124 181 125 126 127 128 346 80 347)::
(nat_lit 130,zG "go" "Run.go" (xg (top 17) 2) .none .none (.str "toll.runs" 292) 129)::
(nat_lit 136,zC "step" 349 "Run.step" 350 351 96 3 3 131 181 132 133 134 135 355 96 356)::
(nat_lit 137,zG "step" "Run.step" (xg (top 17) 3) .none .none (.str "toll.runs" 292) 136)::
(nat_lit 143,zC "own_step" 358 "Run.own_step" 359 360 103 2 3 138 181 139 140 141 142 363 103 364)::
(nat_lit 144,zG "own_step" "Run.own_step" (xg (top 17) 4) .none .none (.str "toll.runs" 292) 143)::
(nat_lit 150,zC "standing" 366 "Run.standing" 367 368 106 2 3 145 181 146 147 148 149 371 106 372)::
(nat_lit 151,zG "standing" "Run.standing" (xg (top 17) 5) .none .none (.str "toll.runs" 292) 150)::
(nat_lit 157,zC "stand" 374 "Run.stand" 375 376 109 3 3 152 181 153 154 155 156 381 109 382)::
(nat_lit 158,zG "stand" "Run.stand" (xg (top 17) 6) .none .none (.str "toll.runs" 292) 157)::
(nat_lit 164,zC "taken" 384 "Run.taken" 385 386 113 2 3 159 181 160 161 162 163 390 113 391)::
(nat_lit 165,zG "taken" "Run.taken" (xg (top 17) 7) .none .none (.str "toll.runs" 292) 164)::
(nat_lit 169,⟨(.type "code"),none,(.fields #[(.str "behind" 393),(.str "Run.behind" 394),(.str "/claim/cut.py" 395),(.int 118 0),(.int 3 0),(.int 0 0),(.int 0 0),(.int 3 0),(.ref 166),(.bool true),(.int 181 0),(.ref 167),.none,.none,.none,(.ref 168),(.int 396 0),(.int 118 0),(.str "/claim/cut.py" 397)]),#[]⟩)::
(nat_lit 170,zG "behind" "Run.behind" (xg (top 17) 8) .none .none (.str "toll.runs" 292) 169)::
(nat_lit 176,zC "begin_body" 399 "Run.begin_body" 400 401 122 2 3 171 181 172 173 174 175 405 122 406)::
(nat_lit 177,zG "begin_body" "Run.begin_body" (xg (top 17) 9) .none .none (.str "toll.runs" 292) 176)::
(nat_lit 183,zC "follow" 408 "Run.follow" 409 410 133 3 3 178 181 179 180 181 182 415 133 416)::
(nat_lit 184,zG "follow" "Run.follow" (xg (top 17) 10) .none .none (.str "toll.runs" 292) 183)::
(nat_lit 190,zC "bring" 418 "Run.bring" 419 420 141 2 3 185 181 186 187 188 189 423 141 424)::
(nat_lit 191,zG "bring" "Run.bring" (xg (top 17) 11) .none .none (.str "toll.runs" 292) 190)::
(nat_lit 197,zC "choose" 426 "Run.choose" 427 428 146 2 3 192 181 193 194 195 196 432 146 433)::
(nat_lit 198,zG "choose" "Run.choose" (xg (top 17) 12) .none .none (.str "toll.runs" 292) 197)::
(nat_lit 204,zC "begin_value" 435 "Run.begin_value" 436 437 151 2 3 199 181 200 201 202 203 441 151 442)::
(nat_lit 205,zG "begin_value" "Run.begin_value" (xg (top 17) 13) .none .none (.str "toll.runs" 292) 204)::
(nat_lit 211,zC "apply" 444 "Run.apply" 445 446 166 2 3 206 181 207 208 209 210 451 166 452)::
(nat_lit 212,zG "apply" "Run.apply" (xg (top 17) 14) .none .none (.str "toll.runs" 292) 211)::
(nat_lit 218,zC "make" 454 "Run.make" 455 456 179 3 3 213 181 214 215 216 217 460 179 461)::
(nat_lit 219,zG "make" "Run.make" (xg (top 17) 15) .none .none (.str "toll.runs" 292) 218)::
(nat_lit 223,⟨(.type "code"),none,(.fields #[(.str "enter" 463),(.str "Run.enter" 464),(.str "/claim/cut.py" 465),(.int 185 0),(.int 3 0),(.int 0 0),(.int 0 0),(.int 3 0),(.ref 220),(.bool true),(.int 181 0),(.ref 221),.none,.none,.none,(.ref 222),(.int 466 0),(.int 185 0),(.str "/claim/cut.py" 467)]),#[]⟩)::
(nat_lit 224,zG "enter" "Run.enter" (xg (top 17) 16) .none .none (.str "toll.runs" 292) 223)::
(nat_lit 230,zC "leave" 469 "Run.leave" 470 471 197 1 3 225 181 226 227 228 229 474 197 475)::
(nat_lit 231,zG "leave" "Run.leave" (xg (top 17) 17) .none .none (.str "toll.runs" 292) 230)::
(nat_lit 232,⟨(.type "tuple"),none,(.seq #[(.str "calls" 477),(.str "frames" 478),(.str "functions" 479),(.str "is_cut" 480),(.str "most" 481),(.str "ready" 482),(.str "steps" 483),(.str "tasks" 484)] 0),#[]⟩)::
(nat_lit 233,⟨(.type "dict"),none,(.dict #[zE P "__module__" 323 (.str "toll.runs" 292),zE P "__firstlineno__" 327 (.int 63 326),zE P "__init__" 333 (.ref 116),zE P "told" 340 (.ref 123),zE P "go" 348 (.ref 130),zE P "step" 357 (.ref 137),zE P "own_step" 365 (.ref 144),zE P "standing" 373 (.ref 151),zE P "stand" 383 (.ref 158),zE P "taken" 392 (.ref 165),zE P "behind" 398 (.ref 170),zE P "begin_body" 407 (.ref 177),zE P "follow" 417 (.ref 184),zE P "bring" 425 (.ref 191),zE P "choose" 434 (.ref 198),zE P "begin_value" 443 (.ref 205),zE P "apply" 453 (.ref 212),zE P "make" 462 (.ref 219),zE P "enter" 468 (.ref 224),zE P "leave" 476 (.ref 231),zE P "__static_attributes__" 485 (.ref 232),zE P "__dict__" 487 (.ref 235),zE P "__weakref__" 489 (.ref 236),zE P "__doc__" 490 .none] 4),#[]⟩)::
(nat_lit 234,⟨(.type "type"),none,(.cls ⟨"Run",[(.type "object")],[(.ref 234),(.type "object")],233,"Run",true,[],[],false,none,false⟩),#[none,none,(some (.str "Run" 316)),(some (.str "Run" 324)),(some (.builtin "object.__new__")),(some (.bool true))]⟩)::
(nat_lit 235,⟨(.type "getset_descriptor"),none,(.fields #[(.str "__dict__" 486),(.ref 234),(.builtin "function.__dict__"),(.builtin "function.__dict__#set")]),#[]⟩)::
(nat_lit 236,⟨(.type "getset_descriptor"),none,(.fields #[(.str "__weakref__" 488),(.ref 234),(.builtin "ExceptionGroup.__weakref__"),.none]),#[]⟩)::
(nat_lit 244,zC "_law_cell_at" 495 "_law_cell_at" 496 497 201 2 3 239 181 240 241 242 243 500 201 501)::
(nat_lit 245,zF "_law_cell_at" (top 19) "law_toll_k16_cut_deep_and_great" 493 244)::
(nat_lit 251,zC "_law_number" 503 "_law_number" 504 505 205 1 3 246 181 247 248 249 250 507 205 508)::
(nat_lit 252,zF "_law_number" (top 20) "law_toll_k16_cut_deep_and_great" 493 251)::
(nat_lit 256,⟨(.type "code"),none,(.fields #[(.str "_law_names" 510),(.str "_law_names" 511),(.str "/claim/cut.py" 512),(.int 207 0),(.int 2 0),(.int 0 0),(.int 0 0),(.int 3 0),(.ref 253),(.bool true),(.int 181 0),(.ref 254),.none,.none,.none,(.ref 255),(.int 513 0),(.int 207 0),(.str "/claim/cut.py" 514)]),#[]⟩)::
(nat_lit 257,zF "_law_names" (top 21) "law_toll_k16_cut_deep_and_great" 493 256)::
(nat_lit 263,zC "_law_program" 516 "_law_program" 517 518 218 3 3 258 181 259 260 261 262 533 218 534)::
(nat_lit 264,zF "_law_program" (top 22) "law_toll_k16_cut_deep_and_great" 493 263)::
(nat_lit 268,⟨(.type "code"),none,(.fields #[(.str "_law_next" 536),(.str "_law_next" 537),(.str "/claim/cut.py" 538),(.int 238 0),(.int 4 0),(.int 0 0),(.int 0 0),(.int 3 0),(.ref 265),(.bool true),(.int 181 0),(.ref 266),.none,.none,.none,(.ref 267),(.int 539 0),(.int 238 0),(.str "/claim/cut.py" 540)]),#[]⟩)::
(nat_lit 269,zF "_law_next" (top 23) "law_toll_k16_cut_deep_and_great" 493 268)::
(nat_lit 273,⟨(.type "code"),none,(.fields #[(.str "_law_inner" 542),(.str "_law_inner" 543),(.str "/claim/cut.py" 544),(.int 249 0),(.int 4 0),(.int 0 0),(.int 0 0),(.int 3 0),(.ref 270),(.bool true),(.int 181 0),(.ref 271),.none,.none,.none,(.ref 272),(.int 545 0),(.int 249 0),(.str "/claim/cut.py" 546)]),#[]⟩)::
(nat_lit 274,zF "_law_inner" (top 24) "law_toll_k16_cut_deep_and_great" 493 273)::
(nat_lit 280,zC "_law_over" 548 "_law_over" 549 550 259 3 3 275 181 276 277 278 279 554 259 555)::
(nat_lit 281,zF "_law_over" (top 25) "law_toll_k16_cut_deep_and_great" 493 280)::
(nat_lit 287,zC "_law_due" 557 "_law_due" 558 559 261 6 3 282 181 283 284 285 286 569 261 570)::
(nat_lit 288,zF "_law_due" (top 26) "law_toll_k16_cut_deep_and_great" 493 287)::
(nat_lit 294,zC "_law_whole" 572 "_law_whole" 573 574 273 1 3 289 181 290 291 292 293 576 273 577)::
(nat_lit 295,zF "_law_whole" (top 27) "law_toll_k16_cut_deep_and_great" 493 294)::
(nat_lit 299,⟨(.type "code"),none,(.fields #[(.str "_law_told" 579),(.str "_law_told" 580),(.str "/claim/cut.py" 581),(.int 275 0),(.int 3 0),(.int 0 0),(.int 0 0),(.int 3 0),(.ref 296),(.bool true),(.int 181 0),(.ref 297),.none,.none,.none,(.ref 298),(.int 582 0),(.int 275 0),(.str "/claim/cut.py" 583)]),#[]⟩)::
(nat_lit 300,zF "_law_told" (top 28) "law_toll_k16_cut_deep_and_great" 493 299)::
(nat_lit 306,zC "_law_doubling" 585 "_law_doubling" 586 587 292 1 3 301 181 302 303 304 305 595 292 596)::
(nat_lit 307,zF "_law_doubling" (top 29) "law_toll_k16_cut_deep_and_great" 493 306)::
(nat_lit 313,zC "_law_doubled" 598 "_law_doubled" 599 600 297 4 3 308 181 309 310 311 312 607 297 608)::
(nat_lit 314,zF "_law_doubled" (top 30) "law_toll_k16_cut_deep_and_great" 493 313)::
(nat_lit 318,⟨(.type "code"),none,(.fields #[(.str "_law_doubled_told" 610),(.str "_law_doubled_told" 611),(.str "/claim/cut.py" 612),(.int 307 0),(.int 3 0),(.int 0 0),(.int 0 0),(.int 3 0),(.ref 315),(.bool true),(.int 181 0),(.ref 316),.none,.none,.none,(.ref 317),(.int 613 0),(.int 307 0),(.str "/claim/cut.py" 614)]),#[]⟩)::
(nat_lit 319,zF "_law_doubled_told" (top 31) "law_toll_k16_cut_deep_and_great" 493 318)::
(nat_lit 323,⟨(.type "code"),none,(.fields #[(.str "law" 616),(.str "law" 617),(.str "/claim/cut.py" 618),(.int 325 0),(.int 1 0),(.int 0 0),(.int 0 0),(.int 3 0),(.ref 320),(.bool true),(.int 181 0),(.ref 321),.none,.none,.none,(.ref 322),(.int 619 0),(.int 325 0),(.str "/claim/cut.py" 620)]),#[]⟩)::
(nat_lit 324,zF "law" (top 32) "law_toll_k16_cut_deep_and_great" 493 323)::[]
def zA:List Addr:=2::3::15::22::23::24::25::28::35::36::37::40::47::48::49::57::58::64::65::69::70::76::77::83::84::90::91::92::98::99::103::104::115::116::122::123::129::130::136::137::143::144::150::151::157::158::164::165::169::170::176::177::183::184::190::191::197::198::204::205::211::212::218::219::223::224::230::231::232::233::234::235::236::244::245::251::252::256::257::263::264::268::269::273::274::280::281::287::288::294::295::299::300::306::307::313::314::318::319::323::324::[]
def zAK (P:Params):zA=(zK P).map (·.1):=by kernel_rfl
def zq:Program:={ PySem.Challenge.pw_toll_k16_cut_deep_and_great with main:={ PySem.Challenge.pw_toll_k16_cut_deep_and_great.main with body:=[1,2,3,5,6,8,9,10,11,13,14,16,17,19,20,21,22,23,24,25,26,27,28,29,30,31,32].filterMap λi=>PySem.Challenge.pw_toll_k16_cut_deep_and_great.main.body[i]? } }
abbrev zX (s:Shared):Bool:=xlAt zq [] s && recOk (RowW.records PySem.Challenge.rw_toll_k16_cut_deep_and_great.row.toRowW) s
abbrev zP (w:World):Prop:=Option.map (λs=>(Fast.tw4187177175401517315 zq ["trace"] (Fast.tw5923862056798008813 PySem.Challenge.pw_toll_k16_cut_deep_and_great.main.body) zX true s,zA.map s.heap.get?)) (openEnds Fast.tw14364793385576792824 PySem.Challenge.pw_toll_k16_cut_deep_and_great w 4346)=some (openGood zq ["trace"],(zK w.params).map λp=>some p.2)
def hl0 (w:World):zP w:=by delta zP openEnds topFrom; rw [Fast.te14082659384304107361]; kernel_rfl
end
abbrev Key:=Sum Int Str
def Uc:Key->Value->Bool
 | .inl k,v=>Value.isInt k v
 | .inr x,v=>Value.isStrOf x v
def keyH (w:World):Key->Int
 | .inl k=>hashInt k
 | .inr x=>hashStr w x
def xf:∀ {k:Key} {v:Value},Uc k v=true->(∃ i t,k=Sum.inl i /\ v=Value.int i t) \/ (∃ x t,k=Sum.inr x /\ v=Value.str x t)
 | .inl i,v,h=>by
  obtain ⟨t,e⟩:=Value.isInt_shape (k:=i) (v:=v) h
  exact .inl ⟨i,t,rfl,e⟩
 | .inr x,v,h=>by
  obtain ⟨t,e⟩:=Value.isStrOf_shape (x:=x) (v:=v) h
  exact .inr ⟨x,t,rfl,e⟩
def R5 (i:Int) (t:Tok):Uc (.inl i) (.int i t)=true:=by simp [Uc,Value.isInt]
def Sz (x:Str) (t:Tok):Uc (.inr x) (.str x t)=true:=by simp [Uc,Value.isStrOf]
def E3 (a b:Int):decide ((Sum.inl a:Key)=Sum.inl b)=(a == b):=by
 by_cases e:a=b
 ·subst e; simp
 ·have h:¬ (Sum.inl a:Key)=Sum.inl b:=λq=>e (Sum.inl.inj q)
  rw [decide_eq_false h]
  exact (beq_eq_false_iff_ne.mpr e).symm
def Fy (a b:Str):decide ((Sum.inr a:Key)=Sum.inr b)=decide (a=b):=by
 by_cases e:a=b
 ·subst e; simp
 ·have h:¬ (Sum.inr a:Key)=Sum.inr b:=λq=>e (Sum.inr.inj q)
  rw [decide_eq_false h,decide_eq_false e]
def E2 (a:Int) (b:Str):decide ((Sum.inl a:Key)=Sum.inr b)=false:=decide_eq_false (λq=>nomatch q)
def E1 (a:Str) (b:Int):decide ((Sum.inr a:Key)=Sum.inl b)=false:=decide_eq_false (λq=>nomatch q)
def yt (prog:Program) (w:World):PySem.KeyKind prog w Key where
 is:=Uc
 hash:=keyH w
 inj:=λv a b ha hb=>by
  rcases xf ha with ⟨i,t,rfl,rfl⟩ | ⟨x,t,rfl,rfl⟩
  ·rcases xf hb with ⟨j,u,rfl,e⟩ | ⟨y,u,rfl,e⟩
   ·injection e with e1 _; rw [e1]
   ·exact nomatch e
  ·rcases xf hb with ⟨j,u,rfl,e⟩ | ⟨y,u,rfl,e⟩
   ·exact nomatch e
   ·injection e with e1 _; rw [e1]
 byValue:=λk v h=>by
  rcases xf h with ⟨i,t,rfl,rfl⟩ | ⟨x,t,rfl,rfl⟩ <;> rfl
 pyHash:=λhv h=>by
  rcases xf hv with ⟨i,t,rfl,rfl⟩ | ⟨x,t,rfl,rfl⟩
  ·exact wpAny_pyHash_int h
  ·exact wpAny_pyHash_str h
 eqBool:=λhu hv h=>by
  rcases xf hu with ⟨i,t,rfl,rfl⟩ | ⟨x,t,rfl,rfl⟩
  ·rcases xf hv with ⟨j,u,rfl,rfl⟩ | ⟨y,u,rfl,rfl⟩
   ·rw [E3] at h; exact wpAny_eqBool_int h
   ·rw [E2] at h; exact SeqAt.EqAt.int_str i t y u _ _ _ _ h
  ·rcases xf hv with ⟨j,u,rfl,rfl⟩ | ⟨y,u,rfl,rfl⟩
   ·rw [E1] at h; exact SeqAt.EqAt.str_int x t j u _ _ _ _ h
   ·rw [Fy] at h; exact wpAny_eqBool_str h
 «strs»:=λk x t v h=>by
  rcases xf h with ⟨i,u,rfl,e⟩ | ⟨y,u,rfl,e⟩
  ·exact nomatch e
  ·injection e with e1 _
   subst e1
   cases v <;> rfl
def Xc (prog:Program) (w:World) (i:Int) (t:Tok):(yt prog w).is (.inl i) (.int i t)=true:=R5 i t
def jb (prog:Program) (w:World) (x:Str) (t:Tok):(yt prog w).is (.inr x) (.str x t)=true:=Sz x t
inductive V where
 | non | bl (b:Bool) | int (i:Int) | str (x:Str) | byt (b:Array UInt8) | flt (b:UInt64) | ref (a:Addr) | ty (n:String)
 deriving DecidableEq
def RelV:V->Value->Prop
 | .non,u=>u=Value.none
 | .bl b,u=>u=Value.bool b
 | .int i,u=>∃ t,u=Value.int i t
 | .str x,u=>∃ t,u=Value.str x t
 | .byt b,u=>∃ t,u=Value.bytes b t
 | .flt b,u=>∃ t,u=Value.float b t
 | .ref a,u=>u=Value.ref a
 | .ty n,u=>u=Value.type n
abbrev Vals:List V->List Value->Prop:=Paired RelV
def Vals.length {xs:List V} {us:List Value} (r:Vals xs us):xs.length=us.length:=Paired.length r
def Vals.get:∀ {xs:List V} {us:List Value} {i:Nat} {x:V},Vals xs us->xs[i]?=some x->∃ u,us[i]?=some u /\ RelV x u
 | _,_,_,_,.nil,e=>by simp at e
 | _,_,0,_,.cons r _,e=>by simp at e; subst e; exact ⟨_,rfl,r⟩
 | _,_,i + 1,x,.cons _ t,e=>by
  obtain ⟨u,h1,h2⟩:=Vals.get (i:=i) (x:=x) t (by simpa using e)
  exact ⟨u,by simpa using h1,h2⟩
def Vals.set {x:V} {u:Value} (r:RelV x u):∀ {xs:List V} {us:List Value} (i:Nat),Vals xs us->Vals (xs.set i x) (us.set i u)
 | _,_,_,.nil=>.nil
 | _,_,0,.cons _ t=>.cons r t
 | _,_,i + 1,.cons q t=>.cons q (Vals.set r i t)
def Vals.append:∀ {xs ys:List V} {us ws:List Value},Vals xs us->Vals ys ws->Vals (xs ++ ys) (us ++ ws)
 | _,_,_,_,.nil,s=>s
 | _,_,_,_,.cons r t,s=>.cons r (Vals.append t s)
def Vals.take:∀ {xs:List V} {us:List Value} (n:Nat),Vals xs us->Vals (xs.take n) (us.take n)
 | _,_,0,_=>.nil
 | _,_,_ + 1,.nil=>.nil
 | _,_,n + 1,.cons r t=>.cons r (Vals.take n t)
def Vals.drop:∀ {xs:List V} {us:List Value} (n:Nat),Vals xs us->Vals (xs.drop n) (us.drop n)
 | _,_,0,r=>r
 | _,_,_ + 1,.nil=>.nil
 | _,_,n + 1,.cons _ t=>Vals.drop n t
def RelO:Option V->Option Value->Prop
 | some v,some u=>RelV v u
 | none,none=>True
 | _,_=>False
def KV {κ:Type}:List (κ × V)->List (κ × Value)->Prop:=Paired λ(p:κ × V) (q:κ × Value)=>p.1=q.1 /\ RelV p.2 q.2
def kV:Key->V
 | .inl i=>.int i
 | .inr x=>.str x
inductive HO where
  | lst (xs:List V)
  | tup (xs:List V)
  | dK (kvs:List (Key × V)) | dT (kvs:List (List Key × V))
  | set (S:Int->Bool) (n:Nat)
  | ins (C dx:Addr) (fs:List (Str × V))
  | own (x:Addr)
  | xd (fs:List (Str × V))
  | met (f x:Addr)
  | rng (lo hi:Int)
  | frz (o:Obj) (u:HO)
  | tbl (ps:Array Value)
  | ext (φ:Heap->Prop)
abbrev Hp:=Addr->Option HO
def upd (H:Hp) (a:Addr) (o:HO):Hp:=λb=>if b=a then some o else H b
def zy {H:Hp} {a:Addr} {o:HO}:upd H a o a=some o:=by unfold upd; rw [if_pos rfl]
def y7 {H:Hp} {a b:Addr} {o:HO} (h:b ≠ a):upd H a o b=H b:=by unfold upd; rw [if_neg h]
def zr {H:Hp} {a b:Addr} {o:HO} (h:H a=some o) (h':H b=none):a ≠ b:=by
 intro e; subst e; rw [h] at h'; cases h'
section
variable (P:Program) (w:World)
def wu (H:Hp) (h:Heap) (a:Addr):HO->Prop
 | .lst xs=>xs.length <= sizeLine /\ ∃ (its:List Value) (n:Nat),Vals xs its /\ h.get? a=some { cls:=.type "list", data:=.seq its.toArray n }
 | .tup xs=>xs.length <= sizeLine /\ ∃ its:List Value,Vals xs its /\ IsTup h a its.toArray /\ ∃ o,h.get? a=some o /\ o.dict=none
 | .dK kvs=>kvs.length <= sizeLine /\ (a == sysModules)=false /\ ∃ vs,KV kvs vs /\ h.DictOf (yt P w) a vs
 | .dT kvs=>kvs.length <= sizeLine /\ (a == sysModules)=false /\ ∃ xs:List (List Key × Addr × Value),
   Paired (λ(p:List Key × V) (q:List Key × Addr × Value)=>p.1=q.1 /\ H q.2.1=some (.tup (p.1.map kV)) /\ RelV p.2 q.2.2) kvs xs /\
   ∃ o es ep,h.get? a=some o /\ o.ExactDict /\ o.data=.dict es ep /\ es.toList=xs.map (entryOfKey (tupleKind (yt P w))) /\ (xs.map (·.1)).Nodup
 | .set S n=>h.SetOf (intKind P w) a S n
 | .ins C dx fs=>H dx=some (.own a) /\ fs.length <= 1000 /\ dx ≠ a /\ h.get? a=some (W.instObj C dx) /\
   ∃ mA,h.Ns1 dx mA /\ (∀ f,RelO (fs.lookup f) (mA f)) /\ PySem.Within mA (fs.map (·.1))
 | .own _=>∃ o,h.get? a=some o
 | .xd fs=>∃ mA,h.Ns1 a mA /\ ∀ f,RelO (fs.lookup f) (mA f)
 | .rng lo hi=>∃ t u v,h.get? a=some { cls:=.type "range", data:=.fields #[.int lo t,.int hi u,.int 1 v] }
 | .frz o u=>h.get? a=some o /\ wu H h a u
 | .tbl ps=>h.get? a=some { cls:=.none,data:=.fields ps }
 | .met f x=>h.get? a=some (W.methodObj (.ref f) (.ref x))
 | .ext φ=>φ h /\ (∃ o,h.get? a=some o) /\ ∀ h1 h2:Heap,φ h1->(∀ o,h1.get? a=some o->h2.get? a=some o)->φ h2
def HOk (H:Hp) (h:Heap):Prop:=∀ a o,H a=some o->wu P w H h a o
end
variable {P:Program} {w:World} {H H':Hp} {h h':Heap} {a:Addr} {o:HO}
def wu.lt (x:wu P w H h a o):a < h.objs.size:=by
 cases o with
 | lst xs=>obtain ⟨_,_,_,_,e⟩:=x; exact zae e
 | tup xs=>obtain ⟨_,_,_,p⟩:=x; exact p.1.lt
 | dK kvs=>obtain ⟨_,_,_,_,o,_,_,e,_⟩:=x; exact zae e
 | dT kvs=>obtain ⟨_,_,_,_,o,_,_,e,_⟩:=x; exact zae e
 | set S n=>obtain ⟨o,_,_,_,e,_⟩:=x; exact zae e
 | ins C dx fs=>obtain ⟨_,_,_,e,_⟩:=x; exact zae e
 | own y=>obtain ⟨_,e⟩:=x; exact zae e
 | xd fs=>obtain ⟨_,⟨_,_,_,e,_⟩,_⟩:=x; exact zae e
 | rng lo hi=>obtain ⟨_,_,_,e⟩:=x; exact zae e
 | frz ob u=>obtain ⟨e,_⟩:=x; exact zae e
 | tbl ps=>exact zae (show h.get? a=some _ from x)
 | met f y=>exact zae (show h.get? a=some _ from x)
 | ext φ=>obtain ⟨_,⟨_,e⟩,_⟩:=x; exact zae e
def Paired.mapP {α β:Type} {F G:α->β->Prop}:∀ {l₁:List α} {l₂:List β},Paired F l₁ l₂->(∀ a b,F a b->G a b)->Paired G l₁ l₂
 | _,_,.nil,_=>.nil
 | _,_,.cons r t,f=>.cons (f _ _ r) (Paired.mapP t f)
def wu.stay (x:wu P w H h a o) (k:∀ b u,(b=a \/ H b=some (.own a))->h.get? b=some u->h'.get? b=some u)
  (ho:∀ b,H b=some (.own a)->H' b=some (.own a)) (ht:∀ b xs,H b=some (.tup xs)->H' b=some (.tup xs)):wu P w H' h' a o:=by
 induction o with
 | lst xs=>obtain ⟨z,its,n,r,e⟩:=x; exact ⟨z,its,n,r,k _ _ (.inl rfl) e⟩
 | tup xs=>obtain ⟨z,its,r,⟨ob,e,c⟩,od,ed,cd⟩:=x; exact ⟨z,its,r,⟨ob,k _ _ (.inl rfl) e,c⟩,od,k _ _ (.inl rfl) ed,cd⟩
 | dK kvs=>obtain ⟨z,y,vs,r,ob,es,ep,e,c⟩:=x; exact ⟨z,y,vs,r,ob,es,ep,k _ _ (.inl rfl) e,c⟩
 | dT kvs =>
  obtain ⟨z,y,xs,r,ob,es,ep,e,c⟩:=x
  exact ⟨z,y,xs,Paired.mapP r λp q z=>⟨z.1,ht _ _ z.2.1,z.2.2⟩,ob,es,ep,k _ _ (.inl rfl) e,c⟩
 | set S n=>obtain ⟨ob,es,ep,t,e,c⟩:=x; exact ⟨ob,es,ep,t,k _ _ (.inl rfl) e,c⟩
 | ins C dx fs =>
  obtain ⟨d,z,ne,e,mA,⟨od,es,ep,e2,c⟩,r⟩:=x
  exact ⟨ho _ d,z,ne,k _ _ (.inl rfl) e,mA,⟨od,es,ep,k _ _ (.inr d) e2,c⟩,r⟩
 | own y=>obtain ⟨ob,e⟩:=x; exact ⟨ob,k _ _ (.inl rfl) e⟩
 | xd fs=>obtain ⟨mA,⟨od,es,ep,e,c⟩,r⟩:=x; exact ⟨mA,⟨od,es,ep,k _ _ (.inl rfl) e,c⟩,r⟩
 | rng lo hi=>obtain ⟨t,u,v,e⟩:=x; exact ⟨t,u,v,k _ _ (.inl rfl) e⟩
 | frz ob u ih=>obtain ⟨e,q⟩:=x; exact ⟨k _ _ (.inl rfl) e,ih q⟩
 | tbl ps =>
  have e:h.get? a=some { cls:=.none,data:=.fields ps }:=x
  show h'.get? a=some { cls:=.none,data:=.fields ps }
  exact k a _ (.inl rfl) e
 | met f y =>
  have e:h.get? a=some (W.methodObj (.ref f) (.ref y)):=x
  show h'.get? a=some (W.methodObj (.ref f) (.ref y))
  exact k a _ (.inl rfl) e
 | ext φ=>obtain ⟨p,⟨o,e⟩,st⟩:=x; exact ⟨st _ _ p λo q=>k _ _ (.inl rfl) q,⟨o,k _ _ (.inl rfl) e⟩,st⟩
def HOk.lt (x:HOk P w H h) (e:H a=some o):a < h.objs.size:=(x a o e).lt
def HOk.fresh (x:HOk P w H h) (e:h.objs.size <= a):H a=none:=by
 cases q:H a with
 | none=>rfl
 | some u=>exact absurd (Nat.lt_of_lt_of_le (x.lt q) e) (Nat.lt_irrefl _)
def HOk.kept (x:HOk P w H h) (k:∀ b u,h.get? b=some u->h'.get? b=some u):HOk P w H h':=λa o e =>
 (x a o e).stay (λb u _ q=>k b u q) (λ_ q=>q) λ_ _ q=>q
def HOk.laid (x:HOk P w H h) (k:∀ b u,h.get? b=some u->h'.get? b=some u) (hp:h.objs.size <= a) (new:wu P w (upd H a o) h' a o):HOk P w (upd H a o) h':=λb u e=>by
 have hn:=x.fresh hp
 by_cases hb:b=a
 ·subst hb; rw [zy] at e; cases e; exact new
 ·rw [y7 hb] at e
  exact (x b u e).stay (λc v _ q=>k c v q) (λc q=>by rw [y7 (zr q hn)]; exact q) λc xs q=>by rw [y7 (zr q hn)]; exact q
def Rd (H:Hp) (a:Addr) (u:HO):Prop:=H a=some u \/ ∃ o,H a=some (.frz o u)
def Rd.ok {P:Program} {w:World} {H:Hp} {h:Heap} {a:Addr} {u:HO} (r:Rd H a u) (x:HOk P w H h):wu P w H h a u:=by
 rcases r with r | ⟨o,r⟩
 ·exact x a u r
 ·obtain ⟨_,q⟩:=x a _ r
  exact q
def Mut:Option HO->Prop
 | some (.lst _)=>True
 | some (.dK _)=>True
 | some (.dT _)=>True
 | some (.set _ _)=>True
 | some (.ins _ _ _)=>True
 | some (.ext _)=>True
 | _=>False
variable {x e:Addr} {o':HO}
def HOk.write (ok:HOk P w H h) (mu:Mut (H x)) (he:e=x \/ H e=some (.own x)) (k:∀ b u,b ≠ e->h.get? b=some u->h'.get? b=some u) (heo:∃ u,h'.get? e=some u)
  (new:wu P w (upd H x o') h' x o'):HOk P w (upd H x o') h':=λb u q=>by
 have nown:∀ c y,H c=some (.own y)->c ≠ x:=λc y r z=>by subst z; rw [r] at mu; exact mu
 have ntup:∀ c xs,H c=some (.tup xs)->c ≠ x:=λc xs r z=>by subst z; rw [r] at mu; exact mu
 by_cases hb:b=x
 ·subst hb; rw [zy] at q; cases q; exact new
 ·rw [y7 hb] at q
  by_cases hbe:b=e
  ·have q':H b=some (.own x):=by
    rcases he with z | z
    ·exact absurd (hbe.trans z) hb
    ·rw [hbe]; exact z
   rw [q] at q'; cases q'
   obtain ⟨v,hv⟩:=heo
   exact ⟨v,by rw [hbe]; exact hv⟩
  ·refine (ok b u q).stay (λc v hc r=>k c v ?_ r) (λc r=>by rw [y7 (nown c b r)]; exact r) λc xs r=>by rw [y7 (ntup c xs r)]; exact r
   rcases hc with rfl | hc
   ·exact hbe
   ·rintro rfl
    rcases he with z | z
    ·exact nown c b hc z
    ·rw [hc] at z; cases z; exact hb rfl
structure Un (fs ex:List Addr) (H H':Hp) (h h':Heap):Prop where
 keep:∀ b o,h.get? b=some o->H b=none->b ∉ fs->b ∉ ex->h'.get? b=some o
 slot:∀ b o,h.get? b=some o->H b=none->b ∈ fs->b ∉ ex->∃ sl,h'.get? b=some { o with slots:=sl }
 free:∀ b o,h.get? b=some o->H b=none->b ∉ ex->H' b=none
 there:∀ b o,h.get? b=some o->b ∉ ex->∃ o',h'.get? b=some o'
 tups:∀ b xs,H b=some (.tup xs)->H' b=some (.tup xs)
 frzs:∀ b o u,H b=some (.frz o u)->H' b=some (.frz o u)
 tbls:∀ b ps,H b=some (.tbl ps)->∃ more,H' b=some (.tbl (ps ++ more))
section
variable {fs ex:List Addr} {H1 H2:Hp} {h1 h2:Heap}
def Un.any (u:Un fs ex H H1 h h1) {b:Addr} {ob:Obj} (q:h.get? b=some ob) (n:H b=none) (hx:b ∉ ex):∃ sl,h1.get? b=some { ob with slots:=sl }:=by
 by_cases hb:b ∈ fs
 ·exact u.slot b ob q n hb hx
 ·exact ⟨ob.slots,u.keep b ob q n hb hx⟩
def Un.trans (a:Un fs ex H H1 h h1) (b:Un fs ex H1 H2 h1 h2):Un fs ex H H2 h h2 where
 keep:=λc ob q n hc hx=>b.keep c ob (a.keep c ob q n hc hx) (a.free c ob q n hx) hc hx
 slot:=λc ob q n hc hx=>by
  obtain ⟨sl,e1⟩:=a.slot c ob q n hc hx
  obtain ⟨sl',e2⟩:=b.slot c _ e1 (a.free c ob q n hx) hc hx
  exact ⟨sl',e2⟩
 free:=λc ob q n hx=>by
  obtain ⟨o',e1⟩:=a.there c ob q hx
  exact b.free c o' e1 (a.free c ob q n hx) hx
 there:=λc ob q hx=>by
  obtain ⟨o',e1⟩:=a.there c ob q hx
  exact b.there c o' e1 hx
 tups:=λc xs q=>b.tups c xs (a.tups c xs q)
 frzs:=λc ob xs q=>b.frzs c ob xs (a.frzs c ob xs q)
 tbls:=λc ps q=>by
  obtain ⟨m1,e1⟩:=a.tbls c ps q
  obtain ⟨m2,e2⟩:=b.tbls c _ e1
  exact ⟨m1 ++ m2,by rw [e2,Array.append_assoc]⟩
def Un.kept (k:∀ b u,h.get? b=some u->h'.get? b=some u):Un fs ex H H h h' :=
 ⟨λb ob q _ _ _=>k b ob q,λb ob q _ _ _=>⟨ob.slots,k b ob q⟩,λ_ _ _ n _=>n,λb ob q _=>⟨ob,k b ob q⟩,λ_ _ q=>q,λ_ _ _ q=>q,λ_ ps q=>⟨#[],by rw [q]; simp⟩⟩
def Un.refl:Un fs ex H H h h:=Un.kept λ_ _ q=>q
def Un.laid (k:∀ b u,h.get? b=some u->h'.get? b=some u) (hp:h.objs.size <= a) (hn:H a=none):Un fs ex H (upd H a o) h h' where
 keep:=λb u q _ _ _=>k b u q
 slot:=λb u q _ _ _=>⟨u.slots,k b u q⟩
 free:=λb u q n _=>by rw [y7 (Nat.ne_of_lt (Nat.lt_of_lt_of_le (zae q) hp))]; exact n
 there:=λb u q _=>⟨u,k b u q⟩
 tups:=λb xs q=>by rw [y7 (zr q hn)]; exact q
 frzs:=λb u xs q=>by rw [y7 (zr q hn)]; exact q
 tbls:=λb ps q=>⟨#[],by rw [y7 (zr q hn),q]; simp⟩
def Un.write (mu:Mut (H x)) (he:e=x \/ H e=some (.own x)) (k:∀ b u,b ≠ e->h.get? b=some u->h'.get? b=some u) (heo:∃ u,h'.get? e=some u):Un fs ex H (upd H x o) h h':=by
 have hx:∀ b,H b=none->b ≠ x:=λb n z=>by subst z; rw [n] at mu; exact mu
 have hb:∀ b,H b=none->b ≠ e:=λb n z=>by
  subst z
  rcases he with r | r
  ·exact hx b n r
  ·rw [n] at r; cases r
 have hm:∀ b u,H b=some u->¬ Mut (some u)->b ≠ x:=λb u q nm z=>by subst z; rw [q] at mu; exact nm mu
 refine ⟨λb u q n _ _=>k b u (hb b n) q,λb u q n _ _=>⟨u.slots,k b u (hb b n) q⟩,λb u q n _=>by rw [y7 (hx b n)]; exact n,λb u q _=>?_,
  λb xs q=>by rw [y7 (hm b _ q λz=>z)]; exact q,λb u xs q=>by rw [y7 (hm b _ q λz=>z)]; exact q,λb ps q=>⟨#[],by rw [y7 (hm b _ q λz=>z),q]; simp⟩⟩
 by_cases hbe:b=e
 ·subst hbe; exact heo
 ·exact ⟨u,k b u hbe q⟩
end
def trk (h:Heap) (H:Hp):List Addr:=(List.range h.objs.size).filter λa=>(H a).isSome
def hidT (h:Heap) (H:Hp):Heap:=W.hideAll h (trk h H)
def R8 (h:Heap) (H:Hp):(hidT h H).objs.size=h.objs.size:=W.hideAll_size _ _
def Oc {h:Heap} {H:Hp} {b:Addr} {o:Obj} (e:h.get? b=some o) (n:H b=none):(hidT h H).get? b=some o :=
 W.hideAll_get _ e λhm=>by
  have q:(H b).isSome=true:=(List.mem_filter.mp hm).2
  rw [n] at q; simp at q
def Kn {h:Heap} {H:Hp} {b:Addr} {o:Obj} (e:(hidT h H).get? b=some o):h.get? b=some o /\ H b=none:=by
 have e':h.get? b=some o:=W.of_hideAll (trk h H) e
 refine ⟨e',?_⟩
 cases q:H b with
 | none=>rfl
 | some x =>
  have hm:b ∈ trk h H:=List.mem_filter.mpr ⟨List.mem_range.mpr (zae e'),by simp [q]⟩
  have z:(hidT h H).get? b=none:=W.hideAll_none (trk h H) hm
  rw [z] at e; cases e
def Js (g h:Heap) (L:Addr):List (Addr × Obj):=(List.range h.objs.size).filterMap λa=>if a=L \/ (g.get? a).isSome=true then none else (h.get? a).map λo=>(a,o)
def rest (g h:Heap) (L d:Addr):List (Addr × Obj):=(Js g h L).filter λp=>decide (p.1 ≠ d)
structure Mod (K:W.Frag) (mg:Str->Option Value) (base:Heap):Prop where
 kin:K.In base
 glob:base.Ns mainGlobals mg
 blt:∃ mb,base.Ns builtinsNs mb /\ ∀ x:Str,x ≠ "__name__"->mb x=bootBuiltins x
 nolimit:base.NoLimit
structure Cx where
 prog:Program
 w:World
 K:W.Frag
 mg:Str->Option Value
 base:Heap
 A:Around
 N:List Str
 s₀:Shared
 H₀:Hp
 env:Env
 outer:List Env
 stack:List Env
 ex:List Addr
 fn:Str->Bool
 calm:Bool
 pn:List (Addr × Obj)
 xe:Value->Shared->Prop
def frs (l:List Env):List Addr:=l.filterMap (·.frame)
abbrev Cx.fs (X:Cx):List Addr:=frs X.outer
def Vis (sc:Scope) (x:Str):Prop:=sc.names.lookup x=some .local \/ sc.names.lookup x=some .cell \/ sc.names.lookup x=some .free
def Loc (sc:Scope) (x:Str):Prop:=sc.names.lookup x=some .local \/ sc.names.lookup x=some .cell
def Look (env:Env) (h:Heap) (m:Str->Option Value) (x:Str) (u:Value):Prop :=
 (env.kindOf x=some .local /\ m x=some u) \/ ((env.kindOf x=some .cell \/ env.kindOf x=some .free) /\ ∃ c,env.cells.lookup x=some c /\ h.IsCell c (some u))
structure Cx.Ok (X:Cx):Prop where
 mod:Mod X.K X.mg X.base
 kind:X.env.scope.kind=.function
 glob:X.env.globals=mainGlobals
 blt:X.env.builtins=builtinsNs
 above:X.s₀.heap.objs.size <= X.env.locals
 inj:∀ x y c,X.env.cells.lookup x=some c->X.env.cells.lookup y=some c->x=y
 has:∀ x,(X.env.kindOf x=some .cell \/ X.env.kindOf x=some .free)->∃ c,X.env.cells.lookup x=some c
 cab:∀ x c,X.fn x=true->X.env.cells.lookup x=some c->X.s₀.heap.objs.size <= c
 hd:X.calm=true->X.A.handled=none
 frames:X.A.frames=some X.stack
 stk:X.stack=X.outer \/ (X.stack=X.env :: X.outer /\ X.env.frame=some X.env.locals)
 exf:∀ b ∈ X.ex,b ≠ X.env.locals /\ ∀ x c,X.env.cells.lookup x=some c->c ≠ b
 bs:∀ b o,X.base.get? b=some o->X.s₀.heap.get? b=some o /\ X.H₀ b=none
 bsz:X.base.objs.size <= X.s₀.heap.objs.size
 noex:∀ b o,X.base.get? b=some o->b ∉ X.ex
 exfs:∀ b ∈ X.ex,b ∉ X.fs
 funs:X.s₀.heap.FunFrames X.base X.outer
 frf:∀ b ∈ X.fs,X.H₀ b=none
structure Inv (X:Cx) (pn:List (Addr × Obj)) (σ:List (Option V)) (H:Hp) (s:Shared):Prop where
 ok:X.Ok
 os:s.os=X.s₀.os
 bare:AllBare s.gens
 base:Un X.fs X.ex X.H₀ H X.s₀.heap s.heap
 loc:∃ m,s.heap.Ns X.env.locals m /\ ∀ (i:Nat) (x:Str) (v:V),X.N[i]?=some x->σ[i]?=some (some v)->Vis X.env.scope x->∃ u,RelV v u /\ Look X.env s.heap m x u
 cell:∀ x c,X.env.cells.lookup x=some c->∃ v,s.heap.IsCell c v
 free:H X.env.locals=none
 freeC:∀ x c,X.env.cells.lookup x=some c->H c=none
 pin:∀ p ∈ X.pn ++ pn,s.heap.get? p.1=some p.2 /\ H p.1=none /\ p.1 ≠ X.env.locals /\ p.1 ∉ X.fs /\ ∀ v,p.2.data ≠ .cell v
 hok:HOk X.prog X.w H s.heap
 len:σ.length=X.N.length
variable {X:Cx} {pn:List (Addr × Obj)} {σ:List (Option V)} {s:Shared}
def Cx.Ok.nofr (ok:X.Ok) {b:Addr} {o:Obj} (e:X.base.get? b=some o):b ∉ X.fs:=λhb=>by
 have:=(ok.funs.mem hb).1
 rw [e] at this; cases this
def Inv.bs (I:Inv X pn σ H s):∀ b o,X.base.get? b=some o->s.heap.get? b=some o /\ H b=none:=λb o e =>
 ⟨I.base.keep b o (I.ok.bs b o e).1 (I.ok.bs b o e).2 (I.ok.nofr e) (I.ok.noex b o e),I.base.free b o (I.ok.bs b o e).1 (I.ok.bs b o e).2 (I.ok.noex b o e)⟩
def Inv.bk (I:Inv X pn σ H s):∀ b o,X.base.get? b=some o->s.heap.get? b=some o:=λb o e=>(I.bs b o e).1
def Inv.mod (I:Inv X pn σ H s):Mod X.K X.mg X.base:=I.ok.mod
def Inv.kIn (I:Inv X pn σ H s):X.K.In s.heap:=I.ok.mod.kin.keeps I.bk
def Inv.lt (I:Inv X pn σ H s):X.env.locals < s.heap.objs.size:=let ⟨_,hn,_⟩:=I.loc; hn.lt
def Inv.sz (I:Inv X pn σ H s):X.s₀.heap.objs.size <= s.heap.objs.size:=zak I.ok.above (Nat.le_of_lt I.lt)
def Inv.nofs (I:Inv X pn σ H s) {a:Addr} (h:s.heap.objs.size <= a):a ∉ X.fs:=λhb=>by
 obtain ⟨_,o,ho,_⟩:=I.ok.funs.mem hb
 exact absurd (Nat.lt_of_lt_of_le (zae ho) (zak I.sz h)) (Nat.lt_irrefl _)
def Inv.cne (I:Inv X pn σ H s):∀ x c,X.env.cells.lookup x=some c->c ≠ X.env.locals:=λx c e z=>by
 obtain ⟨v,o,ho,hd⟩:=I.cell x c e
 obtain ⟨m,⟨o',es,ep,ho',hd',_⟩,_⟩:=I.loc
 rw [z,ho'] at ho; cases ho; rw [hd'] at hd; cases hd
def Inv.funs (I:Inv X pn σ H s):s.heap.FunFrames X.base X.outer:=by
 have all:∀ (l:List Env),(∀ b ∈ frs l,b ∈ X.fs)->X.s₀.heap.FunFrames X.base l->s.heap.FunFrames X.base l:=by
  intro l
  induction l with
  | nil=>intro _ _; trivial
  | cons env r ih =>
   intro hs hl
   obtain ⟨hk,⟨L,o,hf,hn,ho,hd⟩,hr⟩:=hl
   have hL:L ∈ X.fs:=hs L (by unfold frs; rw [List.filterMap_cons,hf]; exact zao)
   obtain ⟨sl,e⟩:=I.base.slot L o ho (I.ok.frf L hL) hL λz=>I.ok.exfs L z hL
   exact ⟨hk,⟨L,_,hf,hn,e,hd⟩,ih (λb hb=>hs b (by unfold frs; rw [List.filterMap_cons,hf]; exact zal _ hb)) hr⟩
 exact all X.outer (λ_ hb=>hb) I.ok.funs
def Inv.stack (I:Inv X pn σ H s):s.heap.FunFrames X.base X.stack:=by
 rcases I.ok.stk with e | ⟨e,hf⟩
 ·rw [e]; exact I.funs
 ·rw [e]
  obtain ⟨m,hn,_⟩:=I.loc
  refine .cons (by rw [I.ok.kind]; decide) hf hn ?_ I.funs
  exact Heap.get?_none_of_le (zak I.ok.bsz I.ok.above)
def Inv.stkSub (I:Inv X pn σ H s):∀ b ∈ frs X.stack,b ∈ X.env.locals :: X.fs:=λb hb=>by
 rcases I.ok.stk with e | ⟨e,hf⟩
 ·rw [e] at hb; exact zal _ hb
 ·rw [e] at hb
  unfold frs at hb
  rw [List.filterMap_cons,hf] at hb
  exact hb
def Inv.stkFree (I:Inv X pn σ H s):∀ b ∈ frs X.stack,H b=none:=λb hb=>by
 rcases zam.mp (I.stkSub b hb) with e | hb
 ·rw [e]; exact I.free
 ·obtain ⟨_,o,ho,_⟩:=I.ok.funs.mem hb
  exact I.base.free b o ho (I.ok.frf b hb) λz=>I.ok.exfs b z hb
def Inv.step {g':Array GenState} {t':Nat} {d':Drawn} {ch:List Addr} (I:Inv X pn σ H s)
  (hch:∀ b ∈ ch,(b ∈ X.ex \/ X.s₀.heap.objs.size <= b) /\ b ≠ X.env.locals /\ (∀ x c,X.env.cells.lookup x=some c->c ≠ b) /\ ∀ p ∈ X.pn ++ pn,p.1 ≠ b)
  (keep:∀ b o,b ≠ X.env.locals->b ∉ X.fs->b ∉ ch->s.heap.get? b=some o->H b=none->h'.get? b=some o)
  (slot:∀ b o,b ≠ X.env.locals->b ∈ X.fs->b ∉ ch->s.heap.get? b=some o->H b=none->∃ sl,h'.get? b=some { o with slots:=sl }) (free:∀ b o,b ∉ ch->s.heap.get? b=some o->H b=none->H' b=none)
  (there:∀ b o,b ∉ ch->s.heap.get? b=some o->∃ o',h'.get? b=some o')
  (tups:∀ b xs,H b=some (.tup xs)->H' b=some (.tup xs)) (frzs:∀ b o u,H b=some (.frz o u)->H' b=some (.frz o u)) (tbls:∀ b ps,H b=some (.tbl ps)->∃ more,H' b=some (.tbl (ps ++ more)))
  (ns:∀ m,s.heap.Ns X.env.locals m->h'.Ns X.env.locals m) (hok:HOk X.prog X.w H' h') (hg:AllBare g') :
  Inv X pn σ H' { s with heap:=h',gens:=g',drawn:=d',toks:=t' }:=by
 have neL:∀ b o,X.s₀.heap.get? b=some o->b ≠ X.env.locals:=λb o e=>Nat.ne_of_lt (Nat.lt_of_lt_of_le (zae e) I.ok.above)
 have neC:∀ b o,X.s₀.heap.get? b=some o->b ∉ X.ex->b ∉ ch:=λb o e hx hb=>by
  rcases (hch b hb).1 with z | z
  ·exact hx z
  ·exact absurd (Nat.lt_of_lt_of_le (zae e) z) (Nat.lt_irrefl _)
 have cellK:∀ x c,X.env.cells.lookup x=some c->∀ v,s.heap.IsCell c v->h'.IsCell c v:=λx c e v ⟨o,ho,hd⟩=>by
  have nch:c ∉ ch:=λz=>(hch c z).2.2.1 x c e rfl
  by_cases hc:c ∈ X.fs
  ·obtain ⟨sl,q⟩:=slot c o (I.cne x c e) hc nch ho (I.freeC x c e)
   exact ⟨_,q,hd⟩
  ·exact ⟨o,keep c o (I.cne x c e) hc nch ho (I.freeC x c e),hd⟩
 refine ⟨I.ok,I.os,hg,⟨λb o e n hb hx=>?_,λb o e n hb hx=>?_,λb o e n hx=>?_,λb o e hx=>?_,λb xs e=>tups b xs (I.base.tups b xs e),λb o xs e=>frzs b o xs (I.base.frzs b o xs e),λb ps e=>?_⟩,?_,λx c e=>?_,?_,λx c e=>?_,λp hp=>?_,hok,I.len⟩
 ·exact keep b o (neL b o e) hb (neC b o e hx) (I.base.keep b o e n hb hx) (I.base.free b o e n hx)
 ·obtain ⟨sl,e1⟩:=I.base.slot b o e n hb hx
  obtain ⟨sl',e2⟩:=slot b _ (neL b o e) hb (neC b o e hx) e1 (I.base.free b o e n hx)
  exact ⟨sl',e2⟩
 ·obtain ⟨o',e1⟩:=I.base.there b o e hx
  exact free b o' (neC b o e hx) e1 (I.base.free b o e n hx)
 ·obtain ⟨o',e1⟩:=I.base.there b o e hx
  exact there b o' (neC b o e hx) e1
 ·obtain ⟨m1,e1⟩:=I.base.tbls b ps e
  obtain ⟨m2,e2⟩:=tbls b _ e1
  exact ⟨m1 ++ m2,by rw [e2,Array.append_assoc]⟩
 ·obtain ⟨m,hn,hl⟩:=I.loc
  refine ⟨m,ns m hn,λi x v e1 e2 e3=>?_⟩
  obtain ⟨u,r,l⟩:=hl i x v e1 e2 e3
  refine ⟨u,r,?_⟩
  rcases l with l | ⟨k,c,e,z⟩
  ·exact .inl l
  ·exact .inr ⟨k,c,e,cellK x c e _ z⟩
 ·obtain ⟨v,z⟩:=I.cell x c e
  exact ⟨v,cellK x c e v z⟩
 ·obtain ⟨m,⟨o,_,_,ho,_⟩,_⟩:=I.loc
  exact free _ o (λz=>(hch _ z).2.1 rfl) ho I.free
 ·obtain ⟨v,o,ho,hd⟩:=I.cell x c e
  exact free c o (λz=>(hch c z).2.2.1 x c e rfl) ho (I.freeC x c e)
 ·obtain ⟨e,n,ne,nf,d⟩:=I.pin p hp
  have nch:p.1 ∉ ch:=λz=>(hch p.1 z).2.2.2 p hp rfl
  exact ⟨keep p.1 p.2 ne nf nch e n,free p.1 p.2 nch e n,ne,nf,d⟩
def Inv.un {t':Nat} (I:Inv X pn σ H s) (u:Un X.fs [] H H' s.heap h') (hok:HOk X.prog X.w H' h'):Inv X pn σ H' { s with heap:=h',toks:=t' }:=by
 obtain ⟨m,⟨o,es,ep,ho,r⟩,_⟩:=id I.loc
 obtain ⟨sl,hL⟩:=u.any ho I.free (by simp)
 exact I.step (g':=s.gens) (d':=s.drawn) (ch:=[]) (λ_ z=>nomatch z) (λb o _ hb _ e n=>u.keep b o e n hb (by simp)) (λb o _ hb _ e n=>u.slot b o e n hb (by simp)) (λb o _ e n=>u.free b o e n (by simp)) (λb o _ e=>u.there b o e (by simp)) u.tups u.frzs u.tbls (λm' hm=>by
  obtain ⟨o',es',ep',ho',r'⟩:=hm
  rw [ho] at ho'; cases ho'
  exact ⟨_,es',ep',hL,r'⟩) hok I.bare
def Inv.call {g':Array GenState} {t':Nat} {d':Drawn} {ch:List Addr} (I:Inv X pn σ H s) (u:Un (frs X.stack) ch H H' s.heap h') (hok:HOk X.prog X.w H' h') (hg:AllBare g')
  (hch:∀ b ∈ ch,(b ∈ X.ex \/ X.s₀.heap.objs.size <= b) /\ b ≠ X.env.locals /\ (∀ x c,X.env.cells.lookup x=some c->c ≠ b) /\ ∀ p ∈ X.pn ++ pn,p.1 ≠ b) :
  Inv X pn σ H' { s with heap:=h',gens:=g',drawn:=d',toks:=t' }:=by
 obtain ⟨m,⟨o,es,ep,ho,r⟩,_⟩:=id I.loc
 obtain ⟨sl,hL⟩:=u.any ho I.free λz=>(hch _ z).2.1 rfl
 exact I.step (ch:=ch) hch (λb o hL hb hc e n=>u.keep b o e n (λz=>(zam.mp (I.stkSub b z)).elim hL hb) hc) (λb o _ _ hc e n=>u.any e n hc) (λb o hc e n=>u.free b o e n hc) (λb o hc e=>u.there b o e hc) u.tups u.frzs u.tbls (λm' hm=>by
  obtain ⟨o',es',ep',ho',r'⟩:=hm
  rw [ho] at ho'; cases ho'
  exact ⟨_,es',ep',hL,r'⟩) hok hg
def Inv.turned {t':Nat} {it:Addr} (I:Inv X pn σ H s) (k:∀ b o,b ≠ it->s.heap.get? b=some o->h'.get? b=some o) (hn:H it=none) (hL:it ≠ X.env.locals)
  (h1:it ∈ X.ex \/ X.s₀.heap.objs.size <= it) (h2:∀ x c,X.env.cells.lookup x=some c->c ≠ it) (h3:∀ p ∈ X.pn ++ pn,p.1 ≠ it):Inv X pn σ H { s with heap:=h',toks:=t' }:=by
 have nit:∀ b u,H b=some u->b ≠ it:=λb u e z=>by rw [z,hn] at e; cases e
 refine I.step (g':=s.gens) (d':=s.drawn) (ch:=[it]) (λb hb=>?_) (λb o _ _ hc e _=>k b o (λz=>hc (by simp [z])) e) (λb o _ _ hc e _=>⟨o.slots,k b o (λz=>hc (by simp [z])) e⟩) (λ_ _ _ _ n=>n)
  (λb o hc e=>⟨o,k b o (λz=>hc (by simp [z])) e⟩) (λ_ _ e=>e) (λ_ _ _ e=>e) (λb ps e=>⟨#[],by rw [e]; simp⟩) (λm hm=>?_) (λb u e=>?_) I.bare
 ·have e:b=it:=by simpa using hb
  subst e
  exact ⟨h1,hL,h2,h3⟩
 ·obtain ⟨o,es,ep,ho,r⟩:=hm
  exact ⟨o,es,ep,k _ o (Ne.symm hL) ho,r⟩
 ·refine (I.hok b u e).stay (λc v hc q=>k c v ?_ q) (λ_ q=>q) λ_ _ q=>q
  rcases hc with z | z
  ·rw [z]; exact nit b u e
  ·exact nit c _ z
def Inv.tok (I:Inv X pn σ H s) (t:Nat):Inv X pn σ H { s with toks:=t }:=I.un (h':=s.heap) (t':=t) Un.refl I.hok
def Inv.kept {t':Nat} (I:Inv X pn σ H s) (k:∀ b u,s.heap.get? b=some u->h'.get? b=some u):Inv X pn σ H { s with heap:=h',toks:=t' }:=I.un (Un.kept k) (I.hok.kept k)
def Inv.laid {a:Addr} {o:HO} {t':Nat} (I:Inv X pn σ H s) (k:∀ b u,s.heap.get? b=some u->h'.get? b=some u) (hp:s.heap.objs.size <= a) (new:wu X.prog X.w (upd H a o) h' a o) :
  Inv X pn σ (upd H a o) { s with heap:=h',toks:=t' }:=I.un (Un.laid k hp (I.hok.fresh hp)) (I.hok.laid k hp new)
def Inv.write {x e:Addr} {o:HO} {t':Nat} (I:Inv X pn σ H s) (mu:Mut (H x)) (he:e=x \/ H e=some (.own x)) (k:∀ b u,b ≠ e->s.heap.get? b=some u->h'.get? b=some u) (heo:∃ u,h'.get? e=some u)
  (new:wu X.prog X.w (upd H x o) h' x o):Inv X pn σ (upd H x o) { s with heap:=h',toks:=t' }:=I.un (Un.write mu he k heo) (I.hok.write mu he k heo new)
def Inv.weak {σ':List (Option V)} (I:Inv X pn σ H s) (hl:σ'.length=σ.length) (w:∀ (i:Nat) v,σ'[i]?=some (some v)->σ[i]?=some (some v)):Inv X pn σ' H s :=
 ⟨I.ok,I.os,I.bare,I.base,let ⟨m,hn,hl'⟩:=I.loc; ⟨m,hn,λi x v e1 e2 e3=>hl' i x v e1 (w i v e2) e3⟩,I.cell,I.free,I.freeC,I.pin,I.hok,hl.trans I.len⟩
def Inv.pins_of {pins':List (Addr × Obj)} (I:Inv X pn σ H s) (h:∀ p ∈ pins',s.heap.get? p.1=some p.2 /\ H p.1=none /\ p.1 ≠ X.env.locals /\ p.1 ∉ X.fs /\ ∀ v,p.2.data ≠ .cell v):Inv X pins' σ H s :=
 ⟨I.ok,I.os,I.bare,I.base,I.loc,I.cell,I.free,I.freeC,λp hp=>(zas.mp hp).elim (λz=>I.pin p (List.mem_append_left _ z)) (h p),I.hok,I.len⟩
def V2 {N:List Str} (hN:N.Nodup) {i j:Nat} {x:Str} (a:N[i]?=some x) (b:N[j]?=some x):i=j:=by
 obtain ⟨h1,e1⟩:=zag.mp a
 obtain ⟨h2,e2⟩:=zag.mp b
 exact (List.getElem_inj hN).mp (e1.trans e2.symm)
def Zd {M:Model} {A:Around} {E:Value->Shared->Prop} {i:Nat} {x:Str} {v:V} {u:Value} {Q:Unit->Shared->Prop} (I:Inv X pn σ H s) (hN:X.N.Nodup) (hi:X.N[i]?=some x) (hx:Loc X.env.scope x) (r:RelV v u)
  (h:∀ s',Inv X pn (σ.set i (some v)) H s'->(∃ a,Heap.SameBut a s.heap s'.heap /\ (a=X.env.locals \/ X.env.cells.lookup x=some a))->Q () s') (hf:X.fn x=true \/ X.env.scope.names.lookup x=some .local:=by first | exact .inl rfl | exact .inr rfl | assumption):wpAny M A (storeName X.env x u) Q E s:=by
 obtain ⟨m,hn,hl⟩:=id I.loc
 have hcls:(X.env.scope.kind == .class || (X.env.scope.kind == .module && X.env.locals != X.env.globals))=false:=by rw [I.ok.kind]; rfl
 have hiσ:i < σ.length:=by rw [I.len]; exact (zag.mp hi).1
 have cne:=I.cne
 have tracked:∀ {a:Addr} {h':Heap},(∃ o,s.heap.get? a=some o /\ H a=none)->Heap.SameBut a s.heap h'->HOk X.prog X.w H h':=λ{a h'} ha hs b ob e=>by
  obtain ⟨_,_,hfree⟩:=ha
  refine (I.hok b ob e).stay (λc w' hc q=>(hs.2 c ?_).trans q) (λ_ q=>q) λ_ _ q=>q
  rintro rfl
  rcases hc with rfl | hc
  ·rw [hfree] at e; cases e
  ·rw [hfree] at hc; cases hc
 rcases hx with hk | hk
 ·refine wpAny_storeName_local hk hn (λh' hn' hs=>?_) hcls
  obtain ⟨oL,_,_,hoL,_⟩:=id hn
  refine h _ ⟨I.ok,I.os,I.bare,⟨λb o e n hb hx=>?_,λb o e n hb hx=>?_,I.base.free,λb o e hx=>?_,I.base.tups,I.base.frzs,I.base.tbls⟩,⟨_,hn',λj y v' e1 e2 e3=>?_⟩,λy c e=>?_,I.free,I.freeC,λp hp=>?_,tracked ⟨oL,hoL,I.free⟩ hs,by simpa using I.len⟩ ⟨_,hs,.inl rfl⟩
  ·exact (hs.2 b (Nat.ne_of_lt (Nat.lt_of_lt_of_le (zae e) I.ok.above))).trans (I.base.keep b o e n hb hx)
  ·obtain ⟨sl,e1⟩:=I.base.slot b o e n hb hx
   exact ⟨sl,(hs.2 b (Nat.ne_of_lt (Nat.lt_of_lt_of_le (zae e) I.ok.above))).trans e1⟩
  ·obtain ⟨o',e1⟩:=I.base.there b o e hx
   exact ⟨o',(hs.2 b (Nat.ne_of_lt (Nat.lt_of_lt_of_le (zae e) I.ok.above))).trans e1⟩
  ·by_cases hj:j=i
   ·subst hj
    rw [hi] at e1; cases e1
    rw [List.getElem?_set_self hiσ] at e2
    cases e2
    exact ⟨u,r,.inl ⟨hk,by simp⟩⟩
   ·rw [List.getElem?_set_ne (Ne.symm hj)] at e2
    obtain ⟨u',r',q⟩:=hl j y v' e1 e2 e3
    refine ⟨u',r',?_⟩
    rcases q with ⟨k,e⟩ | ⟨k,c,e,z⟩
    ·refine .inl ⟨k,?_⟩
     have:y ≠ x:=λe=>hj (V2 hN e1 (e ▸ hi))
     simp [this,e]
    ·exact .inr ⟨k,c,e,z.sameBut hs (cne y c e)⟩
  ·obtain ⟨w',z⟩:=I.cell y c e
   exact ⟨w',z.sameBut hs (cne y c e)⟩
  ·obtain ⟨e,n,ne,nf,d⟩:=I.pin p hp
   exact ⟨(hs.2 p.1 ne).trans e,n,ne,nf,d⟩
 ·have hfn:X.fn x=true:=by
   rcases hf with z | z
   ·exact z
   ·rw [z] at hk; cases hk
  obtain ⟨c,hc⟩:=I.ok.has x (.inl hk)
  obtain ⟨w',z⟩:=I.cell x c hc
  refine wpAny_storeName_cell I.ok.kind hk hc z (λh' hc' hs=>?_)
  obtain ⟨oc,hoc,hocd⟩:=id z
  refine h { s with heap:=h' } ⟨I.ok,I.os,I.bare,⟨λb o e n hb hx=>?_,λb o e n hb hx=>?_,I.base.free,λb o e hx=>?_,I.base.tups,I.base.frzs,I.base.tbls⟩,⟨m,hn.sameBut hs (Ne.symm (cne x c hc)),λj y v' e1 e2 e3=>?_⟩,λy c' e=>?_,I.free,I.freeC,λp hp=>?_,tracked ⟨oc,hoc,I.freeC x c hc⟩ hs,by simpa using I.len⟩ ⟨c,hs,.inr hc⟩
  ·exact (hs.2 b (Nat.ne_of_lt (Nat.lt_of_lt_of_le (zae e) (I.ok.cab x c hfn hc)))).trans (I.base.keep b o e n hb hx)
  ·obtain ⟨sl,e1⟩:=I.base.slot b o e n hb hx
   exact ⟨sl,(hs.2 b (Nat.ne_of_lt (Nat.lt_of_lt_of_le (zae e) (I.ok.cab x c hfn hc)))).trans e1⟩
  ·obtain ⟨o',e1⟩:=I.base.there b o e hx
   exact ⟨o',(hs.2 b (Nat.ne_of_lt (Nat.lt_of_lt_of_le (zae e) (I.ok.cab x c hfn hc)))).trans e1⟩
  ·by_cases hj:j=i
   ·subst hj
    rw [hi] at e1; cases e1
    rw [List.getElem?_set_self hiσ] at e2
    cases e2
    exact ⟨u,r,.inr ⟨.inl hk,c,hc,hc'⟩⟩
   ·rw [List.getElem?_set_ne (Ne.symm hj)] at e2
    obtain ⟨u',r',q⟩:=hl j y v' e1 e2 e3
    refine ⟨u',r',?_⟩
    rcases q with q | ⟨k,c',e,z'⟩
    ·exact .inl q
    ·refine .inr ⟨k,c',e,z'.sameBut hs ?_⟩
     rintro rfl
     exact hj (V2 hN e1 (I.ok.inj _ _ _ e hc ▸ hi))
  ·by_cases hcc:c'=c
   ·subst hcc; exact ⟨_,hc'⟩
   ·obtain ⟨w2,z2⟩:=I.cell y c' e
    exact ⟨w2,z2.sameBut hs hcc⟩
  ·obtain ⟨e,n,ne,nf,d⟩:=I.pin p hp
   refine ⟨(hs.2 p.1 ?_).trans e,n,ne,nf,d⟩
   intro q
   rw [q,hoc] at e
   have q':oc=p.2:=Option.some.inj e
   exact d w' (by rw [<- q']; exact hocd)
def du {M:Model} {A:Around} {E:Value->Shared->Prop} {i:Nat} {x:Str} {v:V} {u:Value} {Q:Unit->Shared->Prop} (I:Inv X pn σ H s) (hN:X.N.Nodup) (hi:X.N[i]?=some x) (hx:Loc X.env.scope x) (r:RelV v u)
  (h:∀ s',Inv X pn (σ.set i (some v)) H s'->Q () s') (hf:X.fn x=true \/ X.env.scope.names.lookup x=some .local:=by first | exact .inl rfl | exact .inr rfl | assumption):wpAny M A (storeName X.env x u) Q E s :=
 Zd I hN hi hx r (λs' I' _=>h s' I') hf
def Inv.call' {s':Shared} {ch:List Addr} (I:Inv X pn σ H s) (ho:s'.os=s.os) (u:Un (frs X.stack) ch H H' s.heap s'.heap) (hok:HOk X.prog X.w H' s'.heap) (hg:AllBare s'.gens)
  (hch:∀ b ∈ ch,(b ∈ X.ex \/ X.s₀.heap.objs.size <= b) /\ b ≠ X.env.locals /\ (∀ x c,X.env.cells.lookup x=some c->c ≠ b) /\ ∀ p ∈ X.pn ++ pn,p.1 ≠ b):Inv X pn σ H' s':=by
 obtain ⟨h',g',d',t',o'⟩:=s'
 have e:o'=s.os:=ho
 subst e
 exact I.call (g':=g') (t':=t') (d':=d') u hok hg hch
abbrev XK:=Value->Option Addr->Hp->Prop
abbrev St:=List (Option V)
abbrev VK:=V->Hp->Prop
abbrev TE:=St->Hp->VK->Prop
abbrev TT:=St->Hp->(Bool->Hp->Prop)->Prop
abbrev TA:=St->Hp->(List V->Hp->Prop)->Prop
structure Ends where
 nx:St->Hp->Prop
 rt:VK
 bk:St->Hp->Prop:=λ_ _=>False
 ct:St->Hp->Prop:=λ_ _=>False
abbrev TS:=Ends->St->Hp->Prop
def EP (X:Cx) (pn:List (Addr × Obj)) (σ:St) (Q:VK) (u:Value) (s':Shared):Prop:=∃ v H',Inv X pn σ H' s' /\ RelV v u /\ Q v H'
def TP (X:Cx) (pn:List (Addr × Obj)) (σ:St) (Q:Bool->Hp->Prop) (b:Bool) (s':Shared):Prop:=∃ H',Inv X pn σ H' s' /\ Q b H'
def AP (X:Cx) (pn:List (Addr × Obj)) (σ:St) (Q:List V->Hp->Prop) (us:List Value) (s':Shared):Prop:=∃ vs H',Inv X pn σ H' s' /\ Vals vs us /\ Q vs H'
def SP (X:Cx) (pn:List (Addr × Obj)) (D:Ends) (f:Flow) (s':Shared):Prop :=
 match f with
 | .next=>∃ σ' H',Inv X pn σ' H' s' /\ D.nx σ' H'
 | .brk=>∃ σ' H',Inv X pn σ' H' s' /\ D.bk σ' H'
 | .cont=>∃ σ' H',Inv X pn σ' H' s' /\ D.ct σ' H'
 | .ret u=>∃ v σ' H',Inv X pn σ' H' s' /\ RelV v u /\ D.rt v H'
def PE (X:Cx) (e:Expr) (t:TE):Prop :=
 ∀ (pn:List (Addr × Obj)) (s:Shared) (σ:St) (H:Hp) (Q:VK),Inv X pn σ H s->t σ H Q->wpAny (model X.prog X.w) X.A (eval e X.env) (EP X pn σ Q) X.xe s
def PT (X:Cx) (e:Expr) (t:TT):Prop :=
 ∀ (pn:List (Addr × Obj)) (s:Shared) (σ:St) (H:Hp) (Q:Bool->Hp->Prop),Inv X pn σ H s->t σ H Q->wpAny (model X.prog X.w) X.A (isTrue e X.env (eval e X.env)) (TP X pn σ Q) X.xe s
def PW (X:Cx) (e:Expr) (t:TT):Prop :=
 ∀ (whole:Sem Value) (pn:List (Addr × Obj)) (s:Shared) (σ:St) (H:Hp) (Q:Bool->Hp->Prop),Inv X pn σ H s->t σ H Q->wpAny (model X.prog X.w) X.A (isTrue e X.env whole) (TP X pn σ Q) X.xe s
def PW.pt {X:Cx} {e:Expr} {t:TT} (h:PW X e t):PT X e t:=h _
def PA (X:Cx) (es:List Expr) (t:TA):Prop :=
 ∀ (pos:Pos) (pn:List (Addr × Obj)) (s:Shared) (σ:St) (H:Hp) (Q:List V->Hp->Prop),Inv X pn σ H s->t σ H Q->wpAny (model X.prog X.w) X.A (spliced (backTo pos (starEach es X.env))) (AP X pn σ Q) X.xe s
def PS (X:Cx) (st:Stmt) (t:TS):Prop :=
 ∀ (pn:List (Addr × Obj)) (s:Shared) (σ:St) (H:Hp) (D:Ends),Inv X pn σ H s->t D σ H->wpAny (model X.prog X.w) X.A (exec st X.env) (SP X pn D) X.xe s
def PSs (X:Cx) (st:List Stmt) (t:TS):Prop :=
 ∀ (pn:List (Addr × Obj)) (s:Shared) (σ:St) (H:Hp) (D:Ends),Inv X pn σ H s->t D σ H->wpAny (model X.prog X.w) X.A (execs st X.env) (SP X pn D) X.xe s
def thn {α:Type} {t:Sem α} {Q Q':α->Shared->Prop} {M:Model} {A:Around} {E:Value->Shared->Prop} {s:Shared} (h:wpAny M A t Q E s) (hQ:∀ a s,Q a s->Q' a s):wpAny M A t Q' E s:=wpAny_mono h hQ λ_ _ x=>x
def tVar (i:Nat):TE:=λσ H Q=>∃ v,σ[i]?=some (some v) /\ Q v H
def tC (v:V):TE:=λ_ H Q=>Q v H
def wq {i:Nat} {x:Str} {pos:Pos} (hN:X.N[i]?=some x) (hv:Vis X.env.scope x) (hd:(x == ("__debug__" : Str))=false:=by decide) (hcd:(x == ("__classdict__" : Str))=false:=by decide):PE X (.Name x pos) (tVar i):=by
 intro pn s σ H Q I h
 obtain ⟨v,e,h⟩:=h
 obtain ⟨m,hn,hl⟩:=I.loc
 obtain ⟨u,r,l⟩:=hl i x v hN e hv
 have fin:EP X pn σ Q u s:=⟨v,H,I,r,h⟩
 rcases l with ⟨hk,hm⟩ | ⟨hk,c,hc,hcell⟩
 ·exact wpAny_Name (wpAny_loadName_local I.ok.kind hk hn hm fin) hd
 ·rcases hk with hk | hk
  ·exact wpAny_Name (wpAny_loadName_cell I.ok.kind hk hc hcell fin) hd
  ·exact wpAny_Name (wpAny_loadName_free I.ok.kind hk hc hcell fin hcd) hd
def S8 {i j pos}:PE X (.Constant (.int i) j pos) (tC (.int i)):=λ_ _ _ H _ I h=>wpAny_Constant_int ⟨.int i,H,I.tok _,⟨_,rfl⟩,h⟩
def De {b j pos}:PE X (.Constant (.bool b) j pos) (tC (.bl b)):=λ_ _ _ H _ I h=>Constant_bool ⟨.bl b,H,I,rfl,h⟩
def M3 {j pos}:PE X (.Constant .none j pos) (tC .non):=λ_ _ _ H _ I h=>Constant_none ⟨.non,H,I,rfl,h⟩
def Gv {x j pos}:PE X (.Constant (.str x) j pos) (tC (.str x)):=λ_ _ _ H _ I h=>Calls.Constant_str ⟨.str x,H,I.tok _,⟨_,rfl⟩,h⟩
def Gl (X:Cx) (x:Str):Prop:=X.env.kindOf x=some .globalImplicit
def Xe {E:Value->Shared->Prop} {pn:List (Addr × Obj)} {s:Shared} {σ:St} {H:Hp} {x:Str} {u:Value} {pos:Pos} {Q:Value->Shared->Prop} (I:Inv X pn σ H s) (hg:Gl X x) (hm:X.mg x=some u) (h:Q u s)
  (hd:(x == ("__debug__" : Str))=false:=by decide):wpAny (model X.prog X.w) X.A (eval (.Name x pos) X.env) Q E s :=
 Calls.Name_function_global I.ok.kind hg (Calls.loadGlobal_global (by rw [I.ok.glob]; exact I.mod.glob.keeps I.bk) hm h) hd
def k5 {E:Value->Shared->Prop} {pn:List (Addr × Obj)} {s:Shared} {σ:St} {H:Hp} {x:Str} {u:Value} {pos:Pos} {Q:Value->Shared->Prop} (I:Inv X pn σ H s) (hg:Gl X x) (hm:X.mg x=none) (hv:bootBuiltins x=some u) (h:Q u s)
  (hn:x ≠ "__name__":=by decide) (hd:(x == ("__debug__" : Str))=false:=by decide):wpAny (model X.prog X.w) X.A (eval (.Name x pos) X.env) Q E s:=by
 obtain ⟨mb,h1,h2⟩:=I.mod.blt
 exact Calls.Name_function_global I.ok.kind hg (Calls.loadGlobal_builtin (by rw [I.ok.glob]; exact I.mod.glob.keeps I.bk) hm (by rw [I.ok.blt]; exact h1.keeps I.bk) ((h2 x hn).trans hv) h) hd
def Kc {x:Str} {v:V} {u:Value} {pos:Pos} (hg:Gl X x) (hm:X.mg x=some u) (r:RelV v u) (hd:(x == ("__debug__" : Str))=false:=by decide):PE X (.Name x pos) (tC v) :=
 λ_ _ _ H _ I h=>Xe I hg hm ⟨v,H,I,r,h⟩ hd
def Kg {x:Str} {v:V} {u:Value} {pos:Pos} (hg:Gl X x) (hm:X.mg x=none) (hv:bootBuiltins x=some u) (r:RelV v u) (hn:x ≠ "__name__":=by decide) (hd:(x == ("__debug__" : Str))=false:=by decide):PE X (.Name x pos) (tC v) :=
 λ_ _ _ H _ I h=>k5 I hg hm hv ⟨v,H,I,r,h⟩ hn hd
variable {a b:Expr} {ta tb:TE} {pos:Pos}
def tB (t:TE):TT:=λσ H Q=>t σ H λx H1=>∃ c,x=.bl c /\ Q c H1
def Gm {e:Expr} {t:TE} (h:PE X e t) (he:∀ whole,isTrue e X.env whole=(do let v <- whole; standAt e.pos; holding [v] (truthy v)):=by intro _; rfl):PT X e (tB t):=by
 intro pn s σ H Q I hw
 refine isTrue_plain (thn (h pn s σ H _ I hw) λv s1 ⟨x,H1,I1,r1,q1⟩=>?_) (he _)
 obtain ⟨d,rfl,q⟩:=q1
 cases r1
 exact wpAny_truthy_bool ⟨H1,I1,q⟩
section
variable {tA tB':TT} {rest:List Expr}
def tAnd (t u:TT):TT:=λσ H Q=>t σ H λc H1=>if c=true then u σ H1 Q else Q false H1
def tOr (t u:TT):TT:=λσ H Q=>t σ H λc H1=>if c=true then Q true H1 else u σ H1 Q
def tNot (t:TT):TT:=λσ H Q=>t σ H λc H1=>Q (!c) H1
def K1 (ha:PT X a tA):PW X (.BoolOp .And [a] pos) tA:=by
 intro wh pn s σ H Q I h
 refine isTrue_and (thn (ha pn s σ H Q I h) λc s1 e=>?_)
 cases c with
 | true=>exact isTrue_and_nil e
 | false=>exact e
def Gh (ha:PT X a tA):PW X (.BoolOp .Or [a] pos) tA:=by
 intro wh pn s σ H Q I h
 refine isTrue_or (thn (ha pn s σ H Q I h) λc s1 e=>?_)
 cases c with
 | false=>exact isTrue_or_nil e
 | true=>exact e
def Gi (ha:PT X a tA) (hb:PW X (.BoolOp .And (b :: rest) pos) tB'):PW X (.BoolOp .And (a :: b :: rest) pos) (tAnd tA tB'):=by
 intro wh pn s σ H Q I h
 refine isTrue_and (thn (ha pn s σ H _ I h) λc s1 ⟨H1,I1,q1⟩=>?_)
 cases c with
 | true=>exact hb wh pn s1 σ H1 Q I1 q1
 | false=>exact ⟨H1,I1,q1⟩
def D8 (ha:PT X a tA) (hb:PW X (.BoolOp .Or (b :: rest) pos) tB'):PW X (.BoolOp .Or (a :: b :: rest) pos) (tOr tA tB'):=by
 intro wh pn s σ H Q I h
 refine isTrue_or (thn (ha pn s σ H _ I h) λc s1 ⟨H1,I1,q1⟩=>?_)
 cases c with
 | true=>exact ⟨H1,I1,q1⟩
 | false=>exact hb wh pn s1 σ H1 Q I1 q1
def Gn (ha:PT X a tA):PT X (.UnaryOp .Not a pos) (tNot tA):=by
 intro pn s σ H Q I h
 exact isTrue_not (ha pn s σ H (λc H1=>Q (!c) H1) I h)
def D4 (ta tb:TE):TE:=λσ H Q=>ta σ H λx H1=>∃ c,x=.bl c /\ if c=true then tb σ H1 Q else Q (.bl false) H1
def tOrV (ta tb:TE):TE:=λσ H Q=>ta σ H λx H1=>∃ c,x=.bl c /\ if c=true then Q (.bl true) H1 else tb σ H1 Q
def D2 (ta:TE):TE:=λσ H Q=>ta σ H λx H1=>∃ c,x=.bl c /\ Q (.bl (!c)) H1
def Gx {op} {t:TE} (h:PE X a t):PE X (.BoolOp op [a] pos) t:=λpn s σ H Q I hw=>BoolOp_one (h pn s σ H Q I hw)
def Gz (ha:PE X a ta) (hb:PE X (.BoolOp .And (b :: rest) pos) tb):PE X (.BoolOp .And (a :: b :: rest) pos) (D4 ta tb):=by
 intro pn s σ H Q I h
 refine BoolOp_and (thn (ha pn s σ H _ I h) λv s1 ⟨x,H1,I1,r1,q1⟩=>?_)
 obtain ⟨c,rfl,q1⟩:=q1
 cases r1
 refine wpAny_truthy_bool ?_
 cases c with
 | true=>exact hb pn s1 σ H1 Q I1 q1
 | false=>exact ⟨.bl false,H1,I1,rfl,q1⟩
def Dd (ha:PE X a ta) (hb:PE X (.BoolOp .Or (b :: rest) pos) tb):PE X (.BoolOp .Or (a :: b :: rest) pos) (tOrV ta tb):=by
 intro pn s σ H Q I h
 refine BoolOp_or (thn (ha pn s σ H _ I h) λv s1 ⟨x,H1,I1,r1,q1⟩=>?_)
 obtain ⟨c,rfl,q1⟩:=q1
 cases r1
 refine wpAny_truthy_bool ?_
 cases c with
 | false=>exact hb pn s1 σ H1 Q I1 q1
 | true=>exact ⟨.bl true,H1,I1,rfl,q1⟩
def Gy (ha:PE X a ta):PE X (.UnaryOp .Not a pos) (D2 ta):=by
 intro pn s σ H Q I h
 refine UnaryOp_ (thn (ha pn s σ H _ I h) λv s1 ⟨x,H1,I1,r1,q1⟩=>?_)
 obtain ⟨c,rfl,q1⟩:=q1
 cases r1
 exact not_of (wpAny_truthy_bool ⟨.bl (!c),H1,I1,rfl,q1⟩)
def tIf (t:TT) (ta tb:TE):TE:=λσ H Q=>t σ H λc H1=>if c=true then ta σ H1 Q else tb σ H1 Q
def Pn {c:Expr} (hc:PT X c tA) (ha:PE X a ta) (hb:PE X b tb):PE X (.IfExp c a b pos) (tIf tA ta tb):=by
 intro pn s σ H Q I h
 refine wpAny_IfExp (thn (hc pn s σ H _ I h) λd s1 ⟨H1,I1,q1⟩=>?_)
 cases d with
 | true=>exact ha pn s1 σ H1 Q I1 q1
 | false=>exact hb pn s1 σ H1 Q I1 q1
end
def SqL (K:W.Frag) (H:Hp) (a:Addr) (xs:List V):Prop :=
 Rd H a (.lst xs) \/
  ∃ (o:Obj) (its:Array Value) (n:Nat),K.lookup a=some o /\ o.cls=.type "list" /\ o.dict=none /\ o.data=.seq its n /\ its.size <= sizeLine /\ Vals xs its.toList
def SqT (K:W.Frag) (H:Hp) (a:Addr) (xs:List V):Prop :=
 Rd H a (.tup xs) \/
  ∃ (o:Obj) (its:Array Value) (n:Nat),K.lookup a=some o /\ o.cls=.type "tuple" /\ o.data=.seq its n /\ its.size <= sizeLine /\ Vals xs its.toList
def absV:Value->Option V
 | .none=>some .non
 | .bool b=>some (.bl b)
 | .int i _=>some (.int i)
 | .str x _=>some (.str x)
 | .bytes b _=>some (.byt b)
 | .float b _=>some (.flt b)
 | .ref a=>some (.ref a)
 | .type n=>some (.ty n)
 | _=>none
def RelV.abs {x:V} {u:Value} (r:RelV x u):absV u=some x:=by
 cases x with
 | non=>cases r; rfl
 | bl _=>cases r; rfl
 | int _=>obtain ⟨t,rfl⟩:=r; rfl
 | str _=>obtain ⟨t,rfl⟩:=r; rfl
 | byt _=>obtain ⟨t,rfl⟩:=r; rfl
 | flt _=>obtain ⟨t,rfl⟩:=r; rfl
 | ref _=>cases r; rfl
 | ty _=>cases r; rfl
def RelV.inj {x y:V} {u:Value} (r:RelV x u) (q:RelV y u):x=y:=Option.some.inj (r.abs.symm.trans q.abs)
def Vals.inj:∀ {xs ys:List V} {us:List Value},Vals xs us->Vals ys us->xs=ys
 | _,_,_,.nil,.nil=>rfl
 | _,_,_,.cons r t,.cons r' t'=>by rw [r.inj r',Vals.inj t t']
variable {σ:St} {a:Addr} {xs ys:List V}
def SqL.of {K:W.Frag} (h:H a=some (.lst xs)):SqL K H a xs:=.inl (.inl h)
def SqT.of {K:W.Frag} (h:H a=some (.tup xs)):SqT K H a xs:=.inl (.inl h)
def Inv.list (I:Inv X pn σ H s) (h:SqL X.K H a xs):∃ its:List Value,Vals xs its /\ PlainL s.heap a its.toArray /\ xs.length <= sizeLine:=by
 rcases h with h | ⟨o,its,n,hk,hc,hd,hs,hz,r⟩
 ·obtain ⟨z,its,n,r,e⟩:=h.ok I.hok
  exact ⟨its,r,⟨_,n,e,rfl,rfl,rfl⟩,z⟩
 ·refine ⟨its.toList,r,⟨o,n,I.kIn a o hk,hc,hd,by simpa using hs⟩,?_⟩
  have e:=r.length
  simp only [Array.length_toList] at e
  omega
def Inv.tuple (I:Inv X pn σ H s) (h:SqT X.K H a xs):∃ its:List Value,Vals xs its /\ IsTup s.heap a its.toArray /\ xs.length <= sizeLine:=by
 rcases h with h | ⟨o,its,n,hk,hc,hs,hz,r⟩
 ·obtain ⟨z,its,r,p⟩:=h.ok I.hok
  exact ⟨its,r,p.1,z⟩
 ·refine ⟨its.toList,r,⟨o,I.kIn a o hk,hc,n,by simpa using hs⟩,?_⟩
  have e:=r.length
  simp only [Array.length_toList] at e
  omega
def Inv.list_inj (I:Inv X pn σ H s) (h:SqL X.K H a xs) (h':SqL X.K H a ys):xs=ys:=by
 obtain ⟨its,r,⟨o,n,e,_,_,d⟩,_⟩:=I.list h
 obtain ⟨its',r',⟨o',n',e',_,_,d'⟩,_⟩:=I.list h'
 rw [e] at e'; cases e'
 rw [d] at d'
 injection d' with d1 _
 have:its=its':=by simpa using congrArg Array.toList d1
 subst this
 exact r.inj r'
def Inv.tuple_inj (I:Inv X pn σ H s) (h:SqT X.K H a xs) (h':SqT X.K H a ys):xs=ys:=by
 obtain ⟨its,r,⟨o,e,_,n,d⟩,_⟩:=I.tuple h
 obtain ⟨its',r',⟨o',e',_,n',d'⟩,_⟩:=I.tuple h'
 rw [e] at e'; cases e'
 rw [d] at d'
 injection d' with d1 _
 have:its=its':=by simpa using congrArg Array.toList d1
 subst this
 exact r.inj r'
abbrev Cx.wish (X:Cx) (E:Value->Shared->Prop):Cx:={ X with xe:=E }
abbrev Cx.nox (X:Cx):Cx:=X.wish λ_ _=>False
def Cx.Ok.wish {X:Cx} (ok:X.Ok) (E:Value->Shared->Prop):(X.wish E).Ok :=
 ⟨ok.mod,ok.kind,ok.glob,ok.blt,ok.above,ok.inj,ok.has,ok.cab,ok.hd,ok.frames,ok.stk,ok.exf,ok.bs,ok.bsz,ok.noex,ok.exfs,ok.funs,ok.frf⟩
def Cx.Ok.unwish {X:Cx} {E:Value->Shared->Prop} (ok:(X.wish E).Ok):X.Ok :=
 ⟨ok.mod,ok.kind,ok.glob,ok.blt,ok.above,ok.inj,ok.has,ok.cab,ok.hd,ok.frames,ok.stk,ok.exf,ok.bs,ok.bsz,ok.noex,ok.exfs,ok.funs,ok.frf⟩
variable {E:Value->Shared->Prop}
def Inv.wish (I:Inv X pn σ H s) (E:Value->Shared->Prop):Inv (X.wish E) pn σ H s:=⟨I.ok.wish E,I.os,I.bare,I.base,I.loc,I.cell,I.free,I.freeC,I.pin,I.hok,I.len⟩
def Inv.unwish (I:Inv (X.wish E) pn σ H s):Inv X pn σ H s:=⟨I.ok.unwish,I.os,I.bare,I.base,I.loc,I.cell,I.free,I.freeC,I.pin,I.hok,I.len⟩
def SP.unwish {D:Ends} {f:Flow} {s':Shared} (h:SP (X.wish E) pn D f s'):SP X pn D f s':=by
 cases f with
 | next=>obtain ⟨σ',H',I,q⟩:=h; exact ⟨σ',H',I.unwish,q⟩
 | brk=>obtain ⟨σ',H',I,q⟩:=h; exact ⟨σ',H',I.unwish,q⟩
 | cont=>obtain ⟨σ',H',I,q⟩:=h; exact ⟨σ',H',I.unwish,q⟩
 | ret u=>obtain ⟨v,σ',H',I,r,q⟩:=h; exact ⟨v,σ',H',I.unwish,r,q⟩
def PSs.nox {st:List Stmt} {t:TS} (h:PSs X.nox st t):PSs X st t:=λpn s σ H D I hw =>
 wpAny_mono (h pn s σ H D (I.wish _) hw) (λ_ _ q=>q.unwish) λ_ _ z=>False.elim z
section
variable {st:Stmt} {rest:List Stmt} {t u:TS} {e:Expr} {te:TE}
def Qu:TS:=λD σ H=>D.nx σ H
def tSeq (t u:TS):TS:=λD σ H=>t { D with nx:=u D } σ H
def j9:PSs X [] Qu:=λ_ _ σ H _ I h=>wpAny_execs_nil ⟨σ,H,I,h⟩
def xu (h1:PS X st t) (h2:PSs X rest u):PSs X (st :: rest) (tSeq t u):=by
 intro pn s σ H D I h
 refine wpAny_execs_cons (thn (h1 pn s σ H { D with nx:=u D } I h) λf s1 q=>?_)
 cases f with
 | next =>
  obtain ⟨σ',H',I',q⟩:=q
  exact h2 pn s1 σ' H' D I' q
 | ret v=>exact q
 | brk=>exact q
 | cont=>exact q
def qk (h1:PS X st t):PSs X [st] t:=by
 intro pn s σ H D I h
 refine wpAny_execs_cons (thn (h1 pn s σ H D I h) λf s1 q=>?_)
 cases f with
 | next=>exact wpAny_execs_nil q
 | ret v=>exact q
 | brk=>exact q
 | cont=>exact q
def D3:TS:=λD σ H=>D.ct σ H
def X7:PS X (.Continue pos) D3:=λ_ _ σ H _ I h=>wpAny_Continue ⟨σ,H,I,h⟩
def Inv.quiet {pn:List (Addr × Obj)} {σ:St} {H:Hp} {s:Shared} (I:Inv X pn σ H s):interactive X.env=false:=by simp [interactive,I.ok.kind]
def dt (te:TE):TS:=λD σ H=>te σ H λ_ H1=>D.nx σ H1
def ww (he:PE X e te) (hs:swapsWith e none pos.line X.env=pure false:=by rfl):PS X (.Expr e pos) (dt te):=by
 intro pn s σ H D I h
 exact wpAny_Expr_any (thn (he pn s σ H _ I h) λv s1 ⟨x,H1,I1,r1,q1⟩=>⟨σ,H1,I1,q1⟩) I.quiet hs
def tRet (te:TE):TS:=λD σ H=>te σ H D.rt
def Zm (he:PE X e te):PS X (.Return (some e) pos) (tRet te):=by
 intro pn s σ H D I h
 exact wpAny_Return_some (thn (he pn s σ H _ I h) λv s1 ⟨x,H1,I1,r1,q1⟩=>⟨x,σ,H1,I1,r1,q1⟩)
def tIfS (c:TT) (t u:TS):TS:=λD σ H=>c σ H λb H1=>if b=true then t D σ H1 else u D σ H1
def Tx {c:Expr} {a b:List Stmt} {tc:TT} (hc:PT X c tc) (ha:PSs X a t) (hb:PSs X b u):PS X (.If c a b pos) (tIfS tc t u):=by
 intro pn s σ H D I h
 refine wpAny_If (thn (hc pn s σ H _ I h) λd s1 ⟨H1,I1,q1⟩=>?_)
 cases d with
 | true=>exact ha pn s1 σ H1 D I1 q1
 | false=>exact hb pn s1 σ H1 D I1 q1
def Nh:TS:=λ_ _ _=>False
def Pi:PS X st Nh:=λ_ _ _ _ _ _ h=>h.elim
def Tv {sts:List Stmt}:PSs X sts Nh:=λ_ _ _ _ _ _ h=>h.elim
end
abbrev TG:=V->St->Hp->(St->Hp->Prop)->Prop
abbrev TGs:=List V->St->Hp->(St->Hp->Prop)->Prop
def PG (X:Cx) (target:Expr) (t:TG):Prop :=
 ∀ (pn:List (Addr × Obj)) (s:Shared) (σ:St) (H:Hp) (v:V) (u:Value) (Q:St->Hp->Prop),Inv X pn σ H s->RelV v u->t v σ H Q ->
  wpAny (model X.prog X.w) X.A (assign target X.env u) (λ_ s'=>∃ σ' H',Inv X pn σ' H' s' /\ Q σ' H') X.xe s
def PGs (X:Cx) (ts:List Expr) (t:TGs):Prop :=
 ∀ (pn:List (Addr × Obj)) (s:Shared) (σ:St) (H:Hp) (vs:List V) (us:List Value) (Q:St->Hp->Prop),Inv X pn σ H s->Vals vs us->t vs σ H Q ->
  wpAny (model X.prog X.w) X.A (assignInOrder ((assignEach ts X.env).map (·.2)) us) (λ_ s'=>∃ σ' H',Inv X pn σ' H' s' /\ Q σ' H') X.xe s
abbrev TSet:=V->V->V->Hp->(Hp->Prop)->Prop
def PSet (X:Cx) (t:TSet):Prop :=
 ∀ (pn:List (Addr × Obj)) (s:Shared) (σ:St) (H:Hp) (o i v:V) (ov iv u:Value) (Q:Hp->Prop),Inv X pn σ H s->RelV o ov->RelV i iv->RelV v u->t o i v H Q ->
  wpAny (model X.prog X.w) X.A (setItem ov iv u) (λ_ s'=>∃ H',Inv X pn σ H' s' /\ Q H') X.xe s
abbrev TIp:=V->V->Hp->VK->Prop
def PIp (X:Cx) (op:Operator) (t:TIp):Prop :=
 ∀ (pn:List (Addr × Obj)) (s:Shared) (σ:St) (H:Hp) (x y:V) (v u:Value) (Q:VK),Inv X pn σ H s->RelV x v->RelV y u->t x y H Q ->
  wpAny (model X.prog X.w) X.A (inplaceOp op v u) (EP X pn σ Q) X.xe s
def se (i:Nat):TG:=λv σ H Q=>Q (σ.set i (some v)) H
def y3 {i:Nat} {x:Str} (hN:X.N.Nodup) (hi:X.N[i]?=some x) (hx:Loc X.env.scope x) (hf:X.fn x=true \/ X.env.scope.names.lookup x=some .local:=by first | exact .inl rfl | exact .inr rfl | assumption):PG X (.Name x pos) (se i):=by
 intro pn s σ H v u Q I r h
 exact wpAny_assign_Name (du I hN hi hx r (λs' I'=>⟨_,H,I',h⟩) hf)
def gNil:TGs:=λvs σ H Q=>vs=[] /\ Q σ H
def gf (t:TG) (u:TGs):TGs:=λvs σ H Q=>∃ v r,vs=v :: r /\ t v σ H λσ' H'=>u r σ' H' Q
def ql:PGs X [] gNil:=by
 intro pn s σ H vs us Q I r h
 obtain ⟨e,h⟩:=h
 subst e
 cases r
 exact assignInOrder_nil ⟨σ,H,I,h⟩
def x4 {e:Expr} {es:List Expr} {t:TG} {u:TGs} (h1:PG X e t) (h2:PGs X es u)
  (hs:(assignEach (e :: es) X.env).map (·.2)=assign e X.env :: (assignEach es X.env).map (·.2):=by rfl):PGs X (e :: es) (gf t u):=by
 intro pn s σ H vs us Q I r h
 obtain ⟨v,vr,e1,h⟩:=h
 subst e1
 cases r with
 | cons r rr =>
  rw [hs]
  refine assignInOrder_cons (thn (h1 pn s σ H _ _ _ I r h) λ_ s1 ⟨σ1,H1,I1,q1⟩=>?_)
  exact h2 pn s1 σ1 H1 _ _ Q I1 rr q1
def gTup (K:W.Frag) (n:Nat) (t:TGs):TG:=λv σ H Q=>∃ a xs,v=.ref a /\ SqT K H a xs /\ xs.length=n /\ t xs σ H Q
def Gu {es:List Expr} {k:Nat} {t:TGs} {n:Nat} (hc:X.calm=true) (h:PGs X es t)
  (hn:(assignEach es X.env).length=n:=by rfl) (hst:(assignEach es X.env).findIdx? (·.1)=none:=by rfl):PG X (.Tuple es k pos) (gTup X.K n t):=by
 intro pn s σ H v u Q I r hw
 obtain ⟨a,xs,e1,hq,hl,hw⟩:=hw
 subst e1
 cases r
 obtain ⟨its,rv,ht,hz⟩:=I.tuple hq
 refine assign_Tuple_tuple (I.ok.hd hc) ht (by simp [hn,<- hl,rv.length]) hst λh' hx=>?_
 have I1:Inv X pn σ H { s with heap:=h' }:=I.kept (t':=s.toks) λb o e=>hx b o (Nat.ne_of_lt (zae e)) e
 exact h pn _ σ H xs _ Q I1 (by simpa using rv) hw
def gSub (to ti:TE) (t:TSet):TG:=λv σ H Q=>to σ H λo H1=>ti σ H1 λi H2=>t o i v H2 λH3=>Q σ H3
def Nz {o i:Expr} {to ti:TE} {t:TSet} (ho:PE X o to) (hi:PE X i ti) (hs:PSet X t)
  (ha:∀ v,assign (.Subscript o i pos) X.env v=(do
   let ov <- holding [v] (eval o X.env)
   let iv <- holding [v,ov] (eval i X.env)
   standAt pos
   holding [v,ov,iv] (setItem ov iv v)
   release [v,ov,iv] []):=by intro _; rfl):PG X (.Subscript o i pos) (gSub to ti t):=by
 intro pn s σ H v u Q I r h
 rw [ha]
 refine zaa (wpAny_holding (thn (ho pn s σ H _ I h) λov s1 ⟨x,H1,I1,r1,q1⟩=>?_))
 refine zaa (wpAny_holding (thn (hi pn s1 σ H1 _ I1 q1) λiv s2 ⟨y,H2,I2,r2,q2⟩=>?_))
 refine zaa (wpAny_standAt (zaa (wpAny_holding (thn (hs pn s2 σ H2 x y v ov iv u _ I2 r1 r2 r q2) λ_ s3 ⟨H3,I3,q3⟩=>?_))))
 exact wpAny_release ⟨σ,H3,I3,q3⟩
def tAsg (te:TE) (g:TG):TS:=λD σ H=>te σ H λx H1=>g x σ H1 D.nx
def Wy {tg e:Expr} {te:TE} {g:TG} (he:PE X e te) (hg:PG X tg g) (hs:swapsWithSole [tg] e pos.line X.env=pure false:=by rfl) (hw:swappedStores [tg] e X.env=pure none:=by rfl)
  (h1:(assignEach [tg] X.env).map (·.2)=[assign tg X.env]:=by rfl):PS X (.Assign [tg] e pos) (tAsg te g):=by
 intro pn s σ H D I h
 refine wpAny_Assign_stores (thn (he pn s σ H _ I h) λv s1 ⟨x,H1,I1,r1,q1⟩=>?_) hs hw
 rw [h1]
 exact thn (hg pn s1 σ H1 x v _ I1 r1 q1) λ_ s2 q=>q
def su {i:Nat} {x:Str} {e:Expr} {te:TE} {pos':Pos} (hN:X.N.Nodup) (hi:X.N[i]?=some x) (hx:Loc X.env.scope x) (he:PE X e te) (hs:swapsWith e (some (.Name x pos')) pos.line X.env=pure false:=by rfl) (hf:X.fn x=true \/ X.env.scope.names.lookup x=some .local:=by first | exact .inl rfl | exact .inr rfl | assumption) :
  PS X (.Assign [.Name x pos'] e pos) (tAsg te (se i)):=by
 intro pn s σ H D I h
 refine wpAny_Assign_Name (thn (he pn s σ H _ I h) λv s1 ⟨y,H1,I1,r1,q1⟩=>?_) hs
 exact du I1 hN hi hx r1 (λs2 I2=>⟨_,H1,I2,q1⟩) hf
def tAug (i:Nat) (te:TE) (ti:TIp):TS:=λD σ H=>∃ x,σ[i]?=some (some x) /\ te σ H λy H1=>ti x y H1 λz H2=>D.nx (σ.set i (some z)) H2
def Gp {i:Nat} {x:Str} {e:Expr} {te:TE} {op:Operator} {ti:TIp} {pos':Pos} (hN:X.N.Nodup) (hi:X.N[i]?=some x) (hx:Loc X.env.scope x) (he:PE X e te) (ho:PIp X op ti) (hf:X.fn x=true \/ X.env.scope.names.lookup x=some .local:=by first | exact .inl rfl | exact .inr rfl | assumption) :
  PS X (.AugAssign (.Name x pos') op e pos) (tAug i te ti):=by
 intro pn s σ H D I h
 obtain ⟨v,e1,h⟩:=h
 obtain ⟨m,hn,hl⟩:=I.loc
 have vis:Vis X.env.scope x:=by rcases hx with k | k; exact .inl k; exact .inr (.inl k)
 obtain ⟨u,r,l⟩:=hl i x v hi e1 vis
 refine wpAny_AugAssign_Name ?_
 have go:wpAny (model X.prog X.w) X.A (eval e X.env) (λw s₂=>wpAny (model X.prog X.w) X.A (inplaceOp op u w) (λr s₃=>wpAny (model X.prog X.w) X.A (storeName X.env x r) (λ_=>SP X pn D .next) X.xe s₃) X.xe s₂) X.xe s:=by
  refine thn (he pn s σ H _ I h) λw s1 ⟨y,H1,I1,r1,q1⟩=>?_
  refine thn (ho pn s1 σ H1 v y u w _ I1 r r1 q1) λz s2 ⟨zv,H2,I2,r2,q2⟩=>?_
  exact du I2 hN hi hx r2 (λs3 I3=>⟨_,H2,I3,q2⟩) hf
 rcases l with ⟨hk,hm⟩ | ⟨hk,c,hc,hcell⟩
 ·exact wpAny_loadName_local I.ok.kind hk hn hm go
 ·rcases hk with hk | hk
  ·exact wpAny_loadName_cell I.ok.kind hk hc hcell go
  ·rcases hx with k | k
   ·have:X.env.scope.names.lookup x=some .free:=hk
    rw [k] at this; cases this
   ·have:X.env.scope.names.lookup x=some .free:=hk
    rw [k] at this; cases this
def ipI (f:Int->Int->Int):TIp:=λx y H Q=>∃ i j,x=.int i /\ y=.int j /\ Q (.int (f i j)) H
def Ed:PIp X .Add (ipI λi j=>i + j):=by
 intro pn s σ H x y v u Q I r1 r2 h
 obtain ⟨i,j,e1,e2,q⟩:=h
 subst e1; subst e2
 obtain ⟨t,rfl⟩:=r1
 obtain ⟨t',rfl⟩:=r2
 exact iadd_int ⟨.int _,H,I.tok _,⟨_,rfl⟩,q⟩
def Hd (c:TT) (tb:TS):TS:=λD σ H=>∃ W:Nat->St->Hp->Prop,(∃ m,W m σ H) /\ ∀ m σ H,W m σ H ->
 c σ H λb H1=>if b=true then ∃ N:St->Hp->Prop,(∀ σ' H',N σ' H'->∃ m',m' < m /\ W m' σ' H') /\ tb { D with nx:=N,ct:=N,bk:=D.nx } σ H1 else D.nx σ H1
def Wx {c:Expr} {body:List Stmt} {tc:TT} {tb:TS} (hp:PassesOwn (model X.prog X.w) X.A X.env X.xe) (hc:PT X c tc) (hb:PSs X body tb):PS X (.While c body [] pos) (Hd tc tb):=by
 intro pn s σ H D I h
 obtain ⟨W,⟨m0,w0⟩,turn⟩:=h
 refine wpAny_While (codeAny_whileLoop (λn s'=>∃ σ' H',Inv X pn σ' H' s' /\ W n σ' H') ?_ m0 ⟨σ,H,I,w0⟩)
 rintro n s1 ⟨σ1,H1,I1,w1⟩
 refine wpAny_passesOwn hp (thn (hc pn s1 σ1 H1 _ I1 (turn n σ1 H1 w1)) λb s2 ⟨H2,I2,q2⟩=>?_)
 cases b with
 | true =>
  obtain ⟨N,hN,q2⟩:=q2
  rw [if_pos rfl]
  refine wpAny_passesOwn hp (thn (hb pn s2 σ1 H2 _ I2 q2) λf s3 q3=>?_)
  cases f with
  | next =>
   obtain ⟨σ3,H3,I3,n3⟩:=q3
   obtain ⟨m',hm,w3⟩:=hN σ3 H3 n3
   exact ⟨m',hm,σ3,H3,I3,w3⟩
  | cont =>
   obtain ⟨σ3,H3,I3,n3⟩:=q3
   obtain ⟨m',hm,w3⟩:=hN σ3 H3 n3
   exact ⟨m',hm,σ3,H3,I3,w3⟩
  | brk=>exact q3
  | ret v=>exact q3
 | false =>
  rw [if_neg Bool.false_ne_true]
  exact wpAny_execs_nil ⟨σ1,H2,I2,q2⟩
structure It where
 go:Nat->Hp->Prop
 yld:Nat->Hp->V->Hp->Prop
 stop:Nat->Hp->Prop
def FpOk (X:Cx) (pn:List (Addr × Obj)) (H:Hp) (b:Addr):Prop :=
 H b=none /\ b ≠ X.env.locals /\ b ∉ X.fs /\ (b ∈ X.ex \/ X.s₀.heap.objs.size <= b) /\ (∀ x c,X.env.cells.lookup x=some c->c ≠ b) /\ ∀ p ∈ X.pn ++ pn,p.1 ≠ b
def Inv.fpOk {X:Cx} {pn:List (Addr × Obj)} {σ:St} {H H':Hp} {s:Shared} {b:Addr} (I:Inv X pn σ H s) (hb:s.heap.objs.size <= b) (hn:H' b=none):FpOk X pn H' b:=by
 refine ⟨hn,Nat.ne_of_gt (Nat.lt_of_lt_of_le I.lt hb),I.nofs hb,.inr (zak I.sz hb),λx c e z=>?_,λp hp z=>?_⟩
 ·obtain ⟨v,q⟩:=I.cell x c e
  exact absurd (Nat.lt_of_lt_of_le q.lt (by rw [z]; exact hb)) (Nat.lt_irrefl _)
 ·exact absurd (Nat.lt_of_lt_of_le (zae (I.pin p hp).1) (by rw [z]; exact hb)) (Nat.lt_irrefl _)
structure Turn (P:Program) (w:World) (K:W.Frag) (tg:Expr) (J:It) (fp:List Addr) (it:Addr) (tn:Nat->Heap->Prop):Prop where
 mem:it ∈ fp
 obj:∀ i h,tn i h->∀ b ∈ fp,∃ o,h.get? b=some o /\ ∀ v,o.data ≠ .cell v
 keep:∀ i h h',tn i h->(∀ b ∈ fp,∀ o,h.get? b=some o->h'.get? b=some o)->tn i h'
 item:∀ (X:Cx),X.prog=P->X.w=w->X.K=K->X.calm=true->∀ (i:Nat) (pn:List (Addr × Obj)) (s:Shared) (σ:St) (H:Hp) (E:Value->Shared->Prop),Inv X pn σ H s->(∀ b ∈ fp,FpOk X pn H b)->tn i s.heap->J.go i H ->
  wpAny (model P w) X.A (pyNext (.ref it)) (λr s1=>∃ u,r=some u /\
   wpAny (model P w) X.A (letOwnedTupleGo tg (.ref it) u) (λ_ s2=>∃ x H',Inv X pn σ H' s2 /\ RelV x u /\ J.yld i H x H' /\ tn (i + 1) s2.heap /\ ∀ b ∈ fp,H' b=none) E s1) E s
 done:∀ (X:Cx),X.prog=P->X.w=w->X.K=K->X.calm=true->∀ (i:Nat) (pn:List (Addr × Obj)) (s:Shared) (σ:St) (H:Hp) (E:Value->Shared->Prop),Inv X pn σ H s->(∀ b ∈ fp,FpOk X pn H b)->tn i s.heap->J.stop i H ->
  wpAny (model P w) X.A (pyNext (.ref it)) (λr s1=>r=none /\ Inv X pn σ H s1) E s
 self:∀ (A:Around) (i:Nat) (s:Shared) (Q:Value->Shared->Prop) (E:Value->Shared->Prop),tn i s.heap->Q (.ref it) s->wpAny (model P w) A (pyIter (.ref it)) Q E s
abbrev TI:=St->Hp->(It->Hp->Prop)->Prop
def PIE (X:Cx) (pn:List (Addr × Obj)) (σ:St) (tg:Expr) (R:It->Hp->Prop) (itv:Value) (s2:Shared):Prop :=
 ∃ (it:Addr) (fp:List Addr) (tn:Nat->Heap->Prop) (J:It) (H':Hp),itv=.ref it /\ Inv X pn σ H' s2 /\ Turn X.prog X.w X.K tg J fp it tn /\ tn 0 s2.heap /\ (∀ b ∈ fp,FpOk X pn H' b) /\ R J H'
def PI (X:Cx) (tg iter:Expr) (wi:TI):Prop :=
 ∀ (pn:List (Addr × Obj)) (s:Shared) (σ:St) (H:Hp) (R:It->Hp->Prop),Inv X pn σ H s->wi σ H R ->
  wpAny (model X.prog X.w) X.A (eval iter X.env) (λv s1=>wpAny (model X.prog X.w) X.A (pyIter v) (PIE X pn σ tg R) X.xe s1) X.xe s
def Ra {M:Model} {A:Around} {E:Value->Shared->Prop} {s:Shared} {tg:Expr} {it:Addr} {u:Value} {o:Obj} {n:String} {vs:Array Value} {Q:Unit->Shared->Prop} (ho:s.heap.get? it=some o) (hc:o.cls=.type n) (hd:o.data=.fields vs)
  (hn:["enumerate", "zip", "dict_itemiterator", "dict_reverseitemiterator", "odict_iterator", "itertools.zip_longest", "itertools.pairwise"].contains n=false) (hQ:Q () s):wpAny M A (letOwnedTupleGo tg (.ref it) u) Q E s:=by
 unfold letOwnedTupleGo
 cases tg <;> first
  | exact zab hQ
  | (cases u <;> first
    | exact zab hQ
    | (refine zaa (wpAny_load ho ?_)
       rw [hc,hd]
       show wpAny M A (if (["enumerate", "zip", "dict_itemiterator", "dict_reverseitemiterator", "odict_iterator", "itertools.zip_longest", "itertools.pairwise"].contains n && vs[0]? == some (rawInt _))=true then _ else _) Q E s
       rw [if_neg (by intro h; rw [hn,Bool.false_and] at h; cases h)]
       exact zab hQ))
def Itl (K:W.Frag) (a:Addr):It :=
 ⟨λi H=>∃ xs x,SqL K H a xs /\ xs[i]?=some x,λi H x H'=>H'=H /\ ∀ xs,SqL K H a xs->xs[i]?=some x,λi H=>∃ xs,SqL K H a xs /\ xs.length <= i⟩
def Itt (K:W.Frag) (a:Addr):It :=
 ⟨λi H=>∃ xs x,SqT K H a xs /\ xs[i]?=some x,λi H x H'=>H'=H /\ ∀ xs,SqT K H a xs->xs[i]?=some x,λi H=>∃ xs,SqT K H a xs /\ xs.length <= i⟩
def Itr (lo:Int) (n:Nat):It:=⟨λi _=>i < n,λi H x H'=>H'=H /\ x=.int (lo + i),λi _=>n <= i⟩
def Uv {P:Program} {w:World} {K:W.Frag} {tg:Expr} (a it:Addr):Turn P w K tg (Itl K a) [it] it (λi h=>h.IsListIter it a i) where
 mem:=by simp
 obj:=λi h st b hb=>by
  have e:b=it:=by simpa using hb
  subst e
  obtain ⟨o,e,c,d⟩:=st
  exact ⟨o,e,λv z=>by rw [d] at z; cases z⟩
 keep:=λi h h' st k=>st.at λo e=>k it (by simp) o e
 item:=by
  intro X hP hw hK hc i pn s σ H E I hf st hg
  subst hP hw hK
  obtain ⟨xs,x,hq,hx⟩:=hg
  obtain ⟨its,rv,p,hz⟩:=I.list hq
  obtain ⟨u,hu,ru⟩:=rv.get hx
  obtain ⟨f0,f1,f2,f3,f4,f5⟩:=hf it (by simp)
  refine wpAny_pyNext_list_item st p.isList (x:=u) (by simpa using hu) λh' st' sb=>?_
  have I1:Inv X pn σ H { s with heap:=h' }:=I.turned (t':=s.toks) (λb o hb e=>(sb.2 b hb).trans e) f0 f1 f3 f4 f5
  obtain ⟨o,e,c,d⟩:=id st'
  exact ⟨u,rfl,Ra (s:={ s with heap:=h' }) e c d (by decide) ⟨x,H,I1,ru,⟨rfl,λys hy=>by rw [I.list_inj hy hq]; exact hx⟩,st',λb hb=>(hf b hb).1⟩⟩
 done:=by
  intro X hP hw hK hc i pn s σ H E I hf st hg
  subst hP hw hK
  obtain ⟨xs,hq,hx⟩:=hg
  obtain ⟨its,rv,p,hz⟩:=I.list hq
  obtain ⟨f0,f1,f2,f3,f4,f5⟩:=hf it (by simp)
  have hl:=rv.length
  exact wpAny_pyNext_list_end (I.ok.hd hc) st p.isList (by simp; omega) λh' eb=>⟨rfl,I.turned (t':=s.toks) (λb o hb e=>eb b o hb e) f0 f1 f3 f4 f5⟩
 self:=λ_ _ _ _ _ st h=>wpAny_pyIter_listiter st h
def Vw {P:Program} {w:World} {K:W.Frag} {tg:Expr} (a it:Addr):Turn P w K tg (Itt K a) [it] it (λi h=>h.IsTupleIter it a i) where
 mem:=by simp
 obj:=λi h st b hb=>by
  have e:b=it:=by simpa using hb
  subst e
  obtain ⟨o,e,c,d⟩:=st
  exact ⟨o,e,λv z=>by rw [d] at z; cases z⟩
 keep:=λi h h' st k=>st.at λo e=>k it (by simp) o e
 item:=by
  intro X hP hw hK hc i pn s σ H E I hf st hg
  subst hP hw hK
  obtain ⟨xs,x,hq,hx⟩:=hg
  obtain ⟨its,rv,p,hz⟩:=I.tuple hq
  obtain ⟨u,hu,ru⟩:=rv.get hx
  obtain ⟨f0,f1,f2,f3,f4,f5⟩:=hf it (by simp)
  refine wpAny_pyNext_tuple_item st (show s.heap.IsTuple a its.toArray from p) (x:=u) (by simpa using hu) λh' st' sb=>?_
  have I1:Inv X pn σ H { s with heap:=h' }:=I.turned (t':=s.toks) (λb o hb e=>(sb.2 b hb).trans e) f0 f1 f3 f4 f5
  obtain ⟨o,e,c,d⟩:=id st'
  exact ⟨u,rfl,Ra (s:={ s with heap:=h' }) e c d (by decide) ⟨x,H,I1,ru,⟨rfl,λys hy=>by rw [I.tuple_inj hy hq]; exact hx⟩,st',λb hb=>(hf b hb).1⟩⟩
 done:=by
  intro X hP hw hK hc i pn s σ H E I hf st hg
  subst hP hw hK
  obtain ⟨xs,hq,hx⟩:=hg
  obtain ⟨its,rv,p,hz⟩:=I.tuple hq
  obtain ⟨f0,f1,f2,f3,f4,f5⟩:=hf it (by simp)
  have hl:=rv.length
  exact wpAny_pyNext_tuple_end (I.ok.hd hc) st (show s.heap.IsTuple a its.toArray from p) (by simp; omega) λh' eb=>⟨rfl,I.turned (t':=s.toks) (λb o hb e=>eb b o hb e) f0 f1 f3 f4 f5⟩
 self:=λ_ _ _ _ _ st h=>wpAny_pyIter_tupleiter st h
def Vx {P:Program} {w:World} {K:W.Frag} {tg:Expr} (it:Addr) (lo:Int) (n:Nat):Turn P w K tg (Itr lo n) [it] it (λi h=>IsRangeIter h it (lo + (i:Nat) * 1) ((n:Int) - (i:Nat)) 1) where
 mem:=by simp
 obj:=λi h st b hb=>by
  have e:b=it:=by simpa using hb
  subst e
  exact ⟨_,st,λv z=>by
   have z':Data.fields _=Data.cell v:=z
   cases z'⟩
 keep:=λi h h' st k=>k it (by simp) _ st
 item:=by
  intro X hP hw hK hc i pn s σ H E I hf st hg
  subst hP hw hK
  obtain ⟨f0,f1,f2,f3,f4,f5⟩:=hf it (by simp)
  have W:=Walks.range (prog:=X.prog) (w:=X.w) (I.ok.hd hc) it lo 1 n
  refine W.item i s _ _ hg st λv h' tk hv st' kk=>?_
  obtain ⟨t,rfl⟩:=hv
  have I1:Inv X pn σ H { s with heap:=h',toks:=tk }:=I.turned (λb o hb e=>kk b o (by simpa using hb) e) f0 f1 f3 f4 f5
  refine ⟨_,rfl,Ra (s:={ s with heap:=h',toks:=tk }) (n:="range_iterator") st' rfl rfl (by decide) ⟨.int (lo + i),H,I1,⟨t,?_⟩,⟨rfl,rfl⟩,st',λb hb=>(hf b hb).1⟩⟩
  rw [Int.mul_one]
 done:=by
  intro X hP hw hK hc i pn s σ H E I hf st hg
  subst hP hw hK
  obtain ⟨f0,f1,f2,f3,f4,f5⟩:=hf it (by simp)
  exact wpAny_pyNext_range_end (I.ok.hd hc) st (by have:n <= i:=hg; omega) λh' eb=>⟨rfl,I.turned (t':=s.toks) (λb o hb e=>eb b o hb e) f0 f1 f3 f4 f5⟩
 self:=λ_ _ _ _ _ st h=>wpAny_pyIter_rangeiter st h
section
variable {tg:Expr}
def Pd {pn:List (Addr × Obj)} {σ:St} {H:Hp} {s:Shared} {R:It->Hp->Prop} {E:Value->Shared->Prop} {lo hi:Int} {t u v:Tok} {tk:Nat} (I:Inv X pn σ H s) (h1:-(2 ^ 62) <= lo) (h2:lo < 2 ^ 62) (h3:-(2 ^ 62) <= hi) (h4:hi < 2 ^ 62)
  (q:R (Itr lo (hi - lo).toNat) H):wpAny (model X.prog X.w) X.A (pyIter (.ref s.heap.objs.size)) (PIE X pn σ tg R) E { s with heap:=s.heap.push { cls:=.type "range", data:=.fields #[.int lo t,.int hi u,.int 1 v] },toks:=tk }:=by
 refine wpAny_pyIter_range (IsRange.new ..) (small_one h1 h2 h3 h4) ?_
 have I1:Inv X pn σ H { s with heap:=s.heap.push { cls:=.type "range", data:=.fields #[.int lo t,.int hi u,.int 1 v] },toks:=tk }:=I.kept λb o e=>zac _ e
 refine ⟨(s.heap.push { cls:=.type "range", data:=.fields #[.int lo t,.int hi u,.int 1 v] }).objs.size,[(s.heap.push { cls:=.type "range", data:=.fields #[.int lo t,.int hi u,.int 1 v] }).objs.size],_,_,H,rfl,
  I1.kept (t':=tk) λb o e=>zac _ e,Vx _ lo (hi - lo).toNat,?_,λb hb=>?_,q⟩
 ·have e1:lo + ((0:Nat):Int) * 1=lo:=by simp
  have e2:(((hi - lo).toNat:Nat):Int) - ((0:Nat):Int)=Builtin.Range.rangeSize lo hi 1:=by rw [rangeSize_one]; split <;> omega
  show IsRangeIter _ _ (lo + ((0:Nat):Int) * 1) ((((hi - lo).toNat:Nat):Int) - ((0:Nat):Int)) 1
  rw [e1,e2]
  exact zad _ rfl
 ·have e:b=(s.heap.push { cls:=.type "range", data:=.fields #[.int lo t,.int hi u,.int 1 v] }).objs.size:=by simpa using hb
  subst e
  exact I1.fpOk (zaj _) (I1.hok.fresh (zaj _))
def Dp (ta:TA):TI:=λσ H R=>ta σ H λvs H1=>∃ j:Int,vs=[.int j] /\ -(2 ^ 62) <= j /\ j < 2 ^ 62 /\ R (Itr 0 j.toNat) H1
def Zo {a:Expr} {ta:TA} {p pos:Pos} (hg:Gl X "range") (hm:X.mg "range" = none) (ha:PA X [a] ta) (hs:starEach [a] X.env=[(false,eval a X.env)]:=by rfl):PI X tg (.Call (.Name "range" p) [a] [] pos) (Dp ta):=by
 intro pn s σ H R I h
 refine Call_ (k5 I hg hm boot_range (PyProof.Rows.callWith_type1 (thn (ha pos pn s σ H _ I h) λus s1 ⟨vs,H1,I1,r1,q1⟩=>?_) hs rfl))
 obtain ⟨j,e,q1,q2,q⟩:=q1
 subst e
 cases r1 with
 | cons r rr =>
  cases rr
  obtain ⟨t,rfl⟩:=r
  exact call_range_1 (Pd I1 (by omega) (by omega) q1 q2 (by simpa using q))
def tFor (wi:TI) (g:TG) (tb:TS):TS:=λD σ H=>wi σ H λJ H1=>∃ W:Nat->Nat->St->Hp->Prop,(∃ m,W 0 m σ H1) /\ ∀ i m σ H,W i m σ H ->
 (J.stop i H /\ D.nx σ H) \/ (J.go i H /\ ∃ N:St->Hp->Prop,(∀ σ' H',N σ' H'->∃ m',m' < m /\ W (i + 1) m' σ' H') /\ ∀ x H',J.yld i H x H'->g x σ H' λσ2 H2=>tb { D with nx:=N,ct:=N,bk:=D.nx } σ2 H2)
def Zn (fp:List Addr) (h:Heap):List (Addr × Obj):=fp.filterMap λb=>(h.get? b).map λo=>(b,o)
def uz {fp:List Addr} {h:Heap} {b:Addr} {o:Obj} (hb:b ∈ fp) (e:h.get? b=some o):(b,o) ∈ Zn fp h:=List.mem_filterMap.mpr ⟨b,hb,by rw [e]; rfl⟩
def Sk {fp:List Addr} {h:Heap} {p:Addr × Obj} (hp:p ∈ Zn fp h):p.1 ∈ fp /\ h.get? p.1=some p.2:=by
 obtain ⟨b,hb,e⟩:=List.mem_filterMap.mp hp
 cases q:h.get? b with
 | none=>rw [q] at e; cases e
 | some o =>
  rw [q] at e
  have e':(b,o)=p:=Option.some.inj e
  subst e'
  exact ⟨hb,q⟩
def Inv.pinned {pn:List (Addr × Obj)} {σ:St} {H:Hp} {s:Shared} {fp:List Addr} (I:Inv X pn σ H s) (hf:∀ b ∈ fp,FpOk X pn H b) (ho:∀ b ∈ fp,∃ o,s.heap.get? b=some o /\ ∀ v,o.data ≠ .cell v):Inv X (pn ++ Zn fp s.heap) σ H s :=
 I.pins_of λp hp=>(zas.mp hp).elim (λz=>I.pin p (List.mem_append_right _ z)) λz=>by
  obtain ⟨hb,e⟩:=Sk z
  obtain ⟨f0,f1,f2,_⟩:=hf p.1 hb
  obtain ⟨o,e',d⟩:=ho p.1 hb
  rw [e] at e'; cases e'
  exact ⟨e,f0,f1,f2,d⟩
def Inv.unpinned {pn pl:List (Addr × Obj)} {σ:St} {H:Hp} {s:Shared} (I:Inv X (pn ++ pl) σ H s):Inv X pn σ H s:=I.pins_of λp hp=>I.pin p (List.mem_append_right _ (List.mem_append_left _ hp))
def Nx {iter:Expr} {body:List Stmt} {wi:TI} {g:TG} {tb:TS} {pos:Pos} (hp:PassesOwn (model X.prog X.w) X.A X.env X.xe) (hc:X.calm=true) (hi:PI X tg iter wi) (hg:PG X tg g) (hb:PSs X body tb)
  (hs:∀ x,foldedSetIterable iter X.env x=pure x:=by intro _; rfl):PS X (.For tg iter body [] pos) (tFor wi g tb):=by
 intro pn s σ H D I h
 refine wpAny_For (thn (hi pn s σ H _ I h) λv s1 h1=>thn h1 λitv s2 h2=>?_) hs
 obtain ⟨it,fp,tn,J,H2,e,I2,T,st2,f2,W,⟨m0,w0⟩,turn⟩:=h2
 subst e
 have stat:∀ {H':Hp},(∀ b ∈ fp,H' b=none)->∀ b ∈ fp,FpOk X pn H' b:=λhn b hb=>⟨hn b hb,(f2 b hb).2⟩
 refine codeAny_forLoop_any (λn s'=>∃ i σ' H',Inv X pn σ' H' s' /\ tn i s'.heap /\ (∀ b ∈ fp,H' b=none) /\ W i n σ' H') ?_ m0 ⟨0,σ,H2,I2,st2,λb hb=>(f2 b hb).1,w0⟩
 rintro n s3 ⟨i,σ3,H3,I3,st3,fr3,w3⟩
 rcases turn i n σ3 H3 w3 with ⟨stop,qn⟩ | ⟨go,N,hN,step⟩
 ·refine wpAny_passesOwn hp (thn (T.done X rfl rfl rfl hc i pn s3 σ3 H3 X.xe I3 (stat fr3) st3 stop) λr s4 ⟨hr,I4⟩=>?_)
  subst hr
  exact wpAny_execs_nil ⟨σ3,H3,I4,qn⟩
 ·refine wpAny_passesOwn hp (thn (T.item X rfl rfl rfl hc i pn s3 σ3 H3 X.xe I3 (stat fr3) st3 go) λr s4 ⟨u,hr,h4⟩=>?_)
  subst hr
  refine wpAny_passesOwn hp (thn h4 λ_ s5 ⟨x,H5,I5,r5,y5,st5,fr5⟩=>?_)
  have I5':=I5.pinned (stat fr5) (T.obj _ _ st5)
  refine wpAny_passesOwn hp (thn (hg _ s5 σ3 H5 x u _ I5' r5 (step x H5 y5)) λ_ s6 ⟨σ6,H6,I6,q6⟩=>?_)
  refine wpAny_passesOwn hp (thn (hb _ s6 σ6 H6 _ I6 q6) λf s7 q7=>?_)
  have again:∀ {σ7:St} {H7:Hp},Inv X (pn ++ Zn fp s5.heap) σ7 H7 s7->N σ7 H7->∃ m,m < n /\ ∃ i σ' H',Inv X pn σ' H' s7 /\ tn i s7.heap /\ (∀ b ∈ fp,H' b=none) /\ W i m σ' H':=λ{σ7 H7} I7 n7=>by
   obtain ⟨m',hm,w7⟩:=hN σ7 H7 n7
   refine ⟨m',hm,i + 1,σ7,H7,I7.unpinned,T.keep _ _ _ st5 λb hb o e=>(I7.pin (b,o) (List.mem_append_right _ (List.mem_append_right _ (uz hb e)))).1,λb hb=>?_,w7⟩
   obtain ⟨o,e,d⟩:=T.obj _ _ st5 b hb
   exact (I7.pin (b,o) (List.mem_append_right _ (List.mem_append_right _ (uz hb e)))).2.1
  cases f with
  | next=>obtain ⟨σ7,H7,I7,n7⟩:=q7; exact again I7 n7
  | cont=>obtain ⟨σ7,H7,I7,n7⟩:=q7; exact again I7 n7
  | brk=>obtain ⟨σ7,H7,I7,q7⟩:=q7; exact ⟨σ7,H7,I7.unpinned,q7⟩
  | ret v=>obtain ⟨x7,σ7,H7,I7,r7,q7⟩:=q7; exact ⟨x7,σ7,H7,I7.unpinned,r7,q7⟩
end
def Rh {lo:Int} {n:Nat} {g:TG} {tb:TS} {D:Ends} {σ:St} {H:Hp} (Pv:Nat->St->Hp->Prop) (h0:Pv 0 σ H)
  (hs:∀ i σ H,i < n->Pv i σ H->g (.int (lo + i)) σ H λσ2 H2=>tb { D with nx:=Pv (i + 1),ct:=Pv (i + 1),bk:=D.nx } σ2 H2) (hd:∀ σ H,Pv n σ H->D.nx σ H) :
  ∃ W:Nat->Nat->St->Hp->Prop,(∃ m,W 0 m σ H) /\ ∀ i m σ H,W i m σ H ->
   ((Itr lo n).stop i H /\ D.nx σ H) \/ ((Itr lo n).go i H /\ ∃ N:St->Hp->Prop,(∀ σ' H',N σ' H'->∃ m',m' < m /\ W (i + 1) m' σ' H') /\ ∀ x H',(Itr lo n).yld i H x H'->g x σ H' λσ2 H2=>tb { D with nx:=N,ct:=N,bk:=D.nx } σ2 H2):=by
 refine ⟨λi m σ H=>m=n - i /\ i <= n /\ Pv i σ H,⟨n,by simp,Nat.zero_le _,h0⟩,?_⟩
 rintro i m σ H ⟨rfl,hi,p⟩
 by_cases hlt:i < n
 ·refine .inr ⟨hlt,Pv (i + 1),λσ' H' p'=>⟨n - (i + 1),by omega,rfl,hlt,p'⟩,λx H' y=>?_⟩
  obtain ⟨e,y⟩:=y
  subst e y
  exact hs i σ _ hlt p
 ·have e:i=n:=by omega
  subst e
  exact .inl ⟨zaj _,hd σ H p⟩
abbrev R2:=V->V->Hp->VK->Prop
def OpR (X:Cx) (f:Value->Value->Sem Value) (r:R2):Prop :=
 ∀ (pn:List (Addr × Obj)) (s:Shared) (σ:St) (H:Hp) (x y:V) (v u:Value) (Q:VK),Inv X pn σ H s->RelV x v->RelV y u->r x y H Q ->
  wpAny (model X.prog X.w) X.A (f v u) (EP X pn σ Q) X.xe s
def UnR (X:Cx) (f:Value->Sem Value) (r:V->Hp->VK->Prop):Prop :=
 ∀ (pn:List (Addr × Obj)) (s:Shared) (σ:St) (H:Hp) (x:V) (v:Value) (Q:VK),Inv X pn σ H s->RelV x v->r x H Q ->
  wpAny (model X.prog X.w) X.A (f v) (EP X pn σ Q) X.xe s
def uv (X:Cx) (f:Value) (r:List V->Hp->VK->Prop):Prop :=
 ∀ (pn:List (Addr × Obj)) (s:Shared) (σ:St) (H:Hp) (xs:List V) (us:List Value) (Q:VK),Inv X pn σ H s->Vals xs us->r xs H Q ->
  wpAny (model X.prog X.w) X.A (call f us) (EP X pn σ Q) X.xe s
def TruR (X:Cx) (r:V->Hp->(Bool->Hp->Prop)->Prop):Prop :=
 ∀ (pn:List (Addr × Obj)) (s:Shared) (σ:St) (H:Hp) (x:V) (v:Value) (Q:Bool->Hp->Prop),Inv X pn σ H s->RelV x v->r x H Q ->
  wpAny (model X.prog X.w) X.A (truthy v) (TP X pn σ Q) X.xe s
def tOp (r:R2) (ta tb:TE):TE:=λσ H Q=>ta σ H λx H1=>tb σ H1 λy H2=>r x y H2 Q
def tUn (r:V->Hp->VK->Prop) (ta:TE):TE:=λσ H Q=>ta σ H λx H1=>r x H1 Q
def rI (C:Int->Int->Prop) (g:Int->Int->V):R2:=λx y H Q=>∃ i j,x=.int i /\ y=.int j /\ C i j /\ Q (g i j) H
def rI0 (g:Int->Int->V):R2:=λx y H Q=>∃ i j,x=.int i /\ y=.int j /\ Q (g i j) H
def rU (g:Int->V):V->Hp->VK->Prop:=λx H Q=>∃ i,x=.int i /\ Q (g i) H
variable {a:Expr}
def binT (ha:PE X a ta) (hb:PE X b tb) {pn:List (Addr × Obj)} {s:Shared} {σ:St} {H:Hp} {R:V->V->Hp->Prop} (I:Inv X pn σ H s)
  (h:ta σ H λx H1=>tb σ H1 λy H2=>R x y H2) {Q:Value->Shared->Prop} {f:Value->Value->Sem Value}
  (hf:∀ v u s2 x y H2,Inv X pn σ H2 s2->RelV x v->RelV y u->R x y H2->wpAny (model X.prog X.w) X.A (f v u) Q X.xe s2) :
  wpAny (model X.prog X.w) X.A (eval a X.env) (λv s₁=>wpAny (model X.prog X.w) X.A (eval b X.env) (λu s₂=>wpAny (model X.prog X.w) X.A (f v u) Q X.xe s₂) X.xe s₁) X.xe s:=by
 refine thn (ha pn s σ H _ I h) λv s1 ⟨x,H1,I1,r1,q1⟩=>?_
 refine thn (hb pn s1 σ H1 _ I1 q1) λu s2 ⟨y,H2,I2,r2,q2⟩=>?_
 exact hf v u s2 x y H2 I2 r1 r2 q2
def Gw {op:Operator} {r:R2} (ho:OpR X (binaryOp op) r) (ha:PE X a ta) (hb:PE X b tb):PE X (.BinOp a op b pos) (tOp r ta tb):=by
 intro pn s σ H Q I h
 exact wpAny_BinOp (binT ha hb I h λv u s2 x y H2 I2 rx ry q=>ho pn s2 σ H2 x y v u Q I2 rx ry q)
def Dc {op:UnaryOp} {r:V->Hp->VK->Prop} (ho:UnR X (unaryOp op) r) (ha:PE X a ta):PE X (.UnaryOp op a pos) (tUn r ta):=by
 intro pn s σ H Q I h
 exact UnaryOp_ (thn (ha pn s σ H _ I h) λv s1 ⟨x,H1,I1,r1,q1⟩=>ho pn s1 σ H1 x v Q I1 r1 q1)
def opI {f:Value->Value->Sem Value} {C:Int->Int->Prop} {g:Int->Int->Int}
  (rule:∀ (i j:Int) (t u:Tok) (s:Shared) (Q:Value->Shared->Prop) (E:Value->Shared->Prop),C i j->Q (.int (g i j) s.toks) { s with toks:=s.toks + 1 }->wpAny (model X.prog X.w) X.A (f (.int i t) (.int j u)) Q E s) :
  OpR X f (rI C λi j=>.int (g i j)):=by
 intro pn s σ H x y v u Q I rx ry h
 obtain ⟨i,j,rfl,rfl,hc,q⟩:=h
 obtain ⟨t,rfl⟩:=rx
 obtain ⟨t',rfl⟩:=ry
 exact rule i j t t' s _ _ hc ⟨.int (g i j),H,I.tok _,⟨_,rfl⟩,q⟩
def opI0 {f:Value->Value->Sem Value} {g:Int->Int->Int}
  (rule:∀ (i j:Int) (t u:Tok) (s:Shared) (Q:Value->Shared->Prop) (E:Value->Shared->Prop),Q (.int (g i j) s.toks) { s with toks:=s.toks + 1 }->wpAny (model X.prog X.w) X.A (f (.int i t) (.int j u)) Q E s) :
  OpR X f (rI0 λi j=>.int (g i j)):=by
 intro pn s σ H x y v u Q I rx ry h
 obtain ⟨i,j,rfl,rfl,q⟩:=h
 obtain ⟨t,rfl⟩:=rx
 obtain ⟨t',rfl⟩:=ry
 exact rule i j t t' s _ _ ⟨.int (g i j),H,I.tok _,⟨_,rfl⟩,q⟩
def opB0 {f:Value->Value->Sem Value} {g:Int->Int->Bool}
  (rule:∀ (i j:Int) (t u:Tok) (s:Shared) (Q:Value->Shared->Prop) (E:Value->Shared->Prop),Q (.bool (g i j)) s->wpAny (model X.prog X.w) X.A (f (.int i t) (.int j u)) Q E s) :
  OpR X f (rI0 λi j=>.bl (g i j)):=by
 intro pn s σ H x y v u Q I rx ry h
 obtain ⟨i,j,rfl,rfl,q⟩:=h
 obtain ⟨t,rfl⟩:=rx
 obtain ⟨t',rfl⟩:=ry
 exact rule i j t t' s _ _ ⟨.bl (g i j),H,I,rfl,q⟩
def CPow (i j:Int):Prop:=0 <= j /\ j <= 1000000 /\ i.natAbs < 2 ^ 64
def Fi:OpR X (binaryOp .Add) (rI0 λi j=>.int (i + j)):=opI0 λ_ _ _ _ _ _ _ q=>add_int q
def F0:OpR X (binaryOp .Sub) (rI0 λi j=>.int (i - j)):=opI0 λ_ _ _ _ _ _ _ q=>sub_int q
def Kl:OpR X (binaryOp .Mod) (rI (λ_ j=>j ≠ 0) λi j=>.int (i.fmod j)):=opI λ_ _ _ _ _ _ _ hc q=>mod_int' hc q
def Fb:OpR X (binaryOp .Pow) (rI CPow λi j=>.int (i ^ j.toNat)):=opI λ_ _ _ _ _ _ _ hc q=>pow_int_small hc.1 hc.2.1 hc.2.2 q
def unI {f:Value->Sem Value} {g:Int->Int}
  (rule:∀ (i:Int) (t:Tok) (s:Shared) (Q:Value->Shared->Prop) (E:Value->Shared->Prop),Q (.int (g i) s.toks) { s with toks:=s.toks + 1 }->wpAny (model X.prog X.w) X.A (f (.int i t)) Q E s) :
  UnR X f (rU λi=>.int (g i)):=by
 intro pn s σ H x v Q I rx h
 obtain ⟨i,rfl,q⟩:=h
 obtain ⟨t,rfl⟩:=rx
 exact rule i t s _ _ ⟨.int (g i),H,I.tok _,⟨_,rfl⟩,q⟩
def Ha:UnR X (unaryOp .USub) (rU λi=>.int (-i)):=unI λ_ _ _ _ _ q=>neg_int q
def Ve {pn:List (Addr × Obj)} {σ:St} {H:Hp} {s:Shared} {Q:VK} {k k':Bool} (I:Inv X pn σ H s) (q:Q (.bl k) H) (e:k=k'):EP X pn σ Q (.bool k') s:=by
 subst e
 exact ⟨.bl k,H,I,rfl,q⟩
def Dg:OpR X (compareOp .Lt) (rI0 λi j=>.bl (decide (i < j))):=opB0 λ_ _ _ _ _ _ _ q=>lt_int q
def Dh:OpR X (compareOp .LtE) (rI0 λi j=>.bl (decide (i <= j))):=opB0 λ_ _ _ _ _ _ _ q=>le_int q
def Fg:OpR X (compareOp .Gt) (rI0 λi j=>.bl (decide (j < i))):=opB0 λ_ _ _ _ _ _ _ q=>gt_int q
def Di:OpR X (compareOp .GtE) (rI0 λi j=>.bl (decide (j <= i))):=opB0 λ_ _ _ _ _ _ _ q=>ge_int q
def Se:OpR X (compareOp .In) (λx y H Q=>∃ i j,x=.str i /\ y=.str j /\ Q (.bl (!(Builtin.Str.occurrences j i 0 j.length 1).isEmpty)) H):=by
 intro pn s σ H x y v u Q I rx ry h
 obtain ⟨i,j,rfl,rfl,q⟩:=h
 obtain ⟨t,rfl⟩:=rx
 obtain ⟨t',rfl⟩:=ry
 exact in_str (Ve I q rfl)
def Fe:OpR X (compareOp .Is) (λx y H Q=>y=.non /\ Q (.bl (decide (x=.non))) H):=by
 intro pn s σ H x y v u Q I rx ry h
 obtain ⟨rfl,q⟩:=h
 cases ry
 refine is_none_gen (Ve I q ?_)
 cases x <;> first
  | (cases rx; rfl)
  | (obtain ⟨t,rfl⟩:=rx; rfl)
def Ki:OpR X (compareOp .IsNot) (λx y H Q=>y=.non /\ Q (.bl (!decide (x=.non))) H):=by
 intro pn s σ H x y v u Q I rx ry h
 obtain ⟨rfl,q⟩:=h
 cases ry
 refine isnot_none_gen (Ve I q ?_)
 cases x <;> first
  | (cases rx; rfl)
  | (obtain ⟨t,rfl⟩:=rx; rfl)
def OpR.or {f:Value->Value->Sem Value} {r r':R2} (h:OpR X f r) (h':OpR X f r'):OpR X f (λx y H Q=>r x y H Q \/ r' x y H Q):=by
 intro pn s σ H x y v u Q I rx ry q
 rcases q with q | q
 ·exact h pn s σ H x y v u Q I rx ry q
 ·exact h' pn s σ H x y v u Q I rx ry q
def ud (b:Expr) {op:CmpOp} (h:op ≠ .In:=by decide) (h2:op ≠ .NotIn:=by decide):behindInMarks op b=false:=by
 have e1:(op == CmpOp.In)=false:=by cases op <;> first | rfl | exact absurd rfl h
 have e2:(op == CmpOp.NotIn)=false:=by cases op <;> first | rfl | exact absurd rfl h2
 cases b <;> simp [behindInMarks,e1,e2]
def Kf {op:CmpOp} {r:R2} (ho:OpR X (compareOp op) r) (ha:PE X a ta) (hb:PE X b tb) (hm:behindInMarks op b=false):PE X (.Compare a [op] [b] pos) (tOp r ta tb):=by
 intro pn s σ H Q I h
 exact wpAny_Compare1 (binT ha hb I h λv u s2 x y H2 I2 rx ry q=>ho pn s2 σ H2 x y v u Q I2 rx ry q) hm
def Ez (t:TE):TT:=λσ H Q=>t σ H λx H'=>∃ k,x=.bl k /\ Q k H'
def K3 {op:CmpOp} {r:R2} (ho:OpR X (compareOp op) r) (ha:PE X a ta) (hb:PE X b tb) (hm:behindInMarks op b=false):PT X (.Compare a [op] [b] pos) (Ez (tOp r ta tb)):=by
 intro pn s σ H Q I h
 refine wpAny_isTrue_Compare1 (thn (ha pn s σ H _ I h) λv s1 ⟨x,H1,I1,r1,q1⟩=>thn (hb pn s1 σ H1 _ I1 q1) λu s2 ⟨y,H2,I2,r2,q2⟩ =>
  thn (ho pn s2 σ H2 x y v u _ I2 r1 r2 q2) λc s3 ⟨z,H3,I3,r3,k,e,q3⟩=>?_) hm
 subst e
 cases r3
 exact wpAny_truthy_bool ⟨H3,I3,q3⟩
def TruV (K:W.Frag) (x:V) (H:Hp) (k:Bool):Prop :=
 match x with
 | .non=>k=false
 | .bl b=>k=b
 | .int i=>k=(i != 0)
 | .str y=>y.length <= sizeLine /\ k=((y.length:Int) != 0)
 | .byt y=>y.size <= sizeLine /\ k=((y.size:Int) != 0)
 | .ref p=>(∃ xs,SqL K H p xs /\ k=!xs.isEmpty) \/ (∃ xs,SqT K H p xs /\ k=!xs.isEmpty) \/ ∃ kvs,H p=some (.dK kvs) /\ k=!kvs.isEmpty
 | _=>False
def Ug {κ:Type} {kvs:List (κ × V)} {vs:List (κ × Value)} (r:KV kvs vs):(!vs.isEmpty)=!kvs.isEmpty:=by
 cases r <;> rfl
def fm {xs:List V} {its:List Value} (r:Vals xs its):(!its.toArray.isEmpty)=!xs.isEmpty:=by
 cases r <;> simp
def sw:(sizeLine:Nat) < 2 ^ 63:=by rw [sizeLine_eq]; decide
def Hb:TruR X (λx H Q=>∃ k,TruV X.K x H k /\ Q k H):=by
 intro pn s σ H x v Q I rx h
 obtain ⟨k,e,q⟩:=h
 have hl:=sw
 have hs:sizeLine=16777216:=sizeLine_eq
 cases x with
 | non =>
  cases rx
  have e':k=false:=e
  subst e'
  exact truthy_none ⟨H,I,q⟩
 | bl b =>
  cases rx
  have e':k=b:=e
  subst e'
  exact wpAny_truthy_bool ⟨H,I,q⟩
 | int i =>
  obtain ⟨t,rfl⟩:=rx
  have e':k=(i != 0):=e
  subst e'
  exact PySem.P.truthy_int ⟨H,I,q⟩
 | str y =>
  obtain ⟨t,rfl⟩:=rx
  obtain ⟨hy,e'⟩:y.length <= sizeLine /\ k=((y.length:Int) != 0):=e
  subst e'
  exact PySem.P.truthy_str (by omega) ⟨H,I.tok _,q⟩
 | byt y =>
  obtain ⟨t,rfl⟩:=rx
  obtain ⟨hy,e'⟩:y.size <= sizeLine /\ k=((y.size:Int) != 0):=e
  subst e'
  exact W.truthy_bytes (by omega) ⟨H,I.tok _,q⟩
 | ref p =>
  cases rx
  have e':(∃ xs,SqL X.K H p xs /\ k=!xs.isEmpty) \/ (∃ xs,SqT X.K H p xs /\ k=!xs.isEmpty) \/ ∃ kvs,H p=some (.dK kvs) /\ k=!kvs.isEmpty:=e
  rcases e' with ⟨xs,hx,e'⟩ | ⟨xs,hx,e'⟩ | ⟨kvs,hx,e'⟩
  ·subst e'
   obtain ⟨its,r,pl,hz⟩:=I.list hx
   have hlen:=r.length
   exact wpAny_truthy_list pl.isList (by simp only [zap]; omega) ⟨H,I.tok _,by rw [fm r]; exact q⟩
  ·subst e'
   obtain ⟨its,r,pl,hz⟩:=I.tuple hx
   have hlen:=r.length
   exact truthy_tuple pl (by simp only [zap]; omega) ⟨H,I.tok _,by rw [fm r]; exact q⟩
  ·subst e'
   obtain ⟨hz,hS,vs,r,m⟩:kvs.length <= sizeLine /\ (p == sysModules)=false /\ ∃ vs,KV kvs vs /\ s.heap.DictOf (yt X.prog X.w) p vs:=I.hok p _ hx
   have hlen:kvs.length=vs.length:=Paired.length r
   exact wpAny_truthy_dict hS m (by omega) ⟨H,I.tok _,by rw [Ug r]; exact q⟩
 | _=>exact (show False from e).elim
def Ph (ha:PE X a ta) (he:∀ whole,isTrue a X.env whole=(do let v <- whole; standAt a.pos; holding [v] (truthy v))) :
  PT X a (λσ H Q=>ta σ H λx H'=>∃ k,TruV X.K x H' k /\ Q k H'):=by
 intro pn s σ H Q I h
 exact isTrue_plain (thn (ha pn s σ H _ I h) λv s1 ⟨x,H1,I1,r1,q1⟩=>Hb pn s1 σ H1 x v Q I1 r1 q1) (he _)
def U3:OpR X (binaryOp .Add) (λx y H Q=>∃ i j,x=.str i /\ y=.str j /\ i.length + j.length <= sizeLine /\ Q (.str (i ++ j)) H):=by
 intro pn s σ H x y v u Q I rx ry h
 obtain ⟨i,j,rfl,rfl,hz,q⟩:=h
 obtain ⟨t,rfl⟩:=rx
 obtain ⟨t',rfl⟩:=ry
 exact add_str (λt' tk=>⟨.str (i ++ j),H,I.tok _,⟨_,rfl⟩,q⟩) hz
def ga {x:V} {us:List Value} (r:Vals [x] us):∃ u,us=[u] /\ RelV x u:=by
 cases r with
 | cons r1 r2=>cases r2; exact ⟨_,rfl,r1⟩
def Qm {x y:V} {us:List Value} (r:Vals [x,y] us):∃ u w',us=[u,w'] /\ RelV x u /\ RelV y w':=by
 cases r with
 | cons r1 r2 =>
  cases r2 with
  | cons r3 r4=>cases r4; exact ⟨_,_,rfl,r1,r3⟩
def Qb (hc:X.calm=true):uv X (.builtin "min") (λxs H Q=>∃ i j,xs=[.int i,.int j] /\ Q (.int (if j < i then j else i)) H):=by
 intro pn s σ H xs us Q I r h
 obtain ⟨i,j,rfl,q⟩:=h
 obtain ⟨u,w',rfl,⟨t,rfl⟩,⟨t',rfl⟩⟩:=Qm r
 refine min_two_ints (I.ok.hd hc) λh' tk k=>⟨_,H,I.kept k,?_,q⟩
 by_cases hj:j < i
 ·rw [if_pos hj,if_pos hj]; exact ⟨_,rfl⟩
 ·rw [if_neg hj,if_neg hj]; exact ⟨_,rfl⟩
def Qc:uv X (.type "int") (λxs H Q=>(∃ i,xs=[.int i] /\ Q (.int i) H) \/ ∃ k,xs=[.bl k] /\ Q (.int (if k then 1 else 0)) H):=by
 intro pn s σ H xs us Q I r h
 rcases h with ⟨i,rfl,q⟩ | ⟨k,rfl,q⟩
 ·obtain ⟨u,rfl,t,rfl⟩:=ga r
  exact call_int_int ⟨.int i,H,I,⟨_,rfl⟩,q⟩
 ·obtain ⟨u,rfl,r1⟩:=ga r
  cases r1
  exact call_int_bool ⟨.int (if k then 1 else 0),H,I.tok _,⟨_,rfl⟩,q⟩
structure ObjM (h:Heap) (x dx C:Addr) (mA:Str->Option Value):Prop where
 obj:h.get? x=some (W.instObj C dx)
 ns:h.Ns1 dx mA
 ne:dx ≠ x
def Sq {h:Heap} {dx:Addr} {mA:Str->Option Value} (n:h.Ns1 dx mA):∃ od,h.get? dx=some od /\ ∀ name,W.lookIn name od=some (mA name):=by
 obtain ⟨o,es,ep,ho,hd,hk,_,hm⟩:=n
 refine ⟨o,ho,λname=>?_⟩
 have e:=hm name
 unfold nsFind findBy at e
 rw [<- Array.find?_toList] at e
 unfold W.lookIn
 rw [hd]
 dsimp only
 split
 ·rename_i y q
  rw [q] at e
  exact congrArg some e
 ·rename_i q
  rw [q] at e
  have a:es.toList.any (·.refKey)=false:=by
   rw [List.any_eq_false]
   intro y hy
   obtain ⟨z,t,hkey⟩:=hk y (Array.mem_toList_iff.mp hy)
   simp [DictEntry.refKey,hkey]
  have a':¬ es.toList.any (·.refKey)=true:=by rw [a]; exact Bool.false_ne_true
  rw [if_neg a']
  exact congrArg some e
def ObjM.look {h:Heap} {x dx C:Addr} {mA:Str->Option Value} (I:ObjM h x dx C mA):∃ od,W.InstAt h x (W.instObj C dx) C (some od) /\ ∀ name,W.lookIn name od=some (mA name) :=
 let ⟨od,ho,hl⟩:=Sq I.ns
 ⟨od,⟨I.obj,rfl,rfl,ho⟩,hl⟩
variable {prog:Program} {A:Around} {K:W.Frag} {dx C f:Addr} {mA:Str->Option Value} {name:Str} {v:Value}
def J7 {expr:Bool} {Q:Value->Shared->Prop} (X:K.In s.heap) (I:ObjM s.heap x dx C mA) (hg:W.plainGet K C name=true) (hh:W.hasDictIn K C=true)
  (ha:W.findIn K (.ref C) name=some none) (hv:mA name=some v) (hv':W.handedIn v=true) (h:Q v { s with toks:=s.toks + 1 }) :
  wpAny (model prog w) A (getAttr (.ref x) name expr) Q E s:=by
 obtain ⟨od,J,hl⟩:=I.look
 exact W.get_value X J (W.plainGet_of hg).1 (W.findObj_own hh ha rfl (by rw [hl,hv])) hv' h
def Od {pl:Sem Bool} {Q:Value × List Value->Shared->Prop} (X:K.In s.heap) (I:ObjM s.heap x dx C mA) (hg:W.plainGet K C name=true)
  (hf:W.findIn K (.ref C) name=some (some (.ref f))) (ht:W.isFn K (.ref f)=true) (hv:mA name=none) (h:Q (.ref f,[.ref x]) s) :
  wpAny (model prog w) A (getMethod (.ref x) name pl) Q E s:=by
 obtain ⟨od,J,hl⟩:=I.look
 exact W.method_fn X J (W.plainGet_of hg).1 (W.plainGet_of hg).2 hf (beq_iff_eq.mp ht) (by show (W.lookIn name od).map (·.isSome)=some false; rw [hl,hv]; rfl) h
def Li {ns:List Str} {Q:Unit->Shared->Prop} (X:K.In s.heap) (I:ObjM s.heap x dx C mA)
  (hs:W.findIn K (.ref C) "__setattr__" = some (some (.builtin "object.__setattr__"))) (hp:W.plainOver K C=true) (ht:W.takerIn K C name=some none) (hh:W.hasDictIn K C=true)
  (hw:PySem.Within mA ns) (hsz:ns.length <= sizeLine)
  (h:∀ h',ObjM h' x dx C (λy=>if y=name then some v else mA y)->Heap.SameBut dx s.heap h'->Q () { s with heap:=h',toks:=s.toks + 2 }) :
  wpAny (model prog w) A (setAttr (.ref x) name v) Q E s:=by
 obtain ⟨od,J,hl⟩:=I.look
 refine W.set_plain X J hs (W.osa_open (s:={ s with toks:=s.toks + 1 }) (r:=none) X J hp ht λb=>?_)
 obtain ⟨cd,hc,hd'⟩:=W.any_some hh
 have hx:s.heap.get? x=some ⟨.ref C,some dx,.plain,#[]⟩:=I.obj
 refine zaa (zab (zaa (zaa (wpAny_loadPart hx (zaa (W.Looks.here (s:={ s with toks:=s.toks + 1 }) (W.looks_clsIn X hc) ?_))))))
 rw [hd']
 refine zab (a:=some dx) (zaa (zab (zaa ?_)))
 refine wpAny_nsSet1 (s:={ s with toks:=s.toks + 1 }) I.ns λh' hn2 hs2=>?_
 obtain ⟨oD,esD,epD,hoD,hdD,hcD⟩:=hn2.count (PySem.Within.cons name v hw)
 refine zaa (wpAny_lookBehind hoD (by rw [hdD]; exact pastItsLine_dict (zak hcD (by rw [zLc]; omega))) ?_)
 exact zab (h _ ⟨(hs2.2 _ (Ne.symm I.ne)).trans I.obj,hn2,I.ne⟩ hs2)
def Pt {R:Result->Shared->Prop} {vs:List Value} {kw:List (Str × Value)} (X:K.In s.heap) (hm:W.makesIn K C=true)
  (hi:W.findIn K (.ref C) "__init__" = some (some (.ref f))) (hf:W.typeIn K (.ref f)=some (.type "function"))
  (h:codeAny (model prog w) (A.under (.builtin "type.__call__" ⟨.ref C :: vs,kw⟩)) (.call (.ref f) ⟨.ref (s.heap.objs.size + 1) :: vs,kw⟩) (W.InitBack (s.heap.objs.size + 1) R)
   { s with heap:=(s.heap.push W.emptyDict).push (W.instObj C s.heap.objs.size) }) :
  codeAny (model prog w) A (.call (.ref C) ⟨vs,kw⟩) R s:=by
 obtain ⟨hh,g,d,t,os⟩:=s
 exact W.make_core (W.makes_of X hm) (W.looks_findIn X hi) (λself=>W.bind_fn X self hf) (.inl rfl) h
def putF (f:Str) (v:V):List (Str × V)->List (Str × V)
 | []=>[(f,v)]
 | (g,x) :: r=>if g=f then (g,v) :: r else (g,x) :: putF f v r
def jc (f g:Str) (v:V):∀ fs:List (Str × V),(putF f v fs).lookup g=if g=f then some v else fs.lookup g
 | []=>by
  show List.lookup g [(f,v)]=_
  by_cases h:g=f
  ·have hb:(g == f)=true:=beq_iff_eq.mpr h
   simp only [List.lookup,hb,if_pos h]
  ·have hb:(g == f)=false:=beq_eq_false_iff_ne.mpr h
   simp only [List.lookup,hb,if_neg h]
 | (k,x) :: r=>by
  have ih:=jc f g v r
  rw [show putF f v ((k,x) :: r)=(if k=f then (k,v) :: r else (k,x) :: putF f v r) from rfl]
  by_cases hk:k=f
  ·rw [if_pos hk]
   by_cases h:g=k
   ·have hb:(g == k)=true:=beq_iff_eq.mpr h
    simp only [List.lookup,hb,if_pos (h.trans hk)]
   ·have hb:(g == k)=false:=beq_eq_false_iff_ne.mpr h
    simp only [List.lookup,hb,if_neg (λe:g=f=>h (e.trans hk.symm))]
  ·rw [if_neg hk]
   by_cases h:g=k
   ·have hb:(g == k)=true:=beq_iff_eq.mpr h
    simp only [List.lookup,hb,if_neg (λe:g=f=>hk (h.symm.trans e))]
   ·have hb:(g == k)=false:=beq_eq_false_iff_ne.mpr h
    simp only [List.lookup,hb]
    exact ih
def jh (f:Str) (v:V):∀ fs:List (Str × V),f ∈ (putF f v fs).map (·.1) /\ ∀ g,g ∈ fs.map (·.1)->g ∈ (putF f v fs).map (·.1)
 | []=>⟨by simp [putF],λg h=>by simp at h⟩
 | (k,x) :: r=>by
  obtain ⟨i1,i2⟩:=jh f v r
  rw [show putF f v ((k,x) :: r)=(if k=f then (k,v) :: r else (k,x) :: putF f v r) from rfl]
  by_cases hk:k=f
  ·rw [if_pos hk]
   subst hk
   exact ⟨by simp,λg h=>by simpa using h⟩
  ·rw [if_neg hk]
   refine ⟨?_,λg h=>?_⟩
   ·rw [List.map_cons]
    exact zal _ i1
   ·rw [List.map_cons] at h ⊢
    rcases zam.mp h with e | e
    ·exact zam.mpr (.inl e)
    ·exact zal _ (i2 g e)
def je (f:Str) (v:V):∀ fs:List (Str × V),(putF f v fs).length <= fs.length + 1
 | []=>by simp [putF]
 | (k,x) :: r=>by
  have ih:=je f v r
  rw [show putF f v ((k,x) :: r)=(if k=f then (k,v) :: r else (k,x) :: putF f v r) from rfl]
  by_cases hk:k=f
  ·rw [if_pos hk,zLc,zLc]; omega
  ·rw [if_neg hk,zLc,zLc]; omega
def RelO.some_of {v:V} {o:Option Value} (r:RelO (some v) o):∃ u,o=some u /\ RelV v u:=by
 cases o with
 | none=>exact (show False from r).elim
 | some u=>exact ⟨u,rfl,r⟩
def RelO.none_of {o:Option Value} (r:RelO none o):o=none:=by
 cases o with
 | none=>rfl
 | some u=>exact (show False from r).elim
def R9 {v:V} {u:Value} (r:RelV v u):W.handedIn u=true:=by
 cases v with
 | non=>cases (show u=Value.none from r); rfl
 | bl b=>cases (show u=Value.bool b from r); rfl
 | int i=>obtain ⟨t,e⟩:=(show ∃ t,u=Value.int i t from r); cases e; rfl
 | str x=>obtain ⟨t,e⟩:=(show ∃ t,u=Value.str x t from r); cases e; rfl
 | byt b=>obtain ⟨t,e⟩:=(show ∃ t,u=Value.bytes b t from r); cases e; rfl
 | flt b=>obtain ⟨t,e⟩:=(show ∃ t,u=Value.float b t from r); cases e; rfl
 | ref a=>cases (show u=Value.ref a from r); rfl
 | ty n=>cases (show u=Value.type n from r); rfl
variable {a:Addr} {fs:List (Str × V)}
def ba (hok:HOk P w H h) (e:H a=some (.ins C dx fs)):∃ mA,ObjM h a dx C mA /\ (∀ f,RelO (fs.lookup f) (mA f)) /\ PySem.Within mA (fs.map (·.1)) /\ fs.length <= 1000 /\ H dx=some (.own a):=by
 obtain ⟨d,z,ne,ob,mA,n,r,q⟩:=(show wu P w H h a (.ins C dx fs) from hok a _ e)
 exact ⟨mA,⟨ob,n,ne⟩,r,q,z,d⟩
structure Cls (K:W.Frag) (C:Addr):Prop where
 pg:W.plainGet K C Str.empty=true
 hd:W.hasDictIn K C=true
 po:W.plainOver K C=true
 sa:W.findIn K (.ref C) "__setattr__" = some (some (.builtin "object.__setattr__"))
def Cls.get {K:W.Frag} {C:Addr} (c:Cls K C) (f:Str):W.plainGet K C f=true:=c.pg
def k9 (K:W.Frag) (C:Addr) (f:Str):Prop:=W.findIn K (.ref C) f=some none
def k9.taker {K:W.Frag} {C:Addr} {f:Str} (n:k9 K C f):W.takerIn K C f=some none:=by
 unfold W.takerIn
 rw [show W.findIn K (.ref C) f=some none from n]
 rfl
structure Con (K:W.Frag) (C:Addr) (f:Str) (v:V) (u:Value):Prop where
 at_:W.findIn K (.ref C) f=some (some u)
 rel:RelV v u
 get:W.specialIn K u "__get__" = some none
 cp:W.copiedNames.contains f=false
structure Meth (K:W.Frag) (C:Addr) (m:Str) (f:Addr):Prop where
 at_:W.findIn K (.ref C) m=some (some (.ref f))
 fn:W.isFn K (.ref f)=true
 kp:W.keepIn K (.ref f)=true
variable {f:Str} {v:V}
def Uh {b:Bool} {Q:Value->Shared->Prop} (I:Inv X pn σ H s) (e:H a=some (.ins C dx fs)) (c:Cls X.K C) (n:k9 X.K C f) (l:fs.lookup f=some v)
  (h:∀ u s',Inv X pn σ H s'->RelV v u->Q u s'):wpAny (model X.prog X.w) A (getAttr (.ref a) f b) Q E s:=by
 obtain ⟨mA,O,r,_,_,_⟩:=ba I.hok e
 obtain ⟨u,hu,ru⟩:=RelO.some_of (v:=v) (o:=mA f) (by rw [<- l]; exact r f)
 exact J7 I.kIn O (c.get f) c.hd n hu (R9 ru) (h u _ (I.tok _) ru)
def fq {m:Str} {g:Addr} {pl:Sem Bool} {Q:Value × List Value->Shared->Prop} (I:Inv X pn σ H s) (e:H a=some (.ins C dx fs)) (c:Cls X.K C) (k:Meth X.K C m g) (l:fs.lookup m=none)
  (h:Q (.ref g,[.ref a]) s):wpAny (model X.prog X.w) A (getMethod (.ref a) m pl) Q E s:=by
 obtain ⟨mA,O,r,_,_,_⟩:=ba I.hok e
 have hn:mA m=none:=RelO.none_of (by rw [<- l]; exact r m)
 exact Od I.kIn O (c.get m) k.at_ k.fn hn h
def Vz {y:V} {u:Value} {Q:Unit->Shared->Prop} (I:Inv X pn σ H s) (e:H a=some (.ins C dx fs)) (c:Cls X.K C) (n:k9 X.K C f) (hl:fs.length < 1000) (ry:RelV y u)
  (h:∀ s',Inv X pn σ (upd H a (.ins C dx (putF f y fs))) s'->Q () s'):wpAny (model X.prog X.w) A (setAttr (.ref a) f u) Q E s:=by
 obtain ⟨mA,O,r,wi,_,ho⟩:=ba I.hok e
 have hz:(fs.map (·.1)).length <= sizeLine:=by rw [zLm,sizeLine_eq]; omega
 refine Li I.kIn O c.sa c.po n.taker c.hd wi hz λh' O' sb=>h _ ?_
 have hd:∃ o,h'.get? dx=some o:=let ⟨o,_,_,e',_⟩:=O'.ns; ⟨o,e'⟩
 refine I.write (x:=a) (e:=dx) (by rw [e]; exact True.intro) (.inr ho) (λb q hb z=>(sb.2 b hb).trans z) hd ?_
 refine ⟨by rw [y7 O.ne]; exact ho,?_,O.ne,O'.obj,_,O'.ns,λg=>?_,λg hg=>?_⟩
 ·have:=je f y fs; omega
 ·show RelO ((putF f y fs).lookup g) (if g=f then some u else mA g)
  rw [jc]
  by_cases q:g=f
  ·rw [if_pos q,if_pos q]; exact ry
  ·rw [if_neg q,if_neg q]; exact r g
 ·by_cases q:g=f
  ·rw [q]; exact (jh f y fs).1
  ·refine (jh f y fs).2 g (wi g λz=>hg ?_)
   show (if g=f then some u else mA g)=none
   rw [if_neg q]; exact z
def Inv.made (I:Inv X pn σ H s):Inv X pn σ (upd (upd H s.heap.objs.size (.own (s.heap.objs.size + 1))) (s.heap.objs.size + 1) (.ins C s.heap.objs.size []))
  { s with heap:=(s.heap.push W.emptyDict).push (W.instObj C s.heap.objs.size) }:=by
 have e1:(s.heap.push W.emptyDict).get? s.heap.objs.size=some W.emptyDict:=zad s.heap rfl
 have e2:((s.heap.push W.emptyDict).push (W.instObj C s.heap.objs.size)).get? (s.heap.objs.size + 1)=some (W.instObj C s.heap.objs.size):=by
  have:=zad (s.heap.push W.emptyDict) (o:=W.instObj C s.heap.objs.size) rfl
  rwa [Heap.size_push] at this
 have e3:(s.heap.push W.emptyDict).Ns s.heap.objs.size (λ_=>none):=⟨W.emptyDict,#[],_,e1,rfl,(λe he=>absurd he (by simp)),λ_=>rfl⟩
 have I1:=I.laid (a:=s.heap.objs.size) (o:=.own (s.heap.objs.size + 1)) (h':=s.heap.push W.emptyDict) (t':=s.toks) (λb u q=>zac _ q) (zaj _) ⟨_,e1⟩
 refine I1.laid (a:=s.heap.objs.size + 1) (o:=.ins C s.heap.objs.size []) (t':=s.toks) (λb u q=>zac _ q) (Nat.le_of_eq (Heap.size_push _ _)) ?_
 have ne:s.heap.objs.size ≠ s.heap.objs.size + 1:=Nat.ne_of_lt (Nat.lt_succ_self _)
 refine ⟨by rw [y7 ne,zy],Nat.zero_le _,ne,e2,λ_=>none,(Heap.Ns1.of_empty e3).at λo q=>zac _ q,λ_=>True.intro,λy hy=>absurd rfl hy⟩
def Jq {prog:Program} {w:World} {env:Env} {e:Expr} {f:Str} {pos:Pos} {s:Shared} {Q:Value->Shared->Prop} (hb:attributeBase e f env (eval e env)=eval e env)
  (h:wpAny (model prog w) A (eval e env) (λo s₁=>wpAny (model prog w) A (getAttr o f true) Q E s₁) E s):wpAny (model prog w) A (eval (.Attribute e f pos) env) Q E s :=
 Attribute_any_ h (by rw [arm_eval_Attribute,hb])
def tFld (K:W.Frag) (ta:TE) (f:Str):TE:=λσ H Q=>ta σ H λx H1=>∃ a C dx fs v,x=.ref a /\ H1 a=some (.ins C dx fs) /\ Cls K C /\ k9 K C f /\ fs.lookup f=some v /\ Q v H1
def sFld (K:W.Frag) (ta tv:TE) (f:Str):TS:=λD σ H=>tv σ H λy H1=>ta σ H1 λx H2=>∃ a C dx fs,x=.ref a /\ H2 a=some (.ins C dx fs) /\ Cls K C /\ k9 K C f /\ fs.length < 1000 /\
 D.nx σ (upd H2 a (.ins C dx (putF f y fs)))
variable {o e value:Expr} {pos':Pos} {tv:TE}
def M5 (he:PE X e ta) (hb:attributeBase e f X.env (eval e X.env)=eval e X.env):PE X (.Attribute e f pos) (tFld X.K ta f):=by
 intro pn s σ H Q I h
 refine Jq hb (thn (he pn s σ H _ I h) λu s1 ⟨x,H1,I1,rx,a,C,dx,fs,v,ex,ea,c,n,l,q⟩=>?_)
 subst ex
 obtain rfl:u=Value.ref a:=rx
 exact Uh I1 ea c n l λu' s2 I2 ru=>⟨v,H1,I2,ru,q⟩
def Ny (ha:PE X o ta) (hv:PE X value tv) (hs:swapsWith value (some (.Attribute o f pos')) pos.line X.env=pure false):PS X (.Assign [.Attribute o f pos'] value pos) (sFld X.K ta tv f):=by
 intro pn s σ H D I h
 refine plainObj_wpAny_Assign_Attribute (thn (hv pn s σ H _ I h) λu s1 ⟨y,H1,I1,ry,q⟩=>thn (ha pn s1 σ H1 _ I1 q) λov s2 ⟨x,H2,I2,rx,a,C,dx,fs,ex,ea,c,n,l,q2⟩=>?_) hs
 subst ex
 obtain rfl:ov=Value.ref a:=rx
 exact Vz I2 ea c n l ry λs3 I3=>⟨σ,_,I3,q2⟩
variable {Q:Value->Shared->Prop} {c:Value} {b:Bool}
inductive TyOf (K:W.Frag) (H:Hp):V->Value->Prop where
 | non:TyOf K H .non (.type "NoneType")
 | bl (x:Bool):TyOf K H (.bl x) (.type "bool")
 | int (i:Int):TyOf K H (.int i) (.type "int")
 | str (x:Str):TyOf K H (.str x) (.type "str")
 | flt (x:UInt64):TyOf K H (.flt x) (.type "float")
 | lst {a:Addr} {xs:List V} (e:H a=some (.lst xs)):TyOf K H (.ref a) (.type "list")
 | frz {a:Addr} {o:Obj} {xs:List V} (e:H a=some (.frz o (.lst xs))):TyOf K H (.ref a) (.type "list")
 | tup {a:Addr} {xs:List V} (e:H a=some (.tup xs)):TyOf K H (.ref a) (.type "tuple")
 | dK {a:Addr} {kvs:List (Key × V)} (e:H a=some (.dK kvs)):TyOf K H (.ref a) (.type "dict")
 | dT {a:Addr} {kvs:List (List Key × V)} (e:H a=some (.dT kvs)):TyOf K H (.ref a) (.type "dict")
 | ins {a C dx:Addr} {fs:List (Str × V)} (e:H a=some (.ins C dx fs)) (cl:Cls K C) (ha:W.findIn K (.ref C) "__class__" = some (some (.builtin "object.__class__")))
   (hn:W.specialIn K (.builtin "object.__class__") "__get__" = some (some (.builtin "getset_descriptor.__get__"))) (htk:W.takesIn K (.builtin "object.__class__")=some true)
   (hm:W.mroIn K C (.type "object")=some true):TyOf K H (.ref a) (.ref C)
def u0 {x:V} {u t:Value} (I:Inv X pn σ H s) (rx:RelV x u) (ty:TyOf X.K H x t) (e:W.kitOne X.K t c=some b) (h:∀ tk,Q (.bool b) { s with toks:=tk }) :
  wpAny (model X.prog X.w) A (call (.builtin "isinstance") [u,c]) Q E s:=by
 cases ty with
 | non=>cases (show u=Value.none from rx); exact W.kia_one W.kitx_none I.kIn True.intro e (λz=>nomatch z) h
 | bl y=>cases (show u=Value.bool y from rx); exact W.kia_one W.kitx_bool I.kIn True.intro e (λz=>nomatch z) h
 | int i=>obtain ⟨t,q⟩:=(show ∃ t,u=Value.int i t from rx); cases q; exact W.kia_one W.kitx_int I.kIn True.intro e (λz=>nomatch z) h
 | str y=>obtain ⟨t,q⟩:=(show ∃ t,u=Value.str y t from rx); cases q; exact W.kia_one W.kitx_str I.kIn True.intro e (λz=>nomatch z) h
 | flt y=>obtain ⟨t,q⟩:=(show ∃ t,u=Value.float y t from rx); cases q; exact W.kia_one W.kitx_float I.kIn True.intro e (λz=>nomatch z) h
 | @lst a xs ea =>
  cases (show u=Value.ref a from rx)
  obtain ⟨_,_,n,_,h1⟩:=(show wu X.prog X.w H s.heap a (.lst xs) from I.hok a _ ea)
  exact W.kia_one W.kitx_list I.kIn ⟨_,h1,rfl⟩ e (λz=>nomatch z) h
 | @frz a ob xs ea =>
  cases (show u=Value.ref a from rx)
  obtain ⟨_,_,_,n,_,h1⟩:=(show wu X.prog X.w H s.heap a (.frz ob (.lst xs)) from I.hok a _ ea)
  exact W.kia_one W.kitx_list I.kIn ⟨_,h1,rfl⟩ e (λz=>nomatch z) h
 | @tup a xs ea =>
  cases (show u=Value.ref a from rx)
  obtain ⟨_,_,_,p⟩:=(show wu X.prog X.w H s.heap a (.tup xs) from I.hok a _ ea)
  obtain ⟨o,h1,h2,_⟩:=p.1
  exact W.kia_one W.kitx_tuple I.kIn ⟨o,h1,h2⟩ e (λz=>nomatch z) h
 | @dK a kvs ea =>
  cases (show u=Value.ref a from rx)
  obtain ⟨_,_,vs,_,p⟩:=(show wu X.prog X.w H s.heap a (.dK kvs) from I.hok a _ ea)
  obtain ⟨o,es,ep,h1,h2,_⟩:=p
  exact W.kia_one W.kitx_dict I.kIn ⟨o,h1,h2.1⟩ e (λz=>nomatch z) h
 | @dT a kvs ea =>
  cases (show u=Value.ref a from rx)
  obtain ⟨_,_,xs,_,o,es,ep,h1,h2,_⟩:=(show wu X.prog X.w H s.heap a (.dT kvs) from I.hok a _ ea)
  exact W.kia_one W.kitx_dict I.kIn ⟨o,h1,h2.1⟩ e (λz=>nomatch z) h
 | @ins a C dx fs ea cl ha hn htk hm =>
  cases (show u=Value.ref a from rx)
  obtain ⟨mA,O,_⟩:=ba I.hok ea
  obtain ⟨od,J,_⟩:=O.look
  exact W.kia_one (W.kitx_own (cl.get _) cl.hd ha hn htk hm) I.kIn J e (λz=>nomatch z) h
structure Room (k:Nat) (A:Around):Prop where
 hd:A.handled=none
 dp:A.depth + 3 * k + 5 < recursionLimit
 un:A.units + 16 * k + 200 < cLine
def Room.mono {j k:Nat} {A:Around} (r:Room k A) (h:j <= k):Room j A:=⟨r.hd,by have:=r.dp; omega,by have:=r.un; omega⟩
def Room.deeper {k:Nat} {A:Around} (r:Room (k + 1) A) (env:Env):Room k (A.deeper env) :=
 ⟨r.hd,by have:=r.dp; show A.depth + 1 + 3 * k + 5 < _; omega,by have:=r.un; show A.units + 3 + 16 * k + 200 < _; omega⟩
def Room.in1 {k:Nat} {A:Around} (r:Room (k + 1) A):Room k A.in1 :=
 ⟨r.hd,by have:=r.dp; show A.depth + 3 * k + 5 < _; omega,by have:=r.un; show A.units + 1 + 16 * k + 200 < _; omega⟩
def U9 {A:Around} {C:Addr} {us:List Value} {kw:List (Str × Value)}:(A.under (.builtin "type.__call__" ⟨.ref C :: us,kw⟩)).depth=A.depth + 1:=by
 first | rfl | simp [Around.under,Code.weight,Code.isCreation,Code.isGuard,Code.isCaller,Code.frames,Code.isFrame,guardIds]
def U8 {A:Around} {C:Addr} {us:List Value} {kw:List (Str × Value)}:(A.under (.builtin "type.__call__" ⟨.ref C :: us,kw⟩)).units=A.units + 1:=by
 first | rfl | simp [Around.under,Code.cUnits,Code.frames,Code.isFrame]
def Room.make {k:Nat} {A:Around} (r:Room (k + 1) A) (C:Addr) (us:List Value) (kw:List (Str × Value)):Room k (A.under (.builtin "type.__call__" ⟨.ref C :: us,kw⟩)) :=
 ⟨r.hd,by have:=r.dp; rw [U9]; omega,by have:=r.un; rw [U8]; omega⟩
def Room.depth {k:Nat} {A:Around} (r:Room k A):A.depth < recursionLimit:=by have:=r.dp; omega
def Room.units {k:Nat} {A:Around} (r:Room k A):A.units + 64 < cLine:=by have:=r.un; omega
def tNil:TA:=λ_ H Q=>Q [] H
def X1 (ta:TE) (tr:TA):TA:=λσ H Q=>ta σ H λx H1=>tr σ H1 λxs H2=>Q (x :: xs) H2
section
variable {es:List Expr} {te:TE} {t:TA}
def vi:PA X [] tNil:=λ_ _ _ _ H Q I h=>Calls.spliced_nil ⟨[],H,I,.nil,h⟩
def yx (ha:PE X e te) (hr:PA X es t) (hs:starEach (e :: es) X.env=(false,eval e X.env) :: starEach es X.env:=by rfl):PA X (e :: es) (X1 te t):=by
 intro pos pn s σ H Q I h
 rw [hs]
 show wpAny _ _ (spliced ((false,eval e X.env) :: backTo pos (starEach es X.env))) _ _ s
 refine Calls.spliced_cons (thn (ha pn s σ H _ I h) λu s1 ⟨x,H1,I1,r1,q1⟩=>?_)
 exact thn (hr pos pn s1 σ H1 _ I1 q1) λus s2 ⟨xs,H2,I2,r2,q2⟩=>⟨x :: xs,H2,I2,.cons r1 r2,q2⟩
def tTup (t:TA):TE:=λσ H Q=>t σ H λxs H1=>xs.length <= sizeLine /\ ∀ p,H1 p=none->Q (.ref p) (upd H1 p (.tup xs))
def tLst (t:TA):TE:=λσ H Q=>t σ H λxs H1=>xs.length <= sizeLine /\ ∀ p,H1 p=none->Q (.ref p) (upd H1 p (.lst xs))
def Wz {x1} (h:PA X es t):PE X (.Tuple es x1 pos) (tTup t):=by
 intro pn s σ H Q I hq
 refine wpAny_Tuple_spliced (thn (h pos pn s σ H _ I hq) λus s1 ⟨xs,H1,I1,r,z,q⟩=>⟨by rw [<- r.length]; exact z,?_⟩)
 have hf:H1 s1.heap.objs.size=none:=I1.hok.fresh (zaj _)
 refine ⟨.ref s1.heap.objs.size,upd H1 s1.heap.objs.size (.tup xs),I1.laid (t':=s1.toks) (λb u e=>zac _ e) (zaj _) ?_,rfl,q _ hf⟩
 exact ⟨z,us,r,⟨_,zad _ rfl,rfl,_,rfl⟩,_,zad _ rfl,rfl⟩
def M4 (h:PA X es t):PE X (.List es pos) (tLst t):=by
 intro pn s σ H Q I hq
 refine wpAny_List_spliced (thn (h pos pn s σ H _ I hq) λus s1 ⟨xs,H1,I1,r,z,q⟩=>⟨by rw [<- r.length]; exact z,?_⟩)
 have hf:H1 s1.heap.objs.size=none:=I1.hok.fresh (zaj _)
 refine ⟨.ref s1.heap.objs.size,upd H1 s1.heap.objs.size (.lst xs),I1.laid (t':=s1.toks) (λb u e=>zac _ e) (zaj _) ?_,rfl,q _ hf⟩
 exact ⟨z,us,0,r,zad _ rfl⟩
end
abbrev Sp:=List V->Hp->VK->XK->Prop
abbrev CXT:=List Env->Hp->Shared->XK->Value->Shared->Prop
structure Env0 (P:Program) (w:World) (K:W.Frag) (mg:Str->Option Value) (base:Heap) (A:Around) (outer:List Env) (s:Shared) (H:Hp):Prop where
 frames:A.frames=some outer
 mod:Mod K mg base
 bs:∀ b o,base.get? b=some o->s.heap.get? b=some o /\ H b=none
 bsz:base.objs.size <= s.heap.objs.size
 funs:s.heap.FunFrames base outer
 frf:∀ b ∈ frs outer,H b=none
 hok:HOk P w H s.heap
 bare:AllBare s.gens
def CE (outer:List Env) (P:Program) (w:World) (H:Hp) (s:Shared) (Q:VK) (u:Value) (s':Shared):Prop :=
 ∃ v H',s'.os=s.os /\ AllBare s'.gens /\ Un (frs outer) [] H H' s.heap s'.heap /\ HOk P w H' s'.heap /\ RelV v u /\ Q v H'
def CR (CX:CXT) (outer:List Env) (P:Program) (w:World) (H:Hp) (s:Shared) (Q:VK) (E:XK) (r:Result) (s':Shared):Prop :=
 match r with
 | .ok (.ret u)=>CE outer P w H s Q u s'
 | .ok _=>False
 | .error e=>CX outer H s E e s'
structure FnOk (P:Program) (w:World) (K:W.Frag) (mg:Str->Option Value) (base:Heap) (CX:CXT) (k:Nat) (f:Addr) (fd:FuncData) (ps:List Str) (sp:Sp):Prop where
 len:∀ vs H Q E,sp vs H Q E->vs.length=ps.length
 run:∀ (A:Around) (outer:List Env) (s:Shared) (H:Hp) (args:Args) (us:List Value) (vs:List V) (Q:VK) (E:XK),Room k A->Env0 P w K mg base A outer s H->BindsTo s fd args (ps.zip us)->Vals vs us->sp vs H Q E ->
  codeAny (model P w) A (.call (.ref f) args) (CR CX outer P w H s Q E) s
def Env0.make {P:Program} {w:World} {K:W.Frag} {mg:Str->Option Value} {base:Heap} {A:Around} {outer:List Env} {s:Shared} {H:Hp} (e:Env0 P w K mg base A outer s H) (C:Addr) (us:List Value) (kw:List (Str × Value)) :
  Env0 P w K mg base (A.under (.builtin "type.__call__" ⟨.ref C :: us,kw⟩)) outer s H:=⟨by first | exact e.frames | (simpa [Around.under,Code.envs,Code.isFrame,pushEnvs] using e.frames),e.mod,e.bs,e.bsz,e.funs,e.frf,e.hok,e.bare⟩
def Env0.in1 {P:Program} {w:World} {K:W.Frag} {mg:Str->Option Value} {base:Heap} {A:Around} {outer:List Env} {s:Shared} {H:Hp} (e:Env0 P w K mg base A outer s H) :
  Env0 P w K mg base A.in1 outer s H:=⟨e.frames,e.mod,e.bs,e.bsz,e.funs,e.frf,e.hok,e.bare⟩
variable {s':Shared}
def Inv.env0 (I:Inv X pn σ H s):Env0 X.prog X.w X.K X.mg X.base X.A X.stack s H :=
 ⟨I.ok.frames,I.ok.mod,I.bs,zak I.ok.bsz I.sz,I.stack,I.stkFree,I.hok,I.bare⟩
def Inv.after {Q:VK} {u:Value} (I:Inv X pn σ H s) (h:CE X.stack X.prog X.w H s Q u s'):EP X pn σ Q u s':=by
 obtain ⟨v,H',os,bare,un,hok,r,q⟩:=h
 obtain ⟨hh,g,d,t,os'⟩:=s'
 obtain rfl:os'=s.os:=os
 exact ⟨v,H',I.call (h':=hh) (g':=g) (d':=d) (t':=t) (ch:=[]) un hok bare (λb z=>absurd z (by simp)),r,q⟩
def Hi (sp:Sp) (dvs:List V) (E:XK) (t:TA):TE:=λσ H Q=>t σ H λvs H1=>sp (vs ++ dvs) H1 Q E
def Qv (C:Addr) (m:Str) (sp:Sp) (dvs:List V) (E:XK) (ta:TE) (t:TA):TE:=λσ H Q=>ta σ H λx H1=>∃ a dx fs,x=.ref a /\ H1 a=some (.ins C dx fs) /\ fs.lookup m=none /\
 t σ H1 λvs H2=>sp (x :: (vs ++ dvs)) H2 Q E
def dr (C:Addr) (sp:Sp) (dvs:List V) (E:XK) (t:TA):TE:=λσ H Q=>t σ H λvs H1=>∀ x dx,H1 x=none->H1 dx=none->dx ≠ x ->
 sp (.ref x :: (vs ++ dvs)) (upd (upd H1 dx (.own x)) x (.ins C dx [])) (λv H2=>v=.non /\ Q (.ref x) H2) E
def Binds (K:W.Frag) (fd:FuncData) (ps:List Str) (ds:List Value):Prop :=
 ∀ (s:Shared) (us:List Value),K.In s.heap->(us ++ ds).length=ps.length->BindsTo s fd ⟨us,[]⟩ (ps.zip (us ++ ds))
def Binds.all {K:W.Frag} {fd:FuncData} {ps:List Str} (h:∀ us:List Value,us.length=ps.length->bindArgs fd ⟨us,[]⟩=pure (ps.zip us)):Binds K fd ps []:=λs us _ hl=>by
 rw [List.append_nil] at hl ⊢
 exact .of_eq (h us hl)
def jz (CX:CXT) (X:Cx) (E:XK):Prop:=∀ (pn:List (Addr × Obj)) (σ:St) (H:Hp) (s:Shared) (e:Value) (s':Shared),Inv X pn σ H s->CX X.stack H s E e s'->X.xe e s'
section
variable {CX:CXT} {k:Nat} {f:Addr} {fd:FuncData} {ps:List Str} {sp:Sp} {dvs:List V} {ds:List Value} {E:XK} {x m:Str} {p apos:Pos} {es:List Expr} {t:TA}
def Tf {pn:List (Addr × Obj)} {σ:St} {H:Hp} {s:Shared} {Q:VK} {us:List Value} {vs:List V} (F:FnOk X.prog X.w X.K X.mg X.base CX k f fd ps sp) (hr:Room k X.A) (hb:Binds X.K fd ps ds) (hd:Vals dvs ds) (hx:jz CX X E)
  (I:Inv X pn σ H s) (r:Vals vs us) (h:sp (vs ++ dvs) H Q E):wpAny (model X.prog X.w) X.A (call (.ref f) us) (EP X pn σ Q) X.xe s:=by
 have r2:Vals (vs ++ dvs) (us ++ ds):=r.append hd
 have hl:(us ++ ds).length=ps.length:=by rw [<- r2.length]; exact F.len _ _ _ _ h
 refine wpAny_call (codeAny_mono (F.run X.A X.stack s H ⟨us,[]⟩ (us ++ ds) (vs ++ dvs) Q E hr I.env0 (hb s us I.kIn hl) r2 h) λr s' hq=>?_)
 cases r with
 | error e=>exact hx pn σ H s e s' I hq
 | ok fl =>
  cases fl with
  | ret u=>exact I.after hq
  | next=>exact False.elim hq
  | brk=>exact False.elim hq
  | cont=>exact False.elim hq
def cg (F:FnOk X.prog X.w X.K X.mg X.base CX k f fd ps sp) (hr:Room k X.A) (hg:Gl X x) (hm:X.mg x=some (.ref f)) (hk:W.keepIn X.K (.ref f)=true) (hb:Binds X.K fd ps ds) (hd:Vals dvs ds) (hx:jz CX X E)
  (ha:PA X (e :: es) t) (hdb:(x == ("__debug__" : Str))=false:=by decide) (he:starEach (e :: es) X.env=(false,eval e X.env) :: starEach es X.env:=by rfl) (hpl:(backTo pos (starEach es X.env)).any (·.1)=false:=by rfl) :
  PE X (.Call (.Name x p) (e :: es) [] pos) (Hi sp dvs E t):=by
 intro pn s σ H Q I h
 refine wpAny_Call_Name_kw (Xe I hg hm ?_ hdb)
 refine W.callWith_K (h₀:=X.base) I.ok.mod.kin hk (thn (ha pos pn s σ H _ I h) λus s1 ⟨vs,H1,I1,r,q⟩=>⟨I1.kIn,?_⟩) he hpl
 exact Tf F hr hb hd hx I1 r q
def S7 {pl:Sem Bool} (he:PE X o ta) (c:Cls X.K C) (hm:Meth X.K C m f) (F:FnOk X.prog X.w X.K X.mg X.base CX k f fd ps sp) (hr:Room k X.A) (hb:Binds X.K fd ps ds) (hd:Vals dvs ds) (hx:jz CX X E) (ha:PA X (e :: es) t)
  (hst:starEach (e :: es) X.env=(false,eval e X.env) :: starEach es X.env:=by rfl) (hpl:(backTo pos (starEach es X.env)).any (·.1)=false:=by rfl)
  (ht:eval (.Call (.Attribute o m apos) (e :: es) [] pos) X.env=(do
   let ov <- eval o X.env
   standAt apos.atName
   let (f,first) <- holding [ov] (getMethod ov m pl)
   callWith pos f first (backTo pos (starEach (e :: es) X.env)) (backToKw pos (keywordEach [] X.env))):=by rfl) :
  PE X (.Call (.Attribute o m apos) (e :: es) [] pos) (Qv C m sp dvs E ta t):=by
 intro pn s σ H Q I h
 refine W.methodCall_KW (pl:=pl) (thn (he pn s σ H _ I h) λu s1 ⟨x,H1,I1,rx,a,dx,fs,ex,ea,l,q⟩=>?_) ht
 subst ex
 obtain rfl:u=Value.ref a:=rx
 refine fq I1 ea c hm l ?_
 refine W.callWith_K (first:=[.ref a]) (h₀:=X.base) I.ok.mod.kin hm.kp (thn (ha pos pn s1 σ H1 _ I1 q) λus s2 ⟨vs,H2,I2,r,q2⟩=>⟨I2.kIn,?_⟩) hst hpl
 exact Tf (us:=.ref a :: us) (vs:=.ref a :: vs) F hr hb hd hx I2 (.cons rfl r) q2
def V0 {pl:Sem Bool} (he:PE X o ta) (c:Cls X.K C) (hm:Meth X.K C m f) (F:FnOk X.prog X.w X.K X.mg X.base CX k f fd ps sp) (hr:Room k X.A) (hb:Binds X.K fd ps ds) (hd:Vals dvs ds) (hx:jz CX X E)
  (ht:eval (.Call (.Attribute o m apos) [] [] pos) X.env=(do
   let ov <- eval o X.env
   standAt apos.atName
   let (f,first) <- holding [ov] (getMethod ov m pl)
   callWith pos f first (backTo pos (starEach [] X.env)) (backToKw pos (keywordEach [] X.env))):=by rfl) :
  PE X (.Call (.Attribute o m apos) [] [] pos) (Qv C m sp dvs E ta tNil):=by
 intro pn s σ H Q I h
 refine W.methodCall_KW (pl:=pl) (thn (he pn s σ H _ I h) λu s1 ⟨x,H1,I1,rx,a,dx,fs,ex,ea,l,q⟩=>?_) ht
 subst ex
 obtain rfl:u=Value.ref a:=rx
 refine fq I1 ea c hm l ?_
 exact W.callWith_K0 (first:=[.ref a]) I1.kIn hm.kp (Tf (us:=[.ref a]) (vs:=[.ref a]) F hr hb hd hx I1 (.cons rfl .nil) q)
structure Mk (K:W.Frag) (C f:Addr):Prop where
 makes:W.makesIn K C=true
 init:W.findIn K (.ref C) "__init__" = some (some (.ref f))
 fn:W.isFn K (.ref f)=true
 kp:W.keepIn K (.ref C)=true
def P7 {pn:List (Addr × Obj)} {σ:St} {H:Hp} {s:Shared} {Q:VK} {us:List Value} {vs:List V} (M:Mk X.K C f) (F:FnOk X.prog X.w X.K X.mg X.base CX k f fd ps sp) (hr:Room (k + 1) X.A) (hb:Binds X.K fd ps ds) (hd:Vals dvs ds)
  (hx:jz CX X E) (I:Inv X pn σ H s) (r:Vals vs us)
  (h:∀ x dx,H x=none->H dx=none->dx ≠ x->sp (.ref x :: (vs ++ dvs)) (upd (upd H dx (.own x)) x (.ins C dx [])) (λv H2=>v=.non /\ Q (.ref x) H2) E) :
  wpAny (model X.prog X.w) X.A (call (.ref C) us) (EP X pn σ Q) X.xe s:=by
 have hq:=h (s.heap.objs.size + 1) s.heap.objs.size (I.hok.fresh (Nat.le_succ _)) (I.hok.fresh (zaj _)) (Nat.ne_of_lt (Nat.lt_succ_self _))
 have I2:=Inv.made (C:=C) I
 have r2:Vals (V.ref (s.heap.objs.size + 1) :: (vs ++ dvs)) (Value.ref (s.heap.objs.size + 1) :: (us ++ ds)):=.cons rfl (r.append hd)
 have hl:(Value.ref (s.heap.objs.size + 1) :: us ++ ds).length=ps.length:=by
  have e:=r2.length
  rw [F.len _ _ _ _ hq] at e
  exact e.symm
 refine wpAny_call (Pt (f:=f) I.kIn M.makes M.init (beq_iff_eq.mp M.fn) (codeAny_mono (F.run _ X.stack _ _ ⟨Value.ref (s.heap.objs.size + 1) :: us,[]⟩ (Value.ref (s.heap.objs.size + 1) :: (us ++ ds)) _ _ E (hr.make C us [])
  (I2.env0.make C us []) (hb _ (Value.ref (s.heap.objs.size + 1) :: us) I2.kIn hl) r2 hq) λr s' hq'=>?_))
 cases r with
 | error e=>exact hx pn σ _ _ e s' I2 hq'
 | ok fl =>
  cases fl with
  | ret u =>
   obtain ⟨v,H',I3,rv,ev,q3⟩:=I2.after hq'
   subst ev
   exact ⟨rv,⟨V.ref (s.heap.objs.size + 1),H',I3,rfl,q3⟩⟩
  | next=>exact False.elim hq'
  | brk=>exact False.elim hq'
  | cont=>exact False.elim hq'
def Kb (M:Mk X.K C f) (F:FnOk X.prog X.w X.K X.mg X.base CX k f fd ps sp) (hr:Room (k + 1) X.A) (hg:Gl X x) (hm:X.mg x=some (.ref C)) (hb:Binds X.K fd ps ds) (hd:Vals dvs ds) (hx:jz CX X E)
  (ha:PA X (e :: es) t) (hdb:(x == ("__debug__" : Str))=false:=by decide) (he:starEach (e :: es) X.env=(false,eval e X.env) :: starEach es X.env:=by rfl) (hpl:(backTo pos (starEach es X.env)).any (·.1)=false:=by rfl) :
  PE X (.Call (.Name x p) (e :: es) [] pos) (dr C sp dvs E t):=by
 intro pn s σ H Q I h
 refine wpAny_Call_Name_kw (Xe I hg hm ?_ hdb)
 refine W.callWith_K (h₀:=X.base) I.ok.mod.kin M.kp (thn (ha pos pn s σ H _ I h) λus s1 ⟨vs,H1,I1,r,q⟩=>⟨I1.kIn,?_⟩) he hpl
 exact P7 M F hr hb hd hx I1 r q
end
structure zw (N P:List Str) (sc:Scope):Prop where
 kind:sc.kind=.function
 co:sc.isCoroutine=false
 gen:sc.isGenerator=false
 nd:N.Nodup
 pre:N.take P.length=P
 par:∀ x ∈ P,sc.names.lookup x=some .local \/ sc.names.lookup x=some .cell
 nofree:∀ y ∈ sc.names,y.2 ≠ .free
def Ys {kindOf:Str->Option NameKind} {x:Str}:∀ {binds:List (Str × Value)} {m:Str->Option Value},(∀ v,(x,v) ∉ binds)->bindL kindOf binds m x=m x
 | [],_,_=>rfl
 | (n,v) :: r,m,h=>by
  unfold bindL
  rw [Ys λw hw=>h w (zal _ hw)]
  split
  ·have:x ≠ n:=by rintro rfl; exact h v zao
   simp [this]
  ·rfl
def Yu {kindOf:Str->Option NameKind} {x:Str}:∀ {binds:List (Str × Value)} {m:Str->Option Value},(∀ v,(x,v) ∉ binds)->bindC kindOf binds m x=m x
 | [],_,_=>rfl
 | (n,v) :: r,m,h=>by
  unfold bindC
  rw [Yu λw hw=>h w (zal _ hw)]
  split
  ·rfl
  ·have:x ≠ n:=by rintro rfl; exact h v zao
   simp [this]
def Yt {kindOf:Str->Option NameKind} {x:Str} {v:Value}:∀ {P:List Str} {vs:List Value} {i:Nat} {m:Str->Option Value},P.Nodup->P[i]?=some x->vs[i]?=some v->kindOf x=some .local ->
  bindL kindOf (P.zip vs) m x=some v
 | [],_,_,_,_,h,_,_=>by simp at h
 | _ :: _,[],_,_,_,_,h,_=>by simp at h
 | p :: P,w :: vs,0,m,nd,h1,h2,hk=>by
  simp at h1 h2; subst h1; subst h2
  show bindL kindOf ((p,w) :: P.zip vs) m p=_
  unfold bindL
  rw [Ys λv hv=>(List.nodup_cons.mp nd).1 (List.of_mem_zip hv).1,if_pos hk]
  simp
 | p :: P,w :: vs,i + 1,m,nd,h1,h2,hk=>by
  show bindL kindOf ((p,w) :: P.zip vs) m x=_
  unfold bindL
  exact Yt (i:=i) (List.nodup_cons.mp nd).2 (by simpa using h1) (by simpa using h2) hk
def Yv {kindOf:Str->Option NameKind} {x:Str} {v:Value}:∀ {P:List Str} {vs:List Value} {i:Nat} {m:Str->Option Value},P.Nodup->P[i]?=some x->vs[i]?=some v->kindOf x ≠ some .local ->
  bindC kindOf (P.zip vs) m x=some v
 | [],_,_,_,_,h,_,_=>by simp at h
 | _ :: _,[],_,_,_,_,h,_=>by simp at h
 | p :: P,w :: vs,0,m,nd,h1,h2,hk=>by
  simp at h1 h2; subst h1; subst h2
  show bindC kindOf ((p,w) :: P.zip vs) m p=_
  unfold bindC
  rw [Yu λv hv=>(List.nodup_cons.mp nd).1 (List.of_mem_zip hv).1,if_neg hk]
  simp
 | p :: P,w :: vs,i + 1,m,nd,h1,h2,hk=>by
  show bindC kindOf ((p,w) :: P.zip vs) m x=_
  unfold bindC
  exact Yv (i:=i) (List.nodup_cons.mp nd).2 (by simpa using h1) (by simpa using h2) hk
def start (N:List Str) (vs:List V):St:=vs.map some ++ List.replicate (N.length - vs.length) none
def cxOf (CX:CXT) (P:Program) (w:World) (K:W.Frag) (mg:Str->Option Value) (base:Heap) (N:List Str) (qual:Str) (scope:Scope) (f:Addr) (cd:Value) (A:Around) (outer:List Env) (s:Shared) (H:Hp) (E:XK):Cx where
 prog:=P
 w:=w
 K:=K
 mg:=mg
 base:=base
 A:=A.deeper (envOfC qual scope s.heap.objs.size f cd)
 N:=N
 s₀:=s
 H₀:=H
 env:=envOfC qual scope s.heap.objs.size f cd
 outer:=outer
 stack:=envOfC qual scope s.heap.objs.size f cd :: outer
 ex:=[]
 calm:=true
 fn:=λ_=>true
 pn:=[]
 xe:=λe s'=>wpAny (model P w) (A.deeper (envOfC qual scope s.heap.objs.size f cd)) (leaving (envOfC qual scope s.heap.objs.size f cd) e) (λ_ s''=>CX outer H s E e s'') (λe' s''=>CX outer H s E e' s'') s'
def Vp {sc:Scope} {n:Nat} {x:Str} (h:sc.names.lookup x=some .cell):∃ c,(cellsFrom n sc.names []).lookup x=some c:=by
 have q:=W.cellsFrom_some sc.names n [] (.inl h)
 exact Option.isSome_iff_exists.mp q
def R6 {CX:CXT} {P:Program} {w:World} {K:W.Frag} {mg:Str->Option Value} {base:Heap} {N ps:List Str} {qual:Str} {scope:Scope} {f:Addr} {cd:Value} {A:Around} {outer:List Env} {s s1:Shared} {H:Hp} {E:XK} {us:List Value} {vs:List V}
  (S:zw N ps scope) (hd:A.handled=none) (e0:Env0 P w K mg base A outer s H) (hl:vs.length=ps.length) (r:Vals vs us)
  (x:InCallC s s.heap.objs.size (bindL (envOfC qual scope s.heap.objs.size f cd).kindOf (ps.zip us) λ_=>none) (cellsFrom (s.heap.objs.size + 1) scope.names []) (bindC (envOfC qual scope s.heap.objs.size f cd).kindOf (ps.zip us) λ_=>none) s1) :
  Inv (cxOf CX P w K mg base N qual scope f cd A outer s H E) [] (start N vs) H s1:=by
 have hpl:ps.length <= N.length:=by have:=congrArg List.length S.pre; rw [List.length_take] at this; omega
 obtain ⟨h1,tk,rfl,hk⟩:=x.done
 have noA:∀ b:Addr,b ∉ (cxOf CX P w K mg base N qual scope f cd A outer s H E).ex:=λb z=>absurd (show b ∈ ([]:List Addr) from z) (by simp)
 refine ⟨⟨e0.mod,S.kind,rfl,rfl,zaj _,λy z c h1 h2=>?_,λy hy=>?_,λy c _ h=>?_,λ_=>hd,Around.frames_deeper e0.frames,.inr ⟨rfl,rfl⟩,λb z=>absurd z (noA b),e0.bs,e0.bsz,λb _ _=>noA b,λb z=>absurd z (noA b),e0.funs,e0.frf⟩,
  rfl,e0.bare,Un.kept hk,⟨_,x.toInCall.ns,λi y v h1 h2 h3=>?_⟩,λy c h=>⟨_,x.cell y c h⟩,e0.hok.fresh (zaj _),λy c h=>?_,λp hp=>absurd (show p ∈ ([]:List (Addr × Obj)) from hp) (by simp),e0.hok.kept hk,?_⟩
 ·exact name_of_addr x.apart (PySem.mem_of_lookup h1) (PySem.mem_of_lookup h2)
 ·have hy:scope.names.lookup y=some .cell \/ scope.names.lookup y=some .free:=hy
  rcases hy with hy | hy
  ·exact Vp hy
  ·exact absurd rfl (S.nofree _ (PySem.mem_of_lookup hy))
 ·exact Nat.le_of_lt (x.above y c (PySem.mem_of_lookup h))
 ·have hi:i < vs.length:=by
   unfold start at h2
   by_cases hi:i < vs.length
   ·exact hi
   ·rw [List.getElem?_append_right (by simpa using hi)] at h2
    rw [List.getElem?_replicate] at h2
    split at h2 <;> cases h2
  have ha:vs[i]?=some v:=by
   unfold start at h2
   rw [List.getElem?_append_left (by simpa using hi),zai] at h2
   cases e:vs[i]? with
   | none=>rw [e] at h2; cases h2
   | some a=>rw [e] at h2; cases h2; rfl
  obtain ⟨u,hu,rv⟩:=r.get ha
  have hp:ps[i]?=some y:=by
   rw [<- S.pre,List.getElem?_take_of_lt (by omega)]; exact h1
  have ndP:ps.Nodup:=by rw [<- S.pre]; exact S.nd.sublist (List.take_sublist _ _)
  refine ⟨u,rv,?_⟩
  rcases S.par y (zan hp) with k | k
  ·exact .inl ⟨k,Yt ndP hp hu k⟩
  ·obtain ⟨c,e⟩:=Vp (n:=s.heap.objs.size + 1) k
   refine .inr ⟨.inl k,c,e,?_⟩
   have q:=x.cell y c e
   rw [Yv ndP hp hu (by show scope.names.lookup y ≠ _; rw [k]; decide)] at q
   exact q
 ·exact e0.hok.fresh (Nat.le_of_lt (x.above y c (PySem.mem_of_lookup h)))
 ·unfold start
  show _=N.length
  rw [zLa,zLm,List.length_replicate]
  omega
def Eg {CX:CXT} {P:Program} {w:World} {K:W.Frag} {mg:Str->Option Value} {base:Heap} {k:Nat} {f:Addr} {name qual:Str} {params:Arguments} {body:List Stmt} {scope:Scope} {dV kV doc pm qZ ct oc:Value} {an od:Option Addr}
  {osl:Array (Option Value)} {N ps:List Str} {sp:Sp} (lk:K.lookup f=some ⟨oc,od,.func (W.fnOf name qual params body scope dV kV doc pm an qZ ct),osl⟩) (hcd:W.codeIn K qZ qual=true) (S:zw N ps scope)
  (len:∀ vs H Q E,sp vs H Q E->vs.length=ps.length)
  (qY:∀ (A:Around) (outer:List Env) (s:Shared) (H:Hp) (vs:List V) (Q:VK) (E:XK),Room k (A.deeper (envOfC qual scope s.heap.objs.size f qZ))->sp vs H Q E ->
   ∃ t,PSs (cxOf CX P w K mg base N qual scope f qZ A outer s H E) body t /\ t { nx:=λ_ H'=>Q .non H',rt:=Q } (start N vs) H) :
  FnOk P w K mg base CX (k + 1) f (W.fnOf name qual params body scope dV kV doc pm an qZ ct) ps sp:=by
 refine ⟨len,λA outer s H args us vs Q E hr e0 hb r hsp=>?_⟩
 have hl:=len _ _ _ _ hsp
 have KX:K.In s.heap:=e0.mod.kin.keeps λb o e=>(e0.bs b o e).1
 have lim:s.heap.NoLimit:=e0.mod.nolimit.keeps λb o e=>(e0.bs b o e).1
 have hkind:∀ y ∈ ps.zip us,scope.names.lookup y.1=some .local \/ (scope.names.lookup y.1=some .cell /\ ((cellsFrom (s.heap.objs.size + 1) scope.names []).lookup y.1).isSome=true):=λ⟨n,v⟩ hy=>by
  rcases S.par n (List.of_mem_zip hy).1 with q | q
  ·exact .inl q
  ·exact .inr ⟨q,W.cellsFrom_some _ _ _ (.inl q)⟩
 refine codeAny_call_function hr.depth (KX _ _ lk) rfl S.co S.gen rfl (W.codeRec_of KX hcd) (hb _ _ _ _ ?_)
 refine wpAny_newFunctionEnv_cells S.kind hkind λenv he s1 x=>?_
 subst he
 refine ⟨lim.keeps x.toInCall.keep,codeAny_func ?_⟩
 obtain ⟨t,ht,hq⟩:=qY A outer s H vs Q E (hr.deeper _) hsp
 have I:Inv (cxOf CX P w K mg base N qual scope f qZ A outer s H E) [] (start N vs) H s1:=R6 S hr.hd e0 hl r x
 refine wpAny_mono (ht [] s1 (start N vs) H _ I hq) (λfl s' hs=>?_) λe s' hs=>hs
 have fin:∀ {σ':St} {H':Hp} {v:V} {u:Value},Inv (cxOf CX P w K mg base N qual scope f qZ A outer s H E) [] σ' H' s'->RelV v u->Q v H'->CE outer P w H s Q u s' :=
  λ{σ' H' v u} J rv q=>⟨v,H',J.os,J.bare,J.base,J.hok,rv,q⟩
 cases fl with
 | ret u =>
  obtain ⟨v,σ',H',J,rv,q⟩:=hs
  exact fin J rv q
 | next =>
  obtain ⟨σ',H',J,q⟩:=hs
  exact fin (v:=V.non) (u:=Value.none) J rfl q
 | brk =>
  obtain ⟨_,_,_,q⟩:=hs
  exact False.elim q
 | cont =>
  obtain ⟨_,_,_,q⟩:=hs
  exact False.elim q
section
variable {x:Str} {p:Pos} {es:List Expr} {t:TA} {id T:String} {r:List V->Hp->VK->Prop}
def tCB (r:List V->Hp->VK->Prop) (t:TA):TE:=λσ H Q=>t σ H λvs H1=>r vs H1 Q
def Po (hc:uv X (.builtin id) r) (hg:Gl X x) (hm:X.mg x=none) (hv:bootBuiltins x=some (.builtin id)) (ha:PA X (e :: es) t) (hn:x ≠ "__name__":=by decide) (hdb:(x == ("__debug__" : Str))=false:=by decide)
  (he:starEach (e :: es) X.env=(false,eval e X.env) :: starEach es X.env:=by rfl) (hpl:(backTo pos (starEach es X.env)).any (·.1)=false:=by rfl):PE X (.Call (.Name x p) (e :: es) [] pos) (tCB r t):=by
 intro pn s σ H Q I h
 refine wpAny_Call_Name_kw (k5 I hg hm hv ?_ hn hdb)
 exact PyProof.Rows.callWith_builtin1 (thn (ha pos pn s σ H _ I h) λus s1 ⟨vs,H1,I1,r1,q1⟩=>hc pn s1 σ H1 vs us Q I1 r1 q1) he hpl
def Sa (hc:uv X (.type T) r) (hg:Gl X x) (hm:X.mg x=none) (hv:bootBuiltins x=some (.type T)) (ha:PA X (e :: es) t) (hn:x ≠ "__name__":=by decide) (hdb:(x == ("__debug__" : Str))=false:=by decide)
  (he:starEach (e :: es) X.env=(false,eval e X.env) :: starEach es X.env:=by rfl) (hpl:(backTo pos (starEach es X.env)).any (·.1)=false:=by rfl):PE X (.Call (.Name x p) (e :: es) [] pos) (tCB r t):=by
 intro pn s σ H Q I h
 refine wpAny_Call_Name_kw (k5 I hg hm hv ?_ hn hdb)
 exact PyProof.Rows.callWith_type1 (thn (ha pos pn s σ H _ I h) λus s1 ⟨vs,H1,I1,r1,q1⟩=>hc pn s1 σ H1 vs us Q I1 r1 q1) he hpl
end
section
open PySem.SeqAt
open PySem.AutoSeq1 (wpAny_loadPart')
open PySem.MeetsSeq PySem.MeetsSeq2 PySem.MeetsSeq3
end
def cat_tup {t b:Addr} {vs ws:List Value} {Q:Value->Shared->Prop} (ht:IsTup s.heap t vs.toArray) (hb:IsTup s.heap b ws.toArray) (hv:vs ≠ [])
  (h1:ws=[]->Q (.ref t) s) (h2:ws ≠ []->Q (.ref s.heap.objs.size) { s with heap:=s.heap.push { cls:=.type "tuple", data:=.seq (vs ++ ws).toArray } })
  (hsz:vs.length + ws.length <= sizeLine):wpAny (model prog w) A (binaryOp .Add (.ref t) (.ref b)) Q E s:=by
 obtain ⟨⟨cls,dd,data,sl⟩,ho,hc,n,hd⟩:=id ht
 obtain ⟨⟨cls2,dd2,data2,sl2⟩,ho2,hc2,n2,hd2⟩:=id hb
 simp only at hc hd hc2 hd2
 subst hc hd hc2 hd2
 have e:vs.toArray ++ ws.toArray=(vs ++ ws).toArray:=by simp
 by_cases hw:ws=[]
 ·exact concat_meets ⟨_,ho,rfl⟩ ⟨_,ho2,rfl⟩ noFill_tuple_add seq_tuple_add PySem.F.slot_tuple_add PySem.F.entry_tuple_add (PySem.F.args_tuple_add_2 _ _)
   (tuple_addW1 t b vs.toArray ws.toArray n n2 dd dd2 sl sl2 (by simpa using hv) (by simp [hw])) ⟨ho,ho2,h1 hw⟩
 ·refine concat_meets ⟨_,ho,rfl⟩ ⟨_,ho2,rfl⟩ noFill_tuple_add seq_tuple_add PySem.F.slot_tuple_add PySem.F.entry_tuple_add (PySem.F.args_tuple_add_2 _ _)
   (tuple_addW2 t b vs.toArray ws.toArray n n2 dd dd2 sl sl2 (by simpa using hv) (by simpa using hw) (by rw [zap,zap]; exact hsz)) ⟨ho,ho2,?_⟩
  rw [e]
  exact h2 hw
def sIx (n d:Nat):Option Int->Nat
 | none=>d
 | some v=>if v < 0 then (v + (n:Int)).toNat else min v.toNat n
def sIx_none (n d:Nat):sIx n d none=d:=rfl
def sIx_nat (n d k:Nat):sIx n d (some (k:Int))=min k n:=by
 show (if (k:Int) < 0 then ((k:Int) + (n:Int)).toNat else min (k:Int).toNat n)=min k n
 rw [if_neg (by omega),Int.toNat_natCast]
def Hq (n d:Nat) (hd:d <= n) (o:Option Int):sIx n d o <= n:=by
 cases o with
 | none=>exact hd
 | some v =>
  show (if v < 0 then (v + (n:Int)).toNat else min v.toNat n) <= n
  by_cases hv:v < 0
  ·rw [if_pos hv]; omega
  ·rw [if_neg hv]; exact Nat.min_le_right _ _
def Q9 (v:Int) (n d:Nat):(if v < 0 then max (v + (n:Int)) 0 else min v (n:Int))=((sIx n d (some v):Nat):Int):=by
 show (if v < 0 then max (v + (n:Int)) 0 else min v (n:Int))=(((if v < 0 then (v + (n:Int)).toNat else min v.toNat n):Nat):Int)
 by_cases hv:v < 0
 ·simp only [if_pos hv]; omega
 ·simp only [if_neg hv]; omega
def Uq (lo hi:Option Int) (n:Nat):Builtin.Slice.sliceAdjust lo hi 1 (n:Int)=(((sIx n 0 lo:Nat):Int),((sIx n n hi:Nat):Int)):=by
 have h1:¬ ((1:Int) < 0):=by omega
 unfold Builtin.Slice.sliceAdjust
 simp only [h1,if_false]
 refine Prod.ext ?_ ?_
 ·cases lo with
  | none=>rfl
  | some v=>exact Q9 v n 0
 ·cases hi with
  | none=>rfl
  | some v=>exact Q9 v n n
def U1 (i j:Nat):Builtin.Slice.slicePlaces (i:Int) (j:Int) 1=j - i:=by
 unfold Builtin.Slice.slicePlaces
 have h1:(1:Int) > 0:=by omega
 simp only [h1,if_true,Int.ediv_one]
 split <;> omega
def gz {v:Value} {o:Option Int} {Q:Option Int->Shared->Prop} (p:IsPart v o) (h:Q o s):wpAny (model prog w) A (Builtin.Slice.slicePartIndex v) Q E s:=by
 cases p with
 | none=>exact slicePart_none h
 | int i t=>exact slicePart_int h
def ka {sl:Addr} {vl vu:Value} {lo hi:Option Int} {n:Nat} {Q:Int × Int × Nat->Shared->Prop} (hs:s.heap.IsSliceOf sl vl vu .none) (pl:IsPart vl lo) (pu:IsPart vu hi)
  (h:Q (((sIx n 0 lo:Nat):Int),1,sIx n n hi - sIx n 0 lo) s):wpAny (model prog w) A (Builtin.Slice.sliceApplied (.ref sl) (pure (n:Int))) Q E s:=by
 obtain ⟨os,hos,hcs,hds⟩:=id hs
 unfold Builtin.Slice.sliceApplied Builtin.Slice.sliceFields
 refine zaa (zaa (wpAny_field hos hds (x:=vl) rfl (zaa (wpAny_field hos hds (x:=vu) rfl (zaa (wpAny_field hos hds (x:=.none) rfl (zab ?_)))))))
 refine zaa (slicePart_none ?_)
 show wpAny _ _ (if ((1:Int) == 0)=true then _ else _) _ _ s
 rw [if_neg (by decide)]
 refine zaa (gz pl (zaa (gz pu (zaa (zab ?_)))))
 show wpAny _ _ (match Builtin.Slice.sliceAdjust lo hi 1 (n:Int) with | (lo,hi)=>pure (lo,(1:Int),Builtin.Slice.slicePlaces lo hi 1)) _ _ s
 rw [Uq lo hi n]
 show wpAny _ _ (pure (((sIx n 0 lo:Nat):Int),(1:Int),Builtin.Slice.slicePlaces ((sIx n 0 lo:Nat):Int) ((sIx n n hi:Nat):Int) 1)) _ _ s
 rw [U1]
 exact zab h
def Pk (xs:Array Value) (i k:Nat):((List.range k).filterMap λ(m:Nat)=>xs[((i:Int) + (m:Int) * 1).toNat]?).toArray=((xs.toList.drop i).take k).toArray:=by
 have e:(λ(m:Nat)=>xs[((i:Int) + (m:Int) * 1).toNat]?)=λm=>xs[i + m]?:=by
  funext m
  have:((i:Int) + (m:Int) * 1).toNat=i + m:=by omega
  rw [this]
 rw [e]
 have:=pick_run xs i k
 rw [List.filterMap_map] at this
 have e2:((λx=>xs[x]?) ∘ λx=>i + x)=λm=>xs[i + m]?:=rfl
 rw [e2] at this
 rw [this]
def getItem_tuple_cut {t sl:Addr} {items:Array Value} {vl vu:Value} {lo hi:Option Int} {Q:Value->Shared->Prop} (ht:IsTup s.heap t items) (hs:s.heap.IsSliceOf sl vl vu .none) (pl:IsPart vl lo) (pu:IsPart vu hi)
  (hw:¬ (sIx items.size 0 lo=0 /\ sIx items.size items.size hi=items.size))
  (h:Q (.ref s.heap.objs.size) { s with heap:=s.heap.push { cls:=.type "tuple", data:=.seq ((items.toList.drop (sIx items.size 0 lo)).take (sIx items.size items.size hi - sIx items.size 0 lo)).toArray } })
  (hsz:items.size <= sizeLine):wpAny (model prog w) A (getItem (.ref t) (.ref sl)) Q E s:=by
 have htake:sizeOk (.seq ((items.toList.drop (sIx items.size 0 lo)).take (sIx items.size items.size hi - sIx items.size 0 lo)).toArray):=by
  show ((items.toList.drop (sIx items.size 0 lo)).take (sIx items.size items.size hi - sIx items.size 0 lo)).toArray.size <= sizeLine
  rw [zap,List.length_take,List.length_drop,Array.length_toList]
  omega
 have hj:sIx items.size items.size hi <= items.size:=Hq _ _ (zaj _) hi
 obtain ⟨os,hos,hcs,hds⟩:=id hs
 have hTs:s.TypeIs (.ref sl) "slice":=⟨os,hos,hcs⟩
 unfold getItem
 try with_reducible refine wpAny_holding ?_
 first | refine zaa (zab ?_) | skip
 refine zaa (wpAny_sequenceKey ht.typeIs (by decide) ?_)
 refine zaa (wpAny_callSpecial?_slot (name:=Str.ofString "__getitem__") ht.typeIs PyProof.Rows.slot_tuple_getitem
  (wpAny_call_entry PyProof.Rows.slot_tuple_getitem ht.typeIs entry_tuple_getitem ?_ (args_tuple_getitem _ _)))
 show wpAny _ _ (Builtin.Tuple.tupleItemsOf (.ref t) >>= _) _ _ s
 refine zaa (tupleItemsOf_ ht ?_)
 refine zaa (wpAny_typeOf hTs ?_)
 rw [if_pos (by decide)]
 refine zaa (ka hs pl pu ?_)
 have hno:¬ ((((sIx items.size 0 lo:Nat):Int) == 0 && (1:Int) == 1 && (sIx items.size items.size hi - sIx items.size 0 lo) == items.size)=true):=by
  intro q
  rw [Bool.and_eq_true,Bool.and_eq_true] at q
  have q1:((sIx items.size 0 lo:Nat):Int)=0:=eq_of_beq q.1.1
  have q2:sIx items.size items.size hi - sIx items.size 0 lo=items.size:=eq_of_beq q.2
  exact hw ⟨by omega,by omega⟩
 show wpAny _ _ (if (((sIx items.size 0 lo:Nat):Int) == 0 && (1:Int) == 1 && (sIx items.size items.size hi - sIx items.size 0 lo) == items.size)=true then _ else _) _ _ s
 rw [if_neg hno,Pk]
 first
  | exact zaa (m:=Builtin.Tuple.tupleExact _) (wpAny_newObj_type (zab ⟨_,rfl,zab h⟩) htake)
  | exact zaa (m:=Builtin.Tuple.tupleExact _) (wpAny_newObj_type (zaa (zab (zab ⟨_,rfl,zab h⟩))) htake)
  | exact zaa (zaa (m:=Builtin.Tuple.tupleExact _) (wpAny_newObj_type (zab (zab ⟨_,rfl,zab h⟩)) htake))
  | exact zaa (zaa (m:=Builtin.Tuple.tupleExact _) (wpAny_newObj_type (zab ⟨_,rfl,zab h⟩) htake))
abbrev TO:=St->Hp->(Option Int->Hp->Prop)->Prop
def PO (X:Cx) (e:Option Expr) (t:TO):Prop :=
 ∀ (pn:List (Addr × Obj)) (s:Shared) (σ:St) (H:Hp) (Q:Option Int->Hp->Prop),Inv X pn σ H s->t σ H Q ->
  wpAny (model X.prog X.w) X.A (evalPart e X.env) (λu s'=>∃ o H',Inv X pn σ H' s' /\ IsPart u o /\ Q o H') X.xe s
def Lb:TO:=λ_ H Q=>Q none H
def D1 (t:TE):TO:=λσ H Q=>t σ H λx H1=>∃ i,x=.int i /\ Q (some i) H1
variable {te:TE} {lo hi:Option Expr} {tl th:TO} {p2:Pos}
def K7:PO X none Lb:=by
 intro pn s σ H Q I h
 rw [evalPart_none]
 exact zab ⟨none,H,I,.none,h⟩
def K6 (h:PE X e te):PO X (some e) (D1 te):=by
 intro pn s σ H Q I hw
 rw [evalPart_some]
 refine thn (h pn s σ H _ I hw) λu s1 ⟨x,H1,I1,r1,q1⟩=>?_
 obtain ⟨i,rfl,q⟩:=q1
 obtain ⟨t,rfl⟩:=r1
 exact ⟨some i,H1,I1,.int i t,q⟩
def SlR (X:Cx) (r:V->Option Int->Option Int->Hp->VK->Prop):Prop :=
 ∀ (pn:List (Addr × Obj)) (s:Shared) (σ:St) (H:Hp) (x:V) (v vl vu:Value) (lo hi:Option Int) (sl:Addr) (Q:VK),Inv X pn σ H s->RelV x v->s.heap.IsSliceOf sl vl vu .none->IsPart vl lo->IsPart vu hi->r x lo hi H Q ->
  ∃ T id,typeLookup (.type T) "__getitem__" = pure (some (.builtin id)) /\ s.TypeIs v T /\ wpAny (model X.prog X.w) X.A (getItem v (.ref sl)) (EP X pn σ Q) X.xe s
def SlR.or {r r':V->Option Int->Option Int->Hp->VK->Prop} (h:SlR X r) (h':SlR X r'):SlR X (λx lo hi H Q=>r x lo hi H Q \/ r' x lo hi H Q):=by
 intro pn s σ H x v vl vu lo hi sl Q I rx hs pl pu q
 rcases q with q | q
 ·exact h pn s σ H x v vl vu lo hi sl Q I rx hs pl pu q
 ·exact h' pn s σ H x v vl vu lo hi sl Q I rx hs pl pu q
def tSl (r:V->Option Int->Option Int->Hp->VK->Prop) (te:TE) (tl th:TO):TE:=λσ H Q=>te σ H λx H1=>tl σ H1 λl H2=>th σ H2 λu H3=>r x l u H3 Q
def Pl {r:V->Option Int->Option Int->Hp->VK->Prop} (hr:SlR X r) (he:PE X e te) (hl:PO X lo tl) (hu:PO X hi th):PE X (.Subscript e (.Slice lo hi none p2) pos) (tSl r te tl th):=by
 intro pn s σ H Q I h
 refine Subscript_ (thn (he pn s σ H _ I h) λv s1 ⟨x,H1,I1,r1,q1⟩=>?_)
 refine wpAny_Slice (thn (hl pn s1 σ H1 _ I1 q1) λvl s2 ⟨l,H2,I2,pl,q2⟩=>thn (hu pn s2 σ H2 _ I2 q2) λvu s3 ⟨u,H3,I3,pu,q3⟩=>?_)
 rw [evalPart_none]
 refine zab ?_
 have I4:Inv X pn σ H3 { s3 with heap:=s3.heap.push { cls:=.type "slice", data:=.fields #[vl,vu,.none] } }:=I3.kept (t':=s3.toks) λb ob q=>zac _ q
 obtain ⟨T,id,hT,ht,hg⟩:=hr pn { s3 with heap:=s3.heap.push { cls:=.type "slice", data:=.fields #[vl,vu,.none] } } σ H3 x v vl vu l u s3.heap.objs.size Q I4 r1 (Heap.IsSliceOf.new ..) pl pu q3
 show wpAny (model X.prog X.w) X.A (subscriptTail e (.Slice lo hi none p2) v (.ref s3.heap.objs.size)) (EP X pn σ Q) X.xe { s3 with heap:=s3.heap.push { cls:=.type "slice", data:=.fields #[vl,vu,.none] } }
 exact tail_any (ops:=[.ref s3.heap.objs.size,v]) ht hT hg (by with_unfolding_all rfl)
def cutV (xs:List V) (lo hi:Option Int):List V:=(xs.drop (ZZ.sIx xs.length 0 lo)).take (ZZ.sIx xs.length xs.length hi - ZZ.sIx xs.length 0 lo)
def jv (xs:List V) (lo hi:Option Int):(cutV xs lo hi).length <= xs.length:=by
 unfold cutV
 rw [List.length_take,List.length_drop]
 omega
def rSlT (K:W.Frag):V->Option Int->Option Int->Hp->VK->Prop:=λx lo hi H Q=>∃ a xs,x=.ref a /\ SqT K H a xs /\
 ¬ (ZZ.sIx xs.length 0 lo=0 /\ ZZ.sIx xs.length xs.length hi=xs.length) /\ ∀ p,H p=none->Q (.ref p) (upd H p (.tup (cutV xs lo hi)))
def Hj:SlR X (rSlT X.K):=by
 intro pn s σ H x v vl vu lo hi sl Q I rx hs pl pu h
 obtain ⟨a,xs,rfl,hx,hw,q⟩:=h
 cases rx
 obtain ⟨its,r,ht,hz⟩:=I.tuple hx
 have hlen:its.toArray.size=xs.length:=by rw [zap]; exact r.length.symm
 refine ⟨"tuple", _,PyProof.Rows.slot_tuple_getitem.lookup,ht.typeIs,?_⟩
 refine ZZ.getItem_tuple_cut ht hs pl pu (by rw [hlen]; exact hw) ?_ (by rw [hlen]; exact hz)
 rw [hlen]
 refine ⟨.ref s.heap.objs.size,_,I.laid (t':=s.toks) (o:=.tup (cutV xs lo hi)) (λb ob q=>zac _ q) (zaj _) ?_,rfl,q _ (I.hok.fresh (zaj _))⟩
 exact ⟨zak (jv xs lo hi) hz,_,(r.drop (ZZ.sIx xs.length 0 lo)).take (ZZ.sIx xs.length xs.length hi - ZZ.sIx xs.length 0 lo),IsTup.new _ _,_,zad _ rfl,rfl⟩
def Gb (K:W.Frag):R2:=λx y H Q=>∃ a b xs ys,x=.ref a /\ y=.ref b /\ SqT K H a xs /\ SqT K H b ys /\ xs ≠ [] /\ xs.length + ys.length <= sizeLine /\
 (ys=[]->Q (.ref a) H) /\ (ys ≠ []->∀ p,H p=none->Q (.ref p) (upd H p (.tup (xs ++ ys))))
def Vals.nil_iff {xs:List V} {us:List Value} (r:Vals xs us):us=[] ↔ xs=[]:=by
 cases r with
 | nil=>simp
 | cons _ _=>simp
def Sg:OpR X (binaryOp .Add) (Gb X.K):=by
 intro pn s σ H x y v u Q I rx ry h
 obtain ⟨a,b,xs,ys,rfl,rfl,ha,hb,hx,hz,q1,q2⟩:=h
 cases rx
 cases ry
 obtain ⟨its,r1,p1,_⟩:=I.tuple ha
 obtain ⟨its2,r2,p2,_⟩:=I.tuple hb
 refine ZZ.cat_tup p1 p2 (λz=>hx (r1.nil_iff.mp z)) (λz=>⟨.ref a,H,I,rfl,q1 (r2.nil_iff.mp z)⟩) (λz=>?_) (by rw [<- r1.length,<- r2.length]; exact hz)
 refine ⟨.ref s.heap.objs.size,_,I.laid (t':=s.toks) (o:=.tup (xs ++ ys)) (λb ob q=>zac _ q) (zaj _) ?_,rfl,q2 (λw=>z (r2.nil_iff.mpr w)) _ (I.hok.fresh (zaj _))⟩
 exact ⟨by rw [zLa]; exact hz,_,r1.append r2,IsTup.new _ _,_,zad _ rfl,rfl⟩
def ixN (n:Nat) (i:Int):Option Nat:=if 0 <= i then (if i < n then some i.toNat else none) else if -(n:Int) <= i then some (i + n).toNat else none
def atI {α:Type} (xs:List α) (i:Int):Option α:=(ixN xs.length i).bind λj=>xs[j]?
def Xf {n:Nat} {i:Int} {j:Nat} (h:ixN n i=some j):seqIndex? i n=some j /\ j < n /\ -(n:Int) <= i /\ i < n:=by
 unfold ixN at h
 by_cases h0:0 <= i
 ·rw [if_pos h0] at h
  by_cases h1:i < n
  ·rw [if_pos h1] at h
   have e:i.toNat=j:=Option.some.inj h
   exact ⟨by rw [seqIndex_of h0 h1,e],by omega,by omega,h1⟩
  ·rw [if_neg h1] at h; cases h
 ·rw [if_neg h0] at h
  by_cases h1:-(n:Int) <= i
  ·rw [if_pos h1] at h
   have e:(i + n).toNat=j:=Option.some.inj h
   exact ⟨by rw [seqIndex_neg (by omega) h1,e],by omega,h1,by omega⟩
  ·rw [if_neg h1] at h; cases h
def Wa {α:Type} {xs:List α} {i:Int} {v:α} (h:atI xs i=some v):∃ j,seqIndex? i xs.length=some j /\ xs[j]?=some v /\ j < xs.length /\ -(xs.length:Int) <= i /\ i < xs.length:=by
 unfold atI at h
 cases e:ixN xs.length i with
 | none=>rw [e] at h; cases h
 | some j =>
  rw [e] at h
  obtain ⟨h1,h2,h3,h4⟩:=Xf e
  exact ⟨j,h1,h,h2,h3,h4⟩
def Z4 {α:Type} {xs:List α} {j:Nat} {v:α} (h:xs[j]?=some v):atI xs (j:Int)=some v:=by
 have hj:j < xs.length:=(zag.mp h).1
 have e:ixN xs.length (j:Int)=some j:=by
  unfold ixN
  rw [if_pos (by omega),if_pos (by omega)]; simp
 unfold atI; rw [e]; exact h
def Vr {α:Type} (xs:List α) (v:α):atI (xs ++ [v]) (-1)=some v:=by
 have hl:(xs ++ [v]).length=xs.length + 1:=by simp
 have e:ixN (xs ++ [v]).length (-1)=some xs.length:=by
  unfold ixN
  rw [hl,if_neg (by decide),if_pos (by omega)]
  congr 1
  omega
 unfold atI
 rw [e]
 show (xs ++ [v])[xs.length]?=some v
 simp
def Wc (b:Expr):Prop:=∀ o i,subscripted b false o i=operate [o,i] (getItem o i)
def IxR (X:Cx) (r:R2):Prop :=
 ∀ (value slice:Expr) (pn:List (Addr × Obj)) (s:Shared) (σ:St) (H:Hp) (x y:V) (v u:Value) (Q:VK),Inv X pn σ H s->RelV x v->RelV y u->r x y H Q ->
  subscripted slice false v u=operate [v,u] (getItem v u)->wpAny (model X.prog X.w) X.A (subscriptTail value slice v u) (EP X pn σ Q) X.xe s
def MtR (X:Cx) (id:String) (r:V->List V->Hp->VK->Prop):Prop :=
 ∀ (pn:List (Addr × Obj)) (s:Shared) (σ:St) (H:Hp) (x:V) (xs:List V) (v:Value) (us:List Value) (Q:VK),Inv X pn σ H s->RelV x v->Vals xs us->r x xs H Q ->
  wpAny (model X.prog X.w) X.A (call (.builtin id) (v :: us)) (EP X pn σ Q) X.xe s
variable {a b:Expr}
def IxR.or {r r':R2} (h:IxR X r) (h':IxR X r'):IxR X (λx y H Q=>r x y H Q \/ r' x y H Q):=by
 intro value slice pn s σ H x y v u Q I rx ry q hs
 rcases q with q | q
 ·exact h value slice pn s σ H x y v u Q I rx ry q hs
 ·exact h' value slice pn s σ H x y v u Q I rx ry q hs
def Pm {r:R2} (hr:IxR X r) (ha:PE X a ta) (hb:PE X b tb) (hs:Wc b):PE X (.Subscript a b pos) (tOp r ta tb):=by
 intro pn s σ H Q I h
 exact Subscript_ (binT ha hb I h λv u s2 x y H2 I2 rx ry q=>hr a b pn s2 σ H2 x y v u Q I2 rx ry q (hs _ _))
def rIxL (K:W.Frag):R2:=λx y H Q=>∃ p xs i v,x=.ref p /\ y=.int i /\ SqL K H p xs /\ atI xs i=some v /\ Q v H
def rIxT (K:W.Frag):R2:=λx y H Q=>∃ p xs i v,x=.ref p /\ y=.int i /\ SqT K H p xs /\ atI xs i=some v /\ Q v H
def rIxS:R2:=λx y H Q=>∃ z i c,x=.str z /\ y=.int i /\ z.length <= sizeLine /\ atI z.cps.toList i=some c /\ Q (.str ⟨#[c]⟩) H
def J1:IxR X (rIxL X.K):=by
 intro value slice pn s σ H x y v u Q I rx ry h hs
 obtain ⟨p,xs,i,z,rfl,rfl,hq,he,q⟩:=h
 cases rx
 obtain ⟨t,rfl⟩:=ry
 obtain ⟨its,r,pl,hz⟩:=I.list hq
 obtain ⟨j,h1,h2,h3,h4,h5⟩:=Wa he
 obtain ⟨w,ew,rw'⟩:=r.get h2
 have hl:=r.length
 have hn:=sw
 have fin:EP X pn σ Q w s:=⟨z,H,I,rw',q⟩
 by_cases h0:0 <= i
 ·have hj:i.toNat=j:=by
   rw [seqIndex_of h0 h5] at h1
   exact Option.some.inj h1
  exact item_listR pl.isList h0 (by omega) (by rw [hj]; simpa using ew) fin hs
 ·have hj:(i + (its.toArray.size:Int)).toNat=j:=by
   rw [seqIndex_neg (by omega) h4] at h1
   rw [zap,<- hl]
   exact Option.some.inj h1
  exact subscriptTail_builtinR (x:=w) pl.isList.typeIs slot_list_getitem.lookup
   (wpAny_getItem_list_neg (Q:=λr s'=>r=w /\ EP X pn σ Q r s') pl.isList (by omega) (by rw [zap] <;> omega) (by omega) (by rw [hj]; simpa using ew) ⟨rfl,fin⟩) hs
def E4:IxR X (rIxT X.K):=by
 intro value slice pn s σ H x y v u Q I rx ry h hs
 obtain ⟨p,xs,i,z,rfl,rfl,hq,he,q⟩:=h
 cases rx
 obtain ⟨t,rfl⟩:=ry
 obtain ⟨its,r,pl,hz⟩:=I.tuple hq
 obtain ⟨j,h1,h2,h3,h4,h5⟩:=Wa he
 obtain ⟨w,ew,rw'⟩:=r.get h2
 have hl:=r.length
 have hn:=sw
 have fin:EP X pn σ Q w s:=⟨z,H,I,rw',q⟩
 exact subscriptTail_builtinR (x:=w) pl.typeIs slot_tuple_getitem.lookup
  (getItem_tuple (j:=j) (Q:=λr s'=>r=w /\ EP X pn σ Q r s') pl (by omega) (by omega) (by rw [zap,<- hl]; exact h1) (by simpa using ew) ⟨rfl,fin⟩) hs
def E5:IxR X rIxS:=by
 intro value slice pn s σ H x y v u Q I rx ry h hs
 obtain ⟨z,i,c,rfl,rfl,hz,he,q⟩:=h
 obtain ⟨t,rfl⟩:=rx
 obtain ⟨t',rfl⟩:=ry
 obtain ⟨j,h1,h2,h3,h4,h5⟩:=Wa he
 have hl:z.cps.toList.length=z.length:=by simp [Str.length]
 rw [hl] at h1 h4 h5
 have hn:=sw
 exact tail_any (typeIs_str s z t) slot_str_getitem.lookup (getItem_str (c:=c) (by
  have e1:decide (i < -(2 ^ 63:Int))=false:=decide_eq_false (by omega)
  have e2:decide (i ≥ 2 ^ 63)=false:=decide_eq_false (by omega)
  rw [e1,e2,Bool.or_false]) (by rw [h1]; simpa using h2) ⟨.str ⟨#[c]⟩,H,I.tok _,⟨_,rfl⟩,q⟩) hs
def rIx (K:W.Frag):R2:=λx y H Q=>rIxL K x y H Q \/ rIxT K x y H Q \/ rIxS x y H Q
def V7:IxR X (rIx X.K):=J1.or (E4.or E5)
def U7 (its:List Value) (n j:Nat) (u:Value):Obj.mapSeq (·.setIfInBounds j u) { cls:=.type "list", data:=.seq its.toArray n }={ cls:=.type "list", data:=.seq (its.set j u).toArray n }:=by
 simp [Obj.mapSeq]
def Inv.lst {pn:List (Addr × Obj)} {σ:St} {H:Hp} {s:Shared} {p:Addr} {xs:List V} (I:Inv X pn σ H s) (h:H p=some (.lst xs)) :
  ∃ (its:List Value) (n:Nat),Vals xs its /\ s.heap.get? p=some { cls:=.type "list", data:=.seq its.toArray n } /\ xs.length <= sizeLine:=by
 obtain ⟨z,its,n,r,e⟩:=I.hok p _ h
 exact ⟨its,n,r,e,z⟩
def Inv.lstUpd {pn:List (Addr × Obj)} {σ:St} {H:Hp} {s:Shared} {p:Addr} {xs ys:List V} {its its':List Value} {n n':Nat} {f:Obj->Obj} (I:Inv X pn σ H s) (h:H p=some (.lst xs))
  (ho:s.heap.get? p=some { cls:=.type "list", data:=.seq its.toArray n }) (hf:f { cls:=.type "list", data:=.seq its.toArray n }={ cls:=.type "list", data:=.seq its'.toArray n' }) (r:Vals ys its') (hz:ys.length <= sizeLine) (t:Nat) :
  Inv X pn σ (upd H p (.lst ys)) { s with heap:=s.heap.update p f,toks:=t }:=by
 have e:(s.heap.update p f).get? p=some { cls:=.type "list", data:=.seq its'.toArray n' }:=by
  rw [Heap.get?_update_self f ho (by rw [hf] <;> rfl),hf]
 refine I.write (x:=p) (e:=p) (by rw [h]; trivial) (.inl rfl) (λb u hb q=>(Heap.get?_update_other _ _ (Ne.symm hb)).trans q) ⟨_,e⟩ ?_
 exact ⟨hz,its',n',r,e⟩
def D6:V->V->V->Hp->(Hp->Prop)->Prop:=λo i v H Q=>∃ p xs k j,o=.ref p /\ i=.int k /\ H p=some (.lst xs) /\ ixN xs.length k=some j /\ Q (upd H p (.lst (xs.set j v)))
def Wk:PSet X D6:=by
 intro pn s σ H o i v ov iv u Q I ro ri rv h
 obtain ⟨p,xs,k,j,rfl,rfl,hp,hj,q⟩:=h
 cases ro
 obtain ⟨t,rfl⟩:=ri
 obtain ⟨its,n,r,ho,hz⟩:=I.lst hp
 obtain ⟨h1,h2,h3,h4⟩:=Xf hj
 have hl:=r.length
 have hn:=sw
 have I':Inv X pn σ (upd H p (.lst (xs.set j v))) { s with heap:=s.heap.update p (Obj.mapSeq (·.setIfInBounds j u)) } :=
  I.lstUpd hp ho (U7 its n j u) (r.set rv j) (by rw [List.length_set]; exact hz) s.toks
 by_cases h0:0 <= k
 ·have hk:k.toNat=j:=by
   rw [seqIndex_of h0 h4] at h1
   exact Option.some.inj h1
  exact W.ki_setAt ho h0 (by omega) (by rw [zap,<- hl]; exact h4) (by rw [hk]; exact ⟨_,I',q⟩)
 ·have hk:(k + (its.toArray.size:Int)).toNat=j:=by
   rw [seqIndex_neg (by omega) h3] at h1
   rw [zap,<- hl]
   exact Option.some.inj h1
  exact W.ki_setBack ho (by omega) (by rw [zap,<- hl]; exact h3) (by omega) (by rw [hk]; exact ⟨_,I',q⟩)
def Zf (lo hi:Option Int) (n:Nat):(sliceBounds lo hi none n).1=((ZZ.sIx n 0 lo:Nat):Int) /\ (sliceBounds lo hi none n).2.1=((ZZ.sIx n n hi:Nat):Int) /\ (sliceBounds lo hi none n).2.2=1:=by
 refine ⟨?_,?_,rfl⟩
 ·cases lo with
  | none=>simp [sliceBounds,ZZ.sIx]
  | some i =>
   simp only [sliceBounds,ZZ.sIx,Option.getD_none,show (1:Int) > 0 by decide,if_true]
   by_cases h:i < 0
   ·simp only [h,if_true] <;> omega
   ·simp only [h,if_false] <;> omega
 ·cases hi with
  | none=>simp [sliceBounds,ZZ.sIx]
  | some i =>
   simp only [sliceBounds,ZZ.sIx,Option.getD_none,show (1:Int) > 0 by decide,if_true]
   by_cases h:i < 0
   ·simp only [h,if_true] <;> omega
   ·simp only [h,if_false] <;> omega
def dy (its:List Value) (lo hi:Option Int):slicePick its.toArray lo hi none=((its.drop (ZZ.sIx its.length 0 lo)).take (ZZ.sIx its.length its.length hi - ZZ.sIx its.length 0 lo)).toArray:=by
 obtain ⟨h1,h2,h3⟩:=Zf lo hi its.toArray.size
 unfold slicePick
 rw [h1,h2,h3]
 simp only [sliceRange_one,pick_run,zap] <;> rfl
def rSlL (K:W.Frag):V->Option Int->Option Int->Hp->VK->Prop:=λx lo hi H Q=>∃ a xs,x=.ref a /\ SqL K H a xs /\ ∀ p,H p=none->Q (.ref p) (upd H p (.lst (cutV xs lo hi)))
def Lf:SlR X (rSlL X.K):=by
 intro pn s σ H x v vl vu lo hi sl Q I rx hs pl pu h
 obtain ⟨a,xs,rfl,hx,q⟩:=h
 cases rx
 obtain ⟨its,r,ht,hz⟩:=I.list hx
 have hlen:=r.length
 refine ⟨"list", _,slot_list_getitem.lookup,ht.isList.typeIs,?_⟩
 refine wpAny_getItem_list_slice ht.isList hs pl pu .none (by simp) ?_ (by rw [zap] <;> omega)
 rw [dy,<- hlen]
 refine ⟨.ref s.heap.objs.size,_,I.laid (t':=s.toks) (o:=.lst (cutV xs lo hi)) (λb ob q=>zac _ q) (zaj _) ?_,rfl,q _ (I.hok.fresh (zaj _))⟩
 exact ⟨zak (jv xs lo hi) hz,_,0,(r.drop (ZZ.sIx xs.length 0 lo)).take (ZZ.sIx xs.length xs.length hi - ZZ.sIx xs.length 0 lo),zad _ rfl⟩
def gi:V->Bool
 | .non=>true
 | .bl _=>true
 | .int _=>true
 | .str _=>true
 | _=>false
def eqV:V->V->Bool
 | .non,.non=>true
 | .bl a,.bl b=>a == b
 | .bl a,.int b=>(if a then 1 else 0) == b
 | .int a,.bl b=>a == (if b then 1 else 0)
 | .int a,.int b=>a == b
 | .str a,.str b=>a == b
 | _,_=>false
def Ep {A:Around} {s:Shared} {y x:V} {u v:Value} (ry:RelV y u) (rx:RelV x v) (fy:gi y=true) (fx:gi x=true):SeqAt.EqAt A s u v (eqV y x):=by
 cases y with
 | non =>
  cases ry
  cases x with
  | non=>cases rx; exact SeqAt.EqAt.same _
  | bl b=>cases rx; exact SeqAt.EqAt.none_bool b
  | int b=>obtain ⟨t,rfl⟩:=rx; exact SeqAt.EqAt.none_int b t
  | str b=>obtain ⟨t,rfl⟩:=rx; exact SeqAt.EqAt.none_str b t
  | _=>exact absurd (show false=true from fx) Bool.false_ne_true
 | bl a =>
  cases ry
  cases x with
  | non=>cases rx; exact SeqAt.EqAt.bool_none a
  | bl b=>cases rx; exact SeqAt.EqAt.bool_bool a b
  | int b=>obtain ⟨t,rfl⟩:=rx; exact SeqAt.EqAt.bool_int a b t
  | str b=>obtain ⟨t,rfl⟩:=rx; exact SeqAt.EqAt.bool_str a b t
  | _=>exact absurd (show false=true from fx) Bool.false_ne_true
 | int a =>
  obtain ⟨t',rfl⟩:=ry
  cases x with
  | non=>cases rx; exact SeqAt.EqAt.int_none a t'
  | bl b=>cases rx; exact SeqAt.EqAt.int_bool a t' b
  | int b=>obtain ⟨t,rfl⟩:=rx; exact SeqAt.EqAt.int_int a t' b t
  | str b=>obtain ⟨t,rfl⟩:=rx; exact SeqAt.EqAt.int_str a t' b t
  | _=>exact absurd (show false=true from fx) Bool.false_ne_true
 | str a =>
  obtain ⟨t',rfl⟩:=ry
  cases x with
  | non=>cases rx; exact SeqAt.EqAt.str_none a t'
  | bl b=>cases rx; exact SeqAt.EqAt.str_bool a t' b
  | int b=>obtain ⟨t,rfl⟩:=rx; exact SeqAt.EqAt.str_int a t' b t
  | str b=>obtain ⟨t,rfl⟩:=rx; exact SeqAt.EqAt.str_str a t' b t
  | _=>exact absurd (show false=true from fx) Bool.false_ne_true
 | _=>exact absurd (show false=true from fy) Bool.false_ne_true
def eqU (x:V) (u:Value):Bool:=match u with
 | .none=>eqV .non x
 | .bool b=>eqV (.bl b) x
 | .int i _=>eqV (.int i) x
 | .str z _=>eqV (.str z) x
 | _=>false
def Mq {x y:V} {u:Value} (r:RelV y u) (f:gi y=true):eqU x u=eqV y x:=by
 cases y with
 | non=>cases r; rfl
 | bl b=>cases r; rfl
 | int i=>obtain ⟨t,rfl⟩:=r; rfl
 | str z=>obtain ⟨t,rfl⟩:=r; rfl
 | _=>exact absurd (show false=true from f) Bool.false_ne_true
def Wb {x:V}:∀ {xs:List V} {us:List Value},Vals xs us->xs.all gi=true->us.any (eqU x)=xs.any λy=>eqV y x
 | _,_,.nil,_=>rfl
 | y :: xs,u :: us,.cons r t,f=>by
  rw [List.all_cons,Bool.and_eq_true] at f
  rw [List.any_cons,List.any_cons,Mq r f.1,Wb t f.2]
def cn {A:Around} {s:Shared} {x:V} {v:Value} (rx:RelV x v) (fx:gi x=true):∀ {xs:List V} {us:List Value},Vals xs us->xs.all gi=true->∀ u ∈ us,SeqAt.EqAt A s u v (eqU x u)
 | _,_,.nil,_=>λu hu=>by cases hu
 | y :: xs,u :: us,.cons r t,f=>λu' hu=>by
  rw [List.all_cons,Bool.and_eq_true] at f
  rcases zam.mp hu with rfl | hu
  ·rw [Mq r f.1]; exact Ep r rx f.1 fx
  ·exact cn rx fx t f.2 u' hu
def inV (x:V) (xs:List V):Bool:=xs.any λy=>eqV y x
def rIn (K:W.Frag) (neg:Bool):R2:=λx y H Q=>∃ p xs,y=.ref p /\ (SqL K H p xs \/ SqT K H p xs) /\ gi x=true /\ xs.all gi=true /\ Q (.bl (if neg then !inV x xs else inV x xs)) H
def Sf:OpR X (compareOp .In) (rIn X.K false):=by
 intro pn s σ H x y v u Q I rx ry h
 obtain ⟨p,xs,rfl,hq,fx,fs,q⟩:=h
 cases ry
 rcases hq with hq | hq
 ·obtain ⟨its,r,pl,hz⟩:=I.list hq
  refine SeqAt.in_listAt (eqU x) pl.isList (λw hw=>cn rx fx r fs w (by simpa using hw)) ⟨.bl _,H,I,rfl,?_⟩
  rw [show its.toArray.any (eqU x)=its.any (eqU x) by simp,Wb r fs]
  exact q
 ·obtain ⟨its,r,pl,hz⟩:=I.tuple hq
  refine SeqAt.in_tupleAt (eqU x) pl (λw hw=>cn rx fx r fs w (by simpa using hw)) ⟨.bl _,H,I,rfl,?_⟩
  rw [show its.toArray.any (eqU x)=its.any (eqU x) by simp,Wb r fs]
  exact q
def Yp:uv X (.builtin "len") (λxs H Q=>∃ p ys,xs=[.ref p] /\ (SqL X.K H p ys \/ SqT X.K H p ys) /\ Q (.int ys.length) H):=by
 intro pn s σ H xs us Q I r h
 obtain ⟨p,ys,rfl,hq,q⟩:=h
 obtain ⟨u,rfl,rx⟩:=ga r
 cases rx
 have hn:=sw
 rcases hq with hq | hq
 ·obtain ⟨its,r',pl,hz⟩:=I.list hq
  have hlen:=r'.length
  exact Calls.call_len_list pl.isList (by simp only [zap] <;> omega) ⟨.int ys.length,H,I.tok _,⟨s.toks + 1,by rw [zap,hlen]⟩,q⟩
 ·obtain ⟨its,r',pl,hz⟩:=I.tuple hq
  have hlen:=r'.length
  exact len_tuple pl (by simp only [zap] <;> omega) ⟨.int ys.length,H,I.tok _,⟨s.toks + 1,by rw [zap,hlen]⟩,q⟩
def Yo:uv X (.builtin "len") (λxs H Q=>∃ z,xs=[.str z] /\ z.length <= sizeLine /\ Q (.int z.length) H):=by
 intro pn s σ H xs us Q I r h
 obtain ⟨z,rfl,hz,q⟩:=h
 obtain ⟨u,rfl,t,rfl⟩:=ga r
 have hn:=sw
 exact len_str (by omega) ⟨.int z.length,H,I.tok _,⟨_,rfl⟩,q⟩
def uv.or {f:Value} {r r':List V->Hp->VK->Prop} (h:uv X f r) (h':uv X f r'):uv X f (λxs H Q=>r xs H Q \/ r' xs H Q):=by
 intro pn s σ H xs us Q I rs q
 rcases q with q | q
 ·exact h pn s σ H xs us Q I rs q
 ·exact h' pn s σ H xs us Q I rs q
def Yn:uv X (.type "list") (λxs H Q=>∃ p ys,xs=[.ref p] /\ (SqL X.K H p ys \/ SqT X.K H p ys) /\ ∀ l,H l=none->Q (.ref l) (upd H l (.lst ys))):=by
 intro pn s σ H xs us Q I r h
 obtain ⟨p,ys,rfl,hq,q⟩:=h
 obtain ⟨u,rfl,rx⟩:=ga r
 cases rx
 have fin:∀ (its:List Value),Vals ys its->ys.length <= sizeLine->∀ (h':Heap) (c':Nat),(∀ b o',s.heap.get? b=some o'->h'.get? b=some o') ->
   h'.get? s.heap.objs.size=some { cls:=.type "list", dict:=none,data:=.seq its.toArray c',slots:=#[] }->EP X pn σ Q (.ref s.heap.objs.size) { s with heap:=h' }:=λits r' hz h' c' kp e =>
  ⟨.ref s.heap.objs.size,_,I.laid (t':=s.toks) kp (zaj _) (show wu X.prog X.w _ h' _ (.lst ys) from ⟨hz,its,c',r',e⟩),rfl,q _ (I.hok.fresh (zaj _))⟩
 rcases hq with hq | hq
 ·obtain ⟨its,r',pl,hz⟩:=I.list hq
  have hlen:=r'.length
  obtain ⟨o,ho,hc,n,hd⟩:=pl.isList
  exact call_list_seq p (.inl rfl) ho hc hd (λh' c' kp e=>fin its r' hz h' c' kp e) (by simp only [zap] <;> omega)
 ·obtain ⟨its,r',pl,hz⟩:=I.tuple hq
  have hlen:=r'.length
  obtain ⟨o,ho,hc,n,hd⟩:=pl
  exact call_list_seq p (.inr rfl) ho hc hd (λh' c' kp e=>fin its r' hz h' c' kp e) (by simp only [zap] <;> omega)
def Z1:uv X (.type "tuple") (λxs H Q=>∃ p ys,xs=[.ref p] /\ ((SqL X.K H p ys /\ ∀ l,H l=none->Q (.ref l) (upd H l (.tup ys))) \/ (SqT X.K H p ys /\ Q (.ref p) H))):=by
 intro pn s σ H xs us Q I r h
 obtain ⟨p,ys,rfl,h⟩:=h
 obtain ⟨u,rfl,rx⟩:=ga r
 cases rx
 rcases h with ⟨hq,q⟩ | ⟨hq,q⟩
 ·obtain ⟨its,r',pl,hz⟩:=I.list hq
  have hlen:=r'.length
  refine call_tuple_list pl.isList (λh' kp=>?_) (by simp only [zap] <;> omega)
  have I1:Inv X pn σ H { s with heap:=h' }:=I.kept (t':=s.toks) kp
  have I2:Inv X pn σ (upd H h'.objs.size (.tup ys)) { s with heap:=h'.push { cls:=.type "tuple", data:=.seq its.toArray } } :=
   I1.laid (t':=s.toks) (λb o e=>zac _ e) (zaj _) (show wu X.prog X.w _ _ _ (.tup ys) from ⟨hz,its,r',IsTup.new _ _,_,zad _ rfl,rfl⟩)
  exact ⟨.ref h'.objs.size,_,I2,rfl,q _ (I1.hok.fresh (zaj _))⟩
 ·obtain ⟨its,r',pl,hz⟩:=I.tuple hq
  exact call_tuple_same pl ⟨.ref p,H,I,rfl,q⟩
def tyV (K:W.Frag) (T:String) (x:V) (H:Hp):Prop:=match x with
 | .str _=>T = "str"
 | .int _=>T = "int"
 | .ref p=>(T = "list" /\ ∃ xs,SqL K H p xs) \/ (T = "tuple" /\ ∃ o,K.lookup p=some o /\ o.cls=.type "tuple" /\ o.dict=none) \/
   (T = "dict" /\ ((∃ kvs,H p=some (.dK kvs)) \/ ∃ kvs,H p=some (.dT kvs))) \/ (T = "set" /\ ∃ S n,H p=some (.set S n))
 | _=>False
def Nb {pn:List (Addr × Obj)} {σ:St} {H:Hp} {s:Shared} {T:String} {x:V} {v:Value} (I:Inv X pn σ H s) (r:RelV x v) (ty:tyV X.K T x H) :
  s.TypeIs v T /\ ∀ a,v=.ref a->∃ ob,s.heap.get? a=some ob /\ ob.dict=none:=by
 cases x with
 | str z =>
  obtain ⟨t,rfl⟩:=r
  cases (show T = "str" from ty)
  exact ⟨typeIs_str s z t,λ_ e=>nomatch e⟩
 | int i =>
  obtain ⟨t,rfl⟩:=r
  cases (show T = "int" from ty)
  exact ⟨typeIs_int s i t,λ_ e=>nomatch e⟩
 | ref p =>
  cases r
  rcases ty with ⟨rfl,xs,hq⟩ | ⟨rfl,o,hk,hc,hd⟩ | ⟨rfl,hk⟩ | ⟨rfl,S,n,hk⟩
  ·obtain ⟨its,_,pl,_⟩:=I.list hq
   refine ⟨pl.isList.typeIs,λa e=>?_⟩
   cases e
   obtain ⟨o,n,e,c,hd,_⟩:=pl
   exact ⟨o,e,hd⟩
  ·refine ⟨⟨o,I.kIn p o hk,hc⟩,λa e=>?_⟩
   cases e
   exact ⟨o,I.kIn _ o hk,hd⟩
  ·have z:∃ o,s.heap.get? p=some o /\ o.ExactDict:=by
    rcases hk with ⟨kvs,hk⟩ | ⟨kvs,hk⟩
    ·obtain ⟨_,_,_,_,o,_,_,e,ex,_⟩:=I.hok p _ hk
     exact ⟨o,e,ex⟩
    ·obtain ⟨_,_,_,_,o,_,_,e,ex,_⟩:=I.hok p _ hk
     exact ⟨o,e,ex⟩
   obtain ⟨o,e,ex⟩:=z
   refine ⟨⟨o,e,ex.1⟩,λa e2=>?_⟩
   cases e2
   exact ⟨o,e,ex.2.1⟩
  ·obtain ⟨o,_,_,_,e,ex,_⟩:=I.hok p _ hk
   refine ⟨⟨o,e,ex.1⟩,λa e2=>?_⟩
   cases e2
   exact ⟨o,e,ex.2.1⟩
 | _=>exact False.elim ty
def tBM0 (K:W.Frag) (T:String) (r:V->List V->Hp->VK->Prop) (to:TE):TE:=λσ H Q=>to σ H λx H1=>tyV K T x H1 /\ r x [] H1 Q
def tBM (K:W.Frag) (T:String) (r:V->List V->Hp->VK->Prop) (to:TE) (t:TA):TE:=λσ H Q=>to σ H λx H1=>tyV K T x H1 /\ t σ H1 λxs H2=>r x xs H2 Q
section
variable {es:List Expr} {to:TE} {t:TA} {apos cpos:Pos} {T id:String} {r:V->List V->Hp->VK->Prop}
def Sb (pa:PlainAttrs T) (slot:Slot T name id) (hty:typeOf (.builtin id)=pure (.type "method_descriptor")) (hm:MtR X id r) (ho:PE X o to)
  (hbase:attributeBase o name X.env (eval o X.env)=eval o X.env:=by rfl) (hline:(apos.endLine == cpos.line)=true:=by rfl):PE X (.Call (.Attribute o name apos) [] [] cpos) (tBM0 X.K T r to):=by
 intro pn s σ H Q I h
 refine wpAny_Call_method0_late hbase hline (thn (ho pn s σ H _ I h) λv s1 ⟨x,H1,I1,r1,ty,q1⟩=>?_)
 obtain ⟨h1,h2⟩:=Nb I1 r1 ty
 exact ⟨T,id,pa,slot,hty,h1,h2,Calls.callWith_builtin rfl (PySem.evalArgs_none (hm pn s1 σ H1 x [] v [] Q I1 r1 .nil q1))⟩
def X8 (pa:PlainAttrs T) (slot:Slot T name id) (hty:typeOf (.builtin id)=pure (.type "method_descriptor")) (hm:MtR X id r) (ho:PE X o to) (ha:PA X (e :: es) t)
  (hbase:attributeBase o name X.env (eval o X.env)=eval o X.env:=by rfl)
  (hfew:((backTo cpos (starEach (e :: es) X.env)).all (λx=>!x.1) && (backToKw cpos (keywordEach [] X.env)).all (λx=>x.1.isSome)
   && decide ((e :: es).length + ([]:List Keyword).length + (if ([]:List Keyword).isEmpty then 0 else 1) < 30))=true:=by rfl)
  (hline:(apos.endLine == cpos.line)=true:=by rfl) (hs:starEach (e :: es) X.env=(false,eval e X.env) :: starEach es X.env:=by rfl) (hplain:(backTo cpos (starEach es X.env)).any (·.1)=false:=by rfl) :
  PE X (.Call (.Attribute o name apos) (e :: es) [] cpos) (tBM X.K T r to t):=by
 intro pn s σ H Q I h
 refine wpAny_Call_method_late hbase hfew hline rfl (thn (ho pn s σ H _ I h) λv s1 ⟨x,H1,I1,r1,ty,q1⟩=>?_)
 obtain ⟨h1,h2⟩:=Nb I1 r1 ty
 refine ⟨T,id,pa,slot,hty,h1,h2,?_⟩
 have hA:=ha cpos pn s1 σ H1 _ I1 q1
 rw [hs] at hA ⊢
 refine Calls.callWith_builtin (by show (false || (backTo cpos (starEach es X.env)).any (·.1))=false; rw [hplain] <;> rfl) (Calls.evalArgs_plain ?_)
 exact thn hA λus s2 ⟨vs,H2,I2,r2,q2⟩=>hm pn s2 σ H2 x vs v us Q I2 r1 r2 q2
end
def MtM (X:Cx) (id:String) (r:V->List V->Hp->VK->Prop):Prop :=
 ∀ (pn:List (Addr × Obj)) (s:Shared) (σ:St) (H:Hp) (x:V) (xs:List V) (v:Value) (us:List Value) (Q:VK),Inv X pn σ H s->RelV x v->Vals xs us->r x xs H Q ->
  wpAny (model X.prog X.w) X.A (call (.builtin id) (v :: us)) (EP X pn σ Q) X.xe s
def Vals.one:∀ {x:V} {us:List Value},Vals [x] us->∃ u,us=[u] /\ RelV x u
 | _,_,.cons r .nil=>⟨_,rfl,r⟩
def Vals.zero:∀ {us:List Value},Vals [] us->us=[]
 | _,.nil=>rfl
def Vals.dropLast {xs:List V} {us:List Value} (h:Vals xs us):Vals xs.dropLast us.dropLast:=by
 induction h with
 | nil=>exact .nil
 | cons r t ih =>
  cases t with
  | nil=>exact .nil
  | cons q t'=>exact .cons r ih
def Vals.rep {xs:List V} {us:List Value} (h:Vals xs us):∀ k:Nat,Vals (List.replicate k xs).flatten (List.replicate k us).flatten
 | 0=>.nil
 | k + 1=>by
  rw [List.replicate_succ,List.replicate_succ,List.flatten_cons,List.flatten_cons]
  exact Vals.append h (Vals.rep h k)
def Um {α:Type} (l:List α):l.eraseIdx (l.length - 1)=l.dropLast:=by
 induction l with
 | nil=>rfl
 | cons a r ih =>
  cases r with
  | nil=>rfl
  | cons b r =>
   have e:(a :: b :: r).length - 1=((b :: r).length - 1) + 1:=by
    have h1:(a :: b :: r).length=r.length + 2:=rfl
    have h2:(b :: r).length=r.length + 1:=rfl
    omega
   rw [e,List.eraseIdx_cons_succ,ih]
   all_goals rfl
def Y8 (its:List Value):∀ (k:Nat) (acc:List Value),
  List.foldl (λx1 x2=>x1 ++ x2) acc.toArray (List.replicate k its.toArray)=(acc ++ (List.replicate k its).flatten).toArray
 | 0,acc=>by simp
 | k + 1,acc=>by
  have e:acc.toArray ++ its.toArray=(acc ++ its).toArray:=by simp
  have e2:(acc ++ its) ++ (List.replicate k its).flatten=acc ++ (List.replicate (k + 1) its).flatten:=by
   rw [List.replicate_succ,List.flatten_cons,List.append_assoc]
  rw [<- e2,<- Y8 its k (acc ++ its),<- e,List.replicate_succ,List.foldl_cons]
section
variable {l:Addr}
def Inv.lset {its its':List Value} {n:Nat} {f:Array Value->Array Value} {t':Nat} (I:Inv X pn σ H s) (hH:H l=some (.lst xs))
  (e:s.heap.get? l=some { cls:=.type "list", data:=.seq its.toArray n }) (hf:f its.toArray=its'.toArray) (hv:Vals ys its') (hz:ys.length <= sizeLine) :
  Inv X pn σ (upd H l (.lst ys)) { s with heap:=s.heap.update l (Obj.mapSeq f),toks:=t' }:=by
 have q:=PySem.IsL.update e f
 rw [hf] at q
 refine I.write (x:=l) (e:=l) (by rw [hH]; exact trivial) (.inl rfl) (λb' u hb hu=>(Heap.get?_update_other s.heap (Obj.mapSeq f) (Ne.symm hb)).trans hu) ⟨_,q⟩ ?_
 exact ⟨hz,its',_,hv,q⟩
def Inv.lnew {its:List Value} {t':Nat} (I:Inv X pn σ H s) (hv:Vals ys its) (hz:ys.length <= sizeLine) :
  Inv X pn σ (upd H s.heap.objs.size (.lst ys)) { s with heap:=s.heap.push { cls:=.type "list", data:=.seq its.toArray },toks:=t' } :=
 I.laid (λ_ _ q=>zac _ q) (zaj _) ⟨hz,its,0,hv,zad _ rfl⟩
def Inv.fresh (I:Inv X pn σ H s):H s.heap.objs.size=none:=I.hok.fresh (zaj _)
def Inv.lstM (I:Inv X pn σ H s) (hH:H l=some (.lst xs)):xs.length <= sizeLine /\ ∃ (its:List Value) (n:Nat),Vals xs its /\ xs.length=its.length /\ s.heap.get? l=some { cls:=.type "list", data:=.seq its.toArray n }:=by
 obtain ⟨z,its,n,r,e⟩:=I.hok l _ hH
 exact ⟨z,its,n,r,r.length,e⟩
def V1 {n:Nat} (h:n <= sizeLine):Builtin.List.listTooLong n=false:=by
 unfold Builtin.List.listTooLong
 exact decide_eq_false (by omega)
end
def j8:V->List V->Hp->VK->Prop:=λx vs H Q=>∃ l xs y,x=.ref l /\ vs=[y] /\ H l=some (.lst xs) /\ xs.length < sizeLine /\ Q .non (upd H l (.lst (xs ++ [y])))
def ul:MtM X "list.append" j8:=by
 intro pn s σ H x vs v us Q I rx rv h
 obtain ⟨l,xs,y,rfl,rfl,hH,hz,q⟩:=h
 cases rx
 obtain ⟨u,rfl,ru⟩:=rv.one
 obtain ⟨z,its,n,r,hl,e⟩:=I.lstM hH
 refine call_meets F.slot_list_append ⟨_,e,rfl⟩ F.entry_list_append (F.args_list_append_2 _ _) (PySem.list_append l its.toArray n u (by rw [zap]; omega)) ⟨e,?_⟩
 refine ⟨.non,_,I.lset (its':=its ++ [u]) hH e (by simp) (r.append (.cons ru .nil)) ?_,rfl,q⟩
 rw [zLa,List.length_singleton]
 omega
def X6:V->List V->Hp->VK->Prop:=λx vs H Q=>∃ l b xs zs,x=.ref l /\ vs=[.ref b] /\ H l=some (.lst xs) /\ H b=some (.lst zs) /\ xs.length + zs.length <= sizeLine /\ Q .non (upd H l (.lst (xs ++ zs)))
def Zq:MtM X "list.extend" X6:=by
 intro pn s σ H x vs v us Q I rx rv h
 obtain ⟨l,b,xs,zs,rfl,rfl,hH,hB,hz,q⟩:=h
 cases rx
 obtain ⟨u,rfl,ru⟩:=rv.one
 cases ru
 obtain ⟨z,its,n,r,hl,e⟩:=I.lstM hH
 obtain ⟨z2,its2,n2,r2,hl2,e2⟩:=I.lstM hB
 have hsz:its.toArray.size + its2.toArray.size <= sizeLine:=by rw [zap,zap]; omega
 have hlong:¬ (!its.toArray.isEmpty && Builtin.List.listTooLong (its.toArray.size + its2.toArray.size))=true:=by
  rw [V1 hsz,Bool.and_false]
  exact Bool.false_ne_true
 refine call_meets F.slot_list_extend ⟨_,e,rfl⟩ F.entry_list_extend (F.args_list_extend_2 _ _)
  (AutoSeq1.list_extend_list_list_0 l its.toArray n b its2.toArray n2 hlong (by rw [zap]; omega) (by omega)) ⟨e,e2,?_⟩
 refine ⟨.non,_,I.lset (its':=its ++ its2) hH e (by simp) (r.append r2) ?_,rfl,q⟩
 rw [zLa]
 omega
def rPop:V->List V->Hp->VK->Prop:=λx vs H Q=>∃ l xs y,x=.ref l /\ vs=[] /\ H l=some (.lst xs) /\ xs[xs.length - 1]?=some y /\ Q y (upd H l (.lst xs.dropLast))
def M8:MtM X "list.pop" rPop:=by
 intro pn s σ H x vs v us Q I rx rv h
 obtain ⟨l,xs,y,rfl,rfl,hH,hy,q⟩:=h
 cases rx
 have hus:=rv.zero
 subst hus
 obtain ⟨z,its,n,r,hl,e⟩:=I.lstM hH
 obtain ⟨u,hu,ru⟩:=r.get hy
 have hy':its.toArray[its.toArray.size - 1]?=some u:=by
  show its.toArray[its.length - 1]?=some u
  rw [<- Array.getElem?_toList,<- hl]
  exact hu
 refine call_meets F.slot_list_pop ⟨_,e,rfl⟩ F.entry_list_pop (F.args_list_pop_1 _) (MeetsSeq.list_pop_last l its.toArray n u hy' (by rw [zap]; omega)) ⟨e,?_⟩
 refine ⟨y,_,I.lset (its':=its.dropLast) hH e ?_ r.dropLast ?_,ru,q⟩
 ·show its.toArray.eraseIdxIfInBounds (its.toArray.size - 1)=its.dropLast.toArray
  rw [zap,List.eraseIdxIfInBounds_toArray,Um]
 ·rw [List.length_dropLast]
  omega
def Nu:V->List V->Hp->VK->Prop:=λx vs H Q=>∃ l xs,x=.ref l /\ vs=[] /\ H l=some (.lst xs) /\ Q .non (upd H l (.lst []))
def Pr:MtM X "list.clear" Nu:=by
 intro pn s σ H x vs v us Q I rx rv h
 obtain ⟨l,xs,rfl,rfl,hH,q⟩:=h
 cases rx
 have hus:=rv.zero
 subst hus
 obtain ⟨z,its,n,r,hl,e⟩:=I.lstM hH
 refine call_meets F.slot_list_clear ⟨_,e,rfl⟩ F.entry_list_clear (F.args_list_clear_1 _) (AutoSeq1.list_clear_list_0 l its.toArray n (by rw [zap]; omega)) ⟨e,?_⟩
 exact ⟨.non,_,I.lset (its':=[]) (ys:=[]) hH e rfl .nil (Nat.zero_le _),rfl,q⟩
def rCat:R2:=λx y H Q=>∃ l b xs zs,x=.ref l /\ y=.ref b /\ H l=some (.lst xs) /\ H b=some (.lst zs) /\ xs.length + zs.length <= sizeLine /\ ∀ p,H p=none->Q (.ref p) (upd H p (.lst (xs ++ zs)))
def Fh:OpR X (binaryOp .Add) rCat:=by
 intro pn s σ H x y v u Q I rx ry h
 obtain ⟨l,b,xs,zs,rfl,rfl,hH,hB,hz,q⟩:=h
 cases rx
 cases ry
 obtain ⟨z,its,n,r,hl,e⟩:=I.lstM hH
 obtain ⟨z2,its2,n2,r2,hl2,e2⟩:=I.lstM hB
 refine PySem.P.add_list e e2 ?_ (by rw [zap,zap]; omega)
 have ea:its.toArray ++ its2.toArray=(its ++ its2).toArray:=by simp
 rw [ea]
 exact ⟨.ref _,_,I.lnew (t':=s.toks) (r.append r2) (by rw [zLa]; omega),rfl,q _ I.fresh⟩
def rRep:R2:=λx y H Q=>∃ l k xs,x=.ref l /\ y=.int k /\ H l=some (.lst xs) /\ -(2 ^ 63) <= k /\ k < 2 ^ 63 /\ xs.length * k.toNat <= sizeLine /\
 ∀ p,H p=none->Q (.ref p) (upd H p (.lst (List.replicate k.toNat xs).flatten))
def Ky {α:Type} (xs:List α) (k:Nat):(List.replicate k xs).flatten.length=k * xs.length:=by
 induction k with
 | zero=>simp
 | succ k ih=>rw [List.replicate_succ,List.flatten_cons,zLa,ih,Nat.succ_mul,Nat.add_comm]
def Fa:OpR X (binaryOp .Mult) rRep:=by
 intro pn s σ H x y v u Q I rx ry h
 obtain ⟨l,k,xs,rfl,rfl,hH,h1,h2,hz,q⟩:=h
 cases rx
 obtain ⟨t,rfl⟩:=ry
 obtain ⟨z,its,n,r,hl,e⟩:=I.lstM hH
 have hlen:its.toArray.size * k.toNat <= sizeLine:=by rw [zap,<- hl]; exact hz
 have hcap:¬ its.toArray.size * k.toNat > (2 ^ 63 - 1) / 8:=by
  have:(sizeLine:Nat) <= (2 ^ 63 - 1) / 8:=by decide
  omega
 have hfit:¬ (!Builtin.List.listFitsIndex k)=true:=by
  rw [fitsIndex_both h1 h2]
  exact Bool.false_ne_true
 have hlong:¬ Builtin.List.listTooLong (its.toArray.size * k.toNat)=true:=by
  rw [V1 hlen]
  exact Bool.false_ne_true
 have hnew:List.foldl (λx1 x2=>x1 ++ x2) #[] (List.replicate (if its.toArray.isEmpty=true then 0 else k.toNat) its.toArray)=(List.replicate k.toNat its).flatten.toArray:=by
  have f0:∀ m:Nat,List.foldl (λx1 x2=>x1 ++ x2) #[] (List.replicate m its.toArray)=(List.replicate m its).flatten.toArray:=λm=>by
   have:=Y8 its m []
   rw [List.nil_append] at this
   exact this
  rw [f0]
  cases its with
  | nil=>simp
  | cons a r'=>rw [if_neg (by simp)]
 refine wpAny_binaryOp_repeat_ref (T:="list") (U:="int") (by decide) ⟨_,e,rfl⟩ (λs'=>typeIs_int s' k t) noFill_list_mul F.fills_int_mul F.slot_int_rmul repeat_list F.slot_int_index.lookup
  (call_meets F.slot_int_rmul (typeIs_int s k t) F.entry_int_rmul (F.args_int_rmul_2 _ _) (int___rmul___int_list k t l its.toArray n)
   ⟨e,rfl,⟨_,e,rfl⟩,call_meets F.slot_list_mul ⟨_,e,rfl⟩ F.entry_list_mul (F.args_list_mul_2 _ _) (AutoListH.list___mul___list_int_3 l its.toArray n k t hfit hcap hlong) ⟨e,?_⟩⟩)
 rw [hnew]
 exact ⟨.ref _,_,I.lnew (t':=s.toks) (r.rep k.toNat) (by rw [Ky,Nat.mul_comm]; exact hz),rfl,q _ I.fresh⟩
section
open PySem PySem.W PySem.Calls PyProof.Rows
def jj {P:Params} {h:Heap}:∀ (ns:List Int) (vs:List Value),WellAll P h vs (ns.map WData.int)->IntsAre vs ns:=by
 intro ns
 induction ns with
 | nil =>
  intro vs w
  rw [List.map_nil] at w
  cases w
  exact .nil
 | cons n ns ih =>
  intro vs w
  rw [List.map_cons] at w
  cases w with
  | cons a b =>
   cases a
   exact .cons _ _ (ih _ b)
def Ta {l:OpenLaw} {n:Nat} (hn:l.most=some n) {P:Params} {h:Heap} {args:List WData} {vals:List Value}
  (hpre:l.row.toRowW.claim.pre args=true) (hwl:WellAll P h vals args) :
  ∃ a vs ns,vals=[Value.ref a] /\ args=[WData.list (ns.map WData.int)] /\ h.get? a=some { cls:=.type "list", data:=.seq vs.toArray } /\ IntsAre vs ns /\ ns.length <= n:=by
 have hsh:WShape.hasAll [] args [.list .int]=true:=(pre_splitW hpre).1
 have hc:l.pre.holds [] { args:=args }=true:=(pre_splitW hpre).2
 obtain ⟨d,r,rfl,h1,h2⟩:=hasAllW_cons hsh
 obtain rfl:=hasAllW_nil h2
 obtain ⟨xs,rfl,h3⟩:=hasW_list h1
 obtain ⟨ns,rfl⟩:=items_int h3
 have hlen:ns.length <= n:=by
  unfold OpenLaw.pre at hc
  have h4:(WTm.not (.lt (.lit (.int (n:Int))) (.len (.arg 0)))).holds [] { args:=[.list (ns.map .int)] }=true:=by
   have h4:=(holds_andW hc).1
   rw [hn] at h4
   exact h4
  have h5:=condW_of h4 (w_not (w_lt w_lit (w_len_list (w_arg rfl))))
  rw [zLm] at h5
  refine Nat.le_of_not_lt λq=>?_
  have q':(n:Int) < ((ns.length:Nat):Int):=by omega
  first
   | (rw [decide_eq_true q'] at h5; exact absurd h5 (by decide))
   | (simp at h5; omega)
 cases hwl with
 | cons w1 w2 =>
  cases w2
  cases w1 with
  | list ho hall=>exact ⟨_,_,ns,rfl,rfl,ho,jj ns _ hall,hlen⟩
def Tz (l:OpenLaw) (args:List WData):l.row.toRowW.claim.post args (.bool true) args=true :=
 postW_of (r:=l.row.toRowW) (X:=(true == true))
  (show WShape.has [] (.bool true) .bool=true by first | rfl | decide | simp [WShape.has,WShape.arms,WShape.armsAll])
  (show (WTm.eq .res (.lit (.bool true))).value [] { args:=args,res:=some (.bool true),after:=args }=some (.bool (true == true)) from w_eq_bool (w_res rfl) w_lit) rfl
def attach_call {l:OpenLaw} {n:Nat} {q:Program} {loose:List Str} {XP:(Str->Option Value)->Heap->Prop} {YP:World->Heap->Prop} {d:DefRec}
  (hn:l.most=some n) (hdf:d.params.defaults=[])
  (call:∀ (w:World) (s₀ s₁:Shared) (mg mb:Str->Option Value) (fa:Addr) (o:Obj) (pm cd doc:Value) (a:Addr) (vs:List Value) (ns:List Int),
   Ground q loose [] XP w s₀ mg mb s₁.heap->YP w s₁.heap ->
   s₁.heap.get? fa=some o->o.data=.func (docDef d.name d.params d.body d.scope pm cd doc)->s₁.heap.CodeRec cd d.name->mg d.name=some (.ref fa) ->
   s₁.heap.get? a=some { cls:=.type "list", data:=.seq vs.toArray }->IntsAre vs ns->ns.length <= n->s₁.gens=#[] ->
   codeAny (model l.prog w) callerA (.call (.ref fa) ⟨[.ref a],[]⟩) (λr s'=>r=.ok (.ret (.bool true)) /\ OldK s₁.heap s'.heap /\ s'.os=s₁.os /\ AllBare s'.gens) s₁) :
  WalkO q loose XP YP l.row.toRowW d [] (λf vs=>PySem.call f vs):=by
 intro w s₀ s₁ mg mb G Y fa o pm cd doc dV kV ho hd hcd hD hmg hg args vals as hpre hlay hrd hwl hlo
 obtain rfl:dV=.none:=Dflts.none hD hdf
 obtain rfl:kV=.none:=Dflts.noKw hD
 obtain ⟨a,vs,ns,rfl,rfl,hobj,hints,hlen⟩:=Ta hn hpre hwl
 refine enter_call (codeAny_mono (call w s₀ s₁ mg mb fa o pm cd doc a vs ns G Y ho (fd_plain hd) hcd hmg hobj hints hlen hg) λr s' hq=>?_)
 obtain ⟨rfl,h2,h3,h4⟩:=hq
 exact ⟨.inl ⟨.bool true,.bool true,[],rfl,λ_=>rfl,.bool true,Tz l _,λ_=>⟨List.Pairwise.nil,λ_ hm=>(nomatch hm)⟩⟩,h2,h3,h4⟩
end
def Z9:∀ {vs:List Value} {ns:List Int},IntsAre vs ns->Vals (ns.map V.int) vs
 | _,_,.nil=>.nil
 | _,_,.cons n t h=>.cons ⟨t,rfl⟩ (Z9 h)
def Only (H:Hp):Prop:=∀ b,H b=none \/ ∃ o xs,H b=some (.frz o (.lst xs))
def O3 {P:Program} {w:World} {K:W.Frag} {mg mb:Str->Option Value} {CX:CXT} {k:Nat} {fa a:Addr} {fd:FuncData} {x:Str} {sp:Sp} {s₁:Shared} {vs:List Value} {ns:List Int}
  (KX:K.In s₁.heap) (hns:s₁.heap.Ns mainGlobals mg) (hb:s₁.heap.Ns builtinsNs mb) (hbb:∀ x:Str,x ≠ "__name__"->mb x=bootBuiltins x) (hlim:s₁.heap.NoLimit) (hg:s₁.gens=#[])
  (ha:s₁.heap.get? a=some { cls:=.type "list", data:=.seq vs.toArray }) (hi:IntsAre vs ns) (hl:ns.length <= sizeLine) (hr:Room k callerA)
  (F:∀ base:Heap,K.In base->base.Ns mainGlobals mg->FnOk P w K mg base CX k fa fd [x] sp) (hbind:∀ (s:Shared) (u:Value),BindsTo s fd ⟨[u],[]⟩ [(x,u)])
  (hsp:∀ H:Hp,Only H->SqL K H a (ns.map V.int)->sp [.ref a] H (λv _=>v=.bl true) λ_ _ _=>False)
  (hCX:∀ H e s',CX [] H s₁ (λ_ _ _=>False) e s'->False) :
  codeAny (model P w) callerA (.call (.ref fa) ⟨[.ref a],[]⟩) (λr s'=>r=.ok (.ret (.bool true)) /\ OldK s₁.heap s'.heap /\ s'.os=s₁.os /\ AllBare s'.gens) s₁:=by
 have rv:=Z9 hi
 have lenV:=hi.length
 have core:∀ H:Hp,Only H->SqL K H a (ns.map V.int)->HOk P w H s₁.heap->(∀ b,H b ≠ none->b=a)->(H a ≠ none->K.lookup a=none) ->
   codeAny (model P w) callerA (.call (.ref fa) ⟨[.ref a],[]⟩) (λr s'=>r=.ok (.ret (.bool true)) /\ OldK s₁.heap s'.heap /\ s'.os=s₁.os /\ AllBare s'.gens) s₁:=by
  intro H hO hS hok hA hK
  have base_of:∀ {b:Addr} {o:Obj},s₁.heap.get? b=some o->H b=none->(hidT s₁.heap H).get? b=some o:=λe n=>Oc e n
  have noA:∀ {b:Addr} {o:Obj} {es:Array DictEntry} {ep:Nat},s₁.heap.get? b=some o->o.data=.dict es ep->H b=none:=λ{b o es ep} e d=>by
   cases q:H b with
   | none=>rfl
   | some u =>
    have e':b=a:=hA b (by rw [q]; simp)
    subst e'
    rw [ha] at e; cases e
    have d':Data.seq vs.toArray _=Data.dict es ep:=d
    cases d'
  have nsK:∀ {b:Addr} {m:Str->Option Value},s₁.heap.Ns b m->(hidT s₁.heap H).Ns b m:=λ{b m} ⟨o,es,ep,e,d,r⟩=>⟨o,es,ep,base_of e (noA e d),d,r⟩
  have hKb:K.In (hidT s₁.heap H):=λb o e=>base_of (KX b o e) (by
   cases q:H b with
   | none=>rfl
   | some u =>
    have e':b=a:=hA b (by rw [q]; simp)
    subst e'
    rw [hK (by rw [q]; simp)] at e; cases e)
  have hM:Mod K mg (hidT s₁.heap H):=⟨hKb,nsK hns,⟨mb,nsK hb,hbb⟩,let ⟨mc,h1,h2⟩:=hlim; ⟨mc,nsK h1,h2⟩⟩
  have e0:Env0 P w K mg (hidT s₁.heap H) callerA [] s₁ H:=⟨rfl,hM,λb o e=>Kn e,Nat.le_of_eq (R8 _ _),trivial,λb hb=>absurd (show b ∈ ([]:List Addr) from hb) (by simp),hok,.of_eq hg⟩
  refine codeAny_mono ((F _ hKb (nsK hns)).run callerA [] s₁ H ⟨[.ref a],[]⟩ [.ref a] [.ref a] _ _ hr e0 (hbind s₁ (.ref a)) (.cons rfl .nil) (hsp H hO hS)) λr s' h=>?_
  cases r with
  | error e=>exact (hCX H e s' h).elim
  | ok fl =>
   cases fl with
   | next=>exact False.elim h
   | brk=>exact False.elim h
   | cont=>exact False.elim h
   | ret u =>
    obtain ⟨v,H',os,bare,un,hok',r',q⟩:=h
    have q':v=.bl true:=q
    subst q'
    obtain rfl:u=Value.bool true:=r'
    refine ⟨rfl,OldK.of_keep λb o e=>?_,os,bare⟩
    cases q:H b with
    | none=>exact un.keep b o e q (by intro z; exact absurd (show b ∈ ([]:List Addr) from z) (by simp)) (by simp)
    | some u =>
     rcases hO b with z | ⟨ob,xs,z⟩
     ·rw [q] at z; cases z
     ·have z2:=un.frzs b ob _ z
      obtain ⟨e1,_⟩:=hok b _ z
      obtain ⟨e2,_⟩:=hok' b _ z2
      rw [e] at e1; cases e1
      exact e2
 cases hk:K.lookup a with
 | some o =>
  have e:=KX a o hk
  rw [ha] at e
  cases e
  refine core (λ_=>none) (λ_=>.inl rfl) (.inr ⟨_,vs.toArray,_,hk,rfl,rfl,rfl,by rw [zap,lenV]; exact hl,by simpa using rv⟩) (λb u z=>by have z':(none:Option HO)=some u:=z; cases z') (λb z=>absurd rfl z) λz=>absurd rfl z
 | none =>
  refine core (λb=>if b=a then some (.frz { cls:=.type "list", data:=.seq vs.toArray } (.lst (ns.map V.int))) else none) (λb=>?_) (.inl (.inr ⟨{ cls:=.type "list", data:=.seq vs.toArray },if_pos rfl⟩)) (λb u z=>?_) (λb z=>?_) λ_=>hk
  ·by_cases hb:b=a
   ·exact .inr ⟨_,_,if_pos hb⟩
   ·exact .inl (if_neg hb)
  ·by_cases hb:b=a
   ·have z':=(if_pos hb).symm.trans z
    cases z'
    subst hb
    exact ⟨ha,by rw [zLm]; exact hl,vs,_,rv,ha⟩
   ·have z':=(if_neg hb).symm.trans z
    cases z'
  ·by_cases hb:b=a
   ·exact hb
   ·exact absurd (if_neg hb) z
abbrev KOf {K:W.Frag} {h:Heap} (_:K.In h):W.Frag:=K
def walk_of {l:W.OpenLaw} {n k:Nat} {q:Program} {loose:List Str} {XP:(Str->Option Value)->Heap->Prop} {YP:World->Heap->Prop} {d:DefRec} {K:Params->W.Frag} {CX:World->CXT} {sp:World->Sp} {x:Str}
  (hn:l.most=some n) (hn2:n <= sizeLine) (hdf:d.params.defaults=[]) (hr:Room k callerA)
  (hY:∀ (w:World) (h:Heap),YP w h->(K w.params).In h)
  (F:∀ (w:World) (mg:Str->Option Value) (fa:Addr) (h:Heap),(K w.params).In h->h.Ns mainGlobals mg->mg d.name=some (.ref fa) ->
   ∃ fd:FuncData,(∀ (s:Shared) (u:Value),BindsTo s fd ⟨[u],[]⟩ [(x,u)]) /\
    ∀ base:Heap,(K w.params).In base->base.Ns mainGlobals mg->FnOk l.prog w (K w.params) mg base (CX w) k fa fd [x] (sp w))
  (hsp:∀ (w:World) (H:Hp) (a:Addr) (ns:List Int),ns.length <= n->Only H->SqL (K w.params) H a (ns.map V.int)->sp w [.ref a] H (λv _=>v=.bl true) λ_ _ _=>False)
  (hCX:∀ (w:World) (H:Hp) (s:Shared) (e:Value) (s':Shared),CX w [] H s (λ_ _ _=>False) e s'->False) :
  W.WalkO q loose XP YP l.row.toRowW d [] (λf vs=>PySem.call f vs):=by
 refine ZZ.attach_call hn hdf λw s₀ s₁ mg mb fa o pm cd doc a vs ns G Y ho hd hcd hmg hobj hints hlen hg=>?_
 have KX:=hY w _ Y
 obtain ⟨fd,hb,hF⟩:=F w mg fa _ KX G.T.g hmg
 exact O3 KX G.T.g G.T.b G.T.builtins G.T.nolimit hg hobj hints (zak hlen hn2) hr hF hb (λH hO hS=>hsp w H a ns hlen hO hS) λH e s'=>hCX w H s₁ e s'
abbrev CX0:CXT:=λ_ _ _ _ _ _=>False
abbrev E0:XK:=λ_ _ _=>False
def ci {X:Cx}:jz CX0 X E0:=λ_ _ _ _ _ _ _ h=>h.elim
structure Fun (K:W.Frag) (x qual:Str) (st:Stmt) (f:Addr) (fd:FuncData):Prop where
 ex:∃ (oc:Value) (od:Option Addr) (kV doc pm:Value) (an:Option Addr) (qZ ct:Value) (osl:Array (Option Value)),
  fd=W.fnOf x qual (wz st) (yq st) (ze st) .none kV doc pm an qZ ct /\ K.lookup f=some ⟨oc,od,.func fd,osl⟩ /\ W.codeIn K qZ qual=true
 kp:W.keepIn K (.ref f)=true
variable {mg:Str->Option Value} {base:Heap}
def Fun.ok {x qual:Str} {st:Stmt} {f:Addr} {fd:FuncData} {N ps:List Str} {k:Nat} {sp:Sp} (F:Fun K x qual st f fd) (S:zw N ps (ze st)) (len:∀ vs H Q E,sp vs H Q E->vs.length=ps.length)
  (qY:∀ (qZ:Value) (A:Around) (outer:List Env) (s:Shared) (H:Hp) (vs:List V) (Q:VK) (E:XK),Room k (A.deeper (envOfC qual (ze st) s.heap.objs.size f qZ))->sp vs H Q E ->
   ∃ t,PSs (cxOf CX0 P w K mg base N qual (ze st) f qZ A outer s H E).nox (yq st) t /\ t { nx:=λ_ H'=>Q .non H',rt:=Q } (start N vs) H):FnOk P w K mg base CX0 (k + 1) f fd ps sp:=by
 obtain ⟨oc,od,kV,doc,pm,an,qZ,ct,osl,rfl,lk,hcd⟩:=F.ex
 refine Eg lk hcd S len λA outer s H vs Q E hr hsp=>?_
 obtain ⟨t,h,q⟩:=qY qZ A outer s H vs Q E hr hsp
 exact ⟨t,h.nox,q⟩
def Fun.binds {x qual:Str} {st:Stmt} {f:Addr} {fd:FuncData} {ps:List Str} (F:Fun K x qual st f fd)
  (h:∀ (kV doc pm:Value) (an:Option Addr) (qZ ct:Value) (us:List Value),us.length=ps.length->bindArgs (W.fnOf x qual (wz st) (yq st) (ze st) .none kV doc pm an qZ ct) ⟨us,[]⟩=pure (ps.zip us)):Binds K fd ps []:=by
 obtain ⟨oc,od,kV,doc,pm,an,qZ,ct,osl,rfl,lk,hcd⟩:=F.ex
 exact .all (h kV doc pm an qZ ct)
def Mg {x qual:Str} {st:Stmt} {f:Addr} {oc:Value} {od an:Option Addr} {osl:Array (Option Value)} {kV doc pm qZ ct:Value} (l:K.lookup f=some ⟨oc,od,.func (W.fnOf x qual (wz st) (yq st) (ze st) .none kV doc pm an qZ ct),osl⟩)
  (c:W.codeIn K qZ qual=true) (k:W.keepIn K (.ref f)=true):Fun K x qual st f (W.fnOf x qual (wz st) (yq st) (ze st) .none kV doc pm an qZ ct):=⟨⟨oc,od,kV,doc,pm,an,qZ,ct,osl,rfl,l,c⟩,k⟩
def iteF {A B:Prop} (h:B):if false=true then A else B:=by
 rw [if_neg Bool.false_ne_true]
 exact h
def iteT {A B:Prop} (h:A):if true=true then A else B:=by
 rw [if_pos rfl]
 exact h
def Same (H H':Hp):Prop:=∀ b o,H b=some o->H' b=some o
def Same.refl (H:Hp):Same H H:=λ_ _ h=>h
def Same.trans {H H1 H2:Hp} (a:Same H H1) (b:Same H1 H2):Same H H2:=λc o h=>b c o (a c o h)
def Same.free {H H':Hp} (e:Same H H') {l:Addr} (h:H' l=Option.none):H l=Option.none:=by
 cases q:H l with
 | none=>rfl
 | some o =>
  rw [e l o q] at h
  cases h
def Ri {α β:Type} {f:α->β->Sem (ForInStep β)} (R:List α->β->Prop) (h:∀ x l c,R (x :: l) c->∃ c',f x c=pure (.yield c') /\ R l c') :
  ∀ (l:List α) (c:β),R l c->∃ c',forIn l c f=pure c' /\ R [] c'
 | [],c,r=>⟨c,rfl,r⟩
 | x :: l,c,r=>by
  obtain ⟨c1,e,r1⟩:=h x l c r
  obtain ⟨c2,e2,r2⟩:=Ri R h l c1 r1
  exact ⟨c2,by rw [List.forIn_cons,e,pure_bind]; exact e2,r2⟩
def W8 {env:Env} {x:Str} {c:Addr} (h:env.cells.lookup x=some c):cellOf env x=pure c:=by
 unfold cellOf
 rw [h]
def da {scope:Scope} {env:Env} (h:∀ y ∈ scope.names,y.2=.free->∃ c,env.cells.lookup y.1=some c) :
  ∃ cl,closureFor scope env=pure cl /\ (∀ x c,cl.lookup x=some c->env.cells.lookup x=some c) /\ ∀ y ∈ scope.names,y.2=.free->∃ c,cl.lookup y.1=some c:=by
 let f:Str × NameKind->List (Str × Addr)->Sem (ForInStep (List (Str × Addr))):=λx r=>match x with
  | (name,kind)=>if (kind == .free)=true then (do let a <- cellOf env name; pure (.yield ((name,a) :: r))) else pure (.yield r)
 have q:=Ri (f:=f) (λrem cs=>(∀ x c,cs.lookup x=some c->env.cells.lookup x=some c) /\ (∀ y ∈ scope.names,y.2=.free->(∃ c,cs.lookup y.1=some c) \/ y ∈ rem) /\ ∀ y ∈ rem,y ∈ scope.names) ?_ scope.names []
  ⟨λx c e=>(by cases e),λy hy _=>.inr hy,λ_ hy=>hy⟩
 ·obtain ⟨cl,e,p1,p2,_⟩:=q
  refine ⟨cl,?_,p1,λy hy hf=>(p2 y hy hf).elim (λz=>z) λz=>(by cases z)⟩
  have e1:closureFor scope env=(forIn scope.names [] f >>= λr=>pure r):=rfl
  rw [e1,e,pure_bind]
 ·rintro ⟨n,k⟩ l cs ⟨p1,p2,p3⟩
  have hm:=p3 _ (zao ..)
  by_cases hk:k=.free
  ·subst hk
   obtain ⟨c,hc⟩:=h _ hm rfl
   refine ⟨(n,c) :: cs,?_,λx c' e=>?_,λy hy hf=>?_,λy hy=>p3 y (zal _ hy)⟩
   ·show (if ((NameKind.free == NameKind.free)=true) then _ else _)=_
    rw [if_pos (by decide),W8 hc,pure_bind]
   ·rw [List.lookup_cons] at e
    cases hx:x == n with
    | true =>
     rw [hx] at e
     have ex:x=n:=eq_of_beq hx
     subst ex
     cases e
     exact hc
    | false =>
     rw [hx] at e
     exact p1 x c' e
   ·rcases p2 y hy hf with ⟨c',e⟩ | z
    ·refine .inl ?_
     rw [List.lookup_cons]
     cases hx:y.1 == n with
     | true=>exact ⟨c,rfl⟩
     | false=>exact ⟨c',e⟩
    ·rcases zam.mp z with rfl | z
     ·exact .inl ⟨c,by rw [List.lookup_cons]; simp⟩
     ·exact .inr z
  ·refine ⟨cs,?_,p1,λy hy hf=>?_,λy hy=>p3 y (zal _ hy)⟩
   ·show (if ((k == NameKind.free)=true) then _ else _)=_
    rw [if_neg (by simpa using hk)]
   ·rcases p2 y hy hf with z | z
    ·exact .inl z
    ·rcases zam.mp z with rfl | z
     ·exact absurd hf hk
     ·exact .inr z
def vf {env:Env}:∀ {names:List (Str × NameKind)} {x:Str},names.lookup x=some .free ->
  (names.map λ(n,k)=>if (k == NameKind.free && env.scope.kind == .function && env.kindOf n == some .cell) then (n,NameKind.cell) else (n,k)).lookup x=some .cell \/
  (names.map λ(n,k)=>if (k == NameKind.free && env.scope.kind == .function && env.kindOf n == some .cell) then (n,NameKind.cell) else (n,k)).lookup x=some .free
 | [],_,h=>by cases h
 | (n,k) :: r,x,h=>by
  have ih:=@vf env r x
  rw [List.map_cons]
  cases hx:x == n with
  | true =>
   rw [List.lookup_cons,hx] at h
   cases h
   by_cases hc:(NameKind.free == NameKind.free && env.scope.kind == .function && env.kindOf n == some .cell)=true
   ·refine .inl ?_
    show List.lookup x ((if (NameKind.free == NameKind.free && env.scope.kind == .function && env.kindOf n == some .cell)=true then (n,NameKind.cell) else (n,NameKind.free)) :: _)=_
    rw [if_pos hc,List.lookup_cons,hx]
   ·refine .inr ?_
    show List.lookup x ((if (NameKind.free == NameKind.free && env.scope.kind == .function && env.kindOf n == some .cell)=true then (n,NameKind.cell) else (n,NameKind.free)) :: _)=_
    rw [if_neg hc,List.lookup_cons,hx]
  | false =>
   rw [List.lookup_cons,hx] at h
   have e:∀ (b:Bool) (l:List (Str × NameKind)),List.lookup x ((if b=true then (n,NameKind.cell) else (n,k)) :: l)=l.lookup x:=λb l=>by
    cases b with
    | true=>rw [if_pos rfl,List.lookup_cons,hx]
    | false=>rw [if_neg Bool.false_ne_true,List.lookup_cons,hx]
   rcases ih h with q | q
   ·exact .inl ((e _ _).trans q)
   ·exact .inr ((e _ _).trans q)
def qz {scope:Scope} {env:Env} (hnc:∀ y ∈ scope.names,y.2 ≠ .cell) {x:Str} {k:NameKind} (h:(relabel scope env).names.lookup x=some k) (hk:k=.cell \/ k=.free) :
  ∃ y ∈ scope.names,y.1=x /\ y.2=.free:=by
 have hm:=PySem.mem_of_lookup h
 obtain ⟨⟨n,k0⟩,hy,e⟩:=zah.mp hm
 refine ⟨(n,k0),hy,?_⟩
 have e':(if (k0 == NameKind.free && env.scope.kind == .function && env.kindOf n == some .cell)=true then (n,NameKind.cell) else (n,k0))=(x,k):=e
 by_cases hc:(k0 == NameKind.free && env.scope.kind == .function && env.kindOf n == some .cell)=true
 ·rw [if_pos hc] at e'
  cases e'
  refine ⟨rfl,?_⟩
  rw [Bool.and_eq_true,Bool.and_eq_true] at hc
  exact eq_of_beq hc.1.1
 ·rw [if_neg hc] at e'
  cases e'
  rcases hk with rfl | rfl
  ·exact absurd rfl (hnc _ hy)
  ·exact ⟨rfl,rfl⟩
abbrev yz (X:Cx) (N':List Str) (scope:Scope) (cl:List (Str × Addr)) (C:Addr) (fp:List Addr) (s₀:Shared) (H₀:Hp):Cx :=
 { X with N:=N',s₀:=s₀,H₀:=H₀,env:=compEnvC scope cl C X.env,outer:=X.stack,ex:=fp,fn:=λ_=>false,pn:=[],xe:=λ_ _=>False }
structure y9 (psc scope:Scope) (T F:List Str):Prop where
 kind:scope.kind=.function
 nocell:∀ y ∈ scope.names,y.2 ≠ .cell
 loc:∀ y ∈ scope.names,y.2=.local->scope.names.lookup y.1=some .local
 fr:∀ y ∈ scope.names,y.2=.free->psc.names.lookup y.1=some .cell \/ psc.names.lookup y.1=some .free
 nd:(T ++ F).Nodup
 ffree:∀ x ∈ F,scope.names.lookup x=some .free
section
variable {scope:Scope} {T F:List Str} {cl:List (Str × Addr)} {fp:List Addr} {js:List Nat}
def jw (I:Inv X pn σ H s) (S:y9 X.env.scope scope T F):∀ y ∈ scope.names,y.2=.free->∃ c,X.env.cells.lookup y.1=some c:=λy hy hf=>I.ok.has y.1 (S.fr y hy hf)
def Km (I:Inv X pn σ H s) (S:y9 X.env.scope scope T F) (p1:∀ x c,cl.lookup x=some c->X.env.cells.lookup x=some c)
  (p2:∀ y ∈ scope.names,y.2=.free->∃ c,cl.lookup y.1=some c) (hC:s.heap.objs.size <= C) (hf:∀ b ∈ fp,FpOk X pn H b) (hfl:∀ b ∈ fp,b < s.heap.objs.size) :
  (yz X (T ++ F) scope cl C fp s H).Ok where
 mod:=I.ok.mod
 kind:=S.kind
 glob:=I.ok.glob
 blt:=I.ok.blt
 above:=hC
 inj:=λx y c hx hy=>I.ok.inj x y c (p1 x c hx) (p1 y c hy)
 has:=λx hx=>by
  have q:∃ y ∈ scope.names,y.1=x /\ y.2=.free:=by
   rcases hx with hx | hx
   ·exact qz (env:=X.env) S.nocell (show (relabel scope X.env).names.lookup x=some .cell from hx) (.inl rfl)
   ·exact qz (env:=X.env) S.nocell (show (relabel scope X.env).names.lookup x=some .free from hx) (.inr rfl)
  obtain ⟨y,hy,rfl,hf⟩:=q
  exact p2 y hy hf
 cab:=λx c h=>by cases h
 hd:=I.ok.hd
 frames:=I.ok.frames
 stk:=.inl rfl
 exf:=λb hb=>⟨Nat.ne_of_lt (Nat.lt_of_lt_of_le (hfl b hb) hC),λx c e=>(hf b hb).2.2.2.2.1 x c (p1 x c e)⟩
 bs:=I.bs
 bsz:=zak I.ok.bsz I.sz
 noex:=λb o e hb=>by
  rcases (hf b hb).2.2.2.1 with z | z
  ·exact I.ok.noex b o e z
  ·exact absurd (Nat.lt_of_lt_of_le (zae (I.ok.bs b o e).1) z) (Nat.lt_irrefl _)
 exfs:=λb hb z=>by
  rcases zam.mp (I.stkSub b z) with q | q
  ·exact (hf b hb).2.1 q
  ·exact (hf b hb).2.2.1 q
 funs:=I.stack
 frf:=I.stkFree
def st0 (T:List Str) (js:List Nat) (σ:St):St:=List.replicate T.length none ++ js.map λj=>(σ[j]?).join
def qm {α β:Type} {R:α->β->Prop}:∀ {l:List α} {r:List β} {i:Nat} {b:β},Paired R l r->r[i]?=some b->∃ a,l[i]?=some a /\ R a b
 | _,_,_,_,.nil,e=>by simp at e
 | _,_,0,_,.cons h _,e=>by simp at e; subst e; exact ⟨_,rfl,h⟩
 | _,_,i + 1,b,.cons _ t,e=>by
  obtain ⟨a,q1,q2⟩:=qm (i:=i) (b:=b) t (by simpa using e)
  exact ⟨a,by simpa using q1,q2⟩
def Oa {h₁:Heap} {m:Str->Option Value} {t':Nat} (I:Inv X pn σ H s) (S:y9 X.env.scope scope T F) (p1:∀ x c,cl.lookup x=some c->X.env.cells.lookup x=some c)
  (p2:∀ y ∈ scope.names,y.2=.free->∃ c,cl.lookup y.1=some c) (hjs:Paired (λx j=>X.N[j]?=some x) F js) (hC:s.heap.objs.size <= C) (hf:∀ b ∈ fp,FpOk X pn H b) (hfl:∀ b ∈ fp,b < s.heap.objs.size)
  (hn:h₁.Ns C m) (hk:∀ b o,s.heap.get? b=some o->h₁.get? b=some o):Inv (yz X (T ++ F) scope cl C fp s H) [] (st0 T js σ) H { s with heap:=h₁,toks:=t' }:=by
 refine ⟨Km I S p1 p2 hC hf hfl,rfl,I.bare,Un.kept hk,⟨m,hn,λi x v h1 h2 h3=>?_⟩,λx c e=>?_,I.hok.fresh hC,λx c e=>I.freeC x c (p1 x c e),λp hp=>(by cases hp),I.hok.kept hk,?_⟩
 ·have hi:T.length <= i:=by
   rcases Nat.lt_or_ge i T.length with z | z
   ·exfalso
    unfold st0 at h2
    rw [List.getElem?_append_left (by simpa using z),List.getElem?_replicate] at h2
    split at h2 <;> cases h2
   ·exact z
  unfold st0 at h2
  rw [List.getElem?_append_right (by simpa using hi),zai,List.length_replicate] at h2
  cases ej:js[i - T.length]? with
  | none=>rw [ej] at h2; cases h2
  | some j =>
   rw [ej] at h2
   have hσ:(σ[j]?).join=some v:=Option.some.inj h2
   obtain ⟨x',hx',hX⟩:=qm hjs ej
   have h1':(T ++ F)[i]?=some x:=h1
   rw [List.getElem?_append_right hi,hx'] at h1'
   cases h1'
   have hσ':σ[j]?=some (some v):=by
    cases e:σ[j]? with
    | none=>rw [e] at hσ; cases hσ
    | some o=>rw [e] at hσ; cases hσ; rfl
   have hxF:x ∈ F:=zan hx'
   have hfree:=S.ffree x hxF
   have hpsc:=S.fr _ (PySem.mem_of_lookup hfree) rfl
   obtain ⟨m0,_,look⟩:=I.loc
   obtain ⟨u,ru,lk⟩:=look j x v hX hσ' (.inr hpsc)
   refine ⟨u,ru,?_⟩
   rcases lk with ⟨k,_⟩ | ⟨_,c,hc,hcell⟩
   ·exfalso
    have k':X.env.scope.names.lookup x=some .local:=k
    rcases hpsc with z | z
    ·rw [k'] at z; cases z
    ·rw [k'] at z; cases z
   ·obtain ⟨c',hc'⟩:=p2 _ (PySem.mem_of_lookup hfree) rfl
    have e2:=p1 x c' hc'
    rw [hc] at e2
    cases e2
    refine .inr ⟨?_,c,hc',hcell.keeps hk⟩
    exact vf (env:=X.env) hfree
 ·obtain ⟨v,q⟩:=I.cell x c (p1 x c e)
  exact ⟨v,q.keeps hk⟩
 ·show (st0 T js σ).length=(T ++ F).length
  unfold st0
  rw [zLa,zLa,List.length_replicate,zLm,(Paired.length hjs)]
def Ob {N':List Str} {σ':St} (I:Inv X pn σ H s) (J:Inv (yz X N' scope cl C fp s H) [] σ' H' s') (hf:∀ b ∈ fp,FpOk X pn H b):Inv X pn σ H' s' :=
 I.call' (ch:=fp) (show s'.os=s.os from J.os) J.base J.hok J.bare λb hb=>⟨(hf b hb).2.2.2.1,(hf b hb).2.1,(hf b hb).2.2.2.2.1,(hf b hb).2.2.2.2.2⟩
end
section
variable {R:Result->Shared->Prop}
def Uo {elt target iter:Expr} {ifs:List Expr} {scope:Scope} {pos:Pos} {it acc:Value} {env:Env} (I:Nat->Shared->Prop)
  (turn:∀ n s,I n s->wpAny (model prog w) A (pyNext it) (λr s₁=>match r with
   | none=>R (.ok .next) s₁
   | some v=>wpAny (model prog w) A (letOwnedTupleGo target it v) (λ_ s₂=>wpAny (model prog w) A (assign target env v) (λ_ s₃ =>
     wpAny (model prog w) A (forIn ifs true λc r=>if r=true then do let ok <- isTrue c env (eval c env); pure (ForInStep.yield ok) else pure (ForInStep.yield r)) (λok s₄ =>
      if ok=true then wpAny (model prog w) A (eval elt env) (λx s₅=>wpAny (model prog w) A (call (.builtin "list.append") [acc,x]) (λ_ s₆=>∃ m,m < n /\ I m s₆) (λ_ _=>False) s₅) (λ_ _=>False) s₄
      else ∃ m,m < n /\ I m s₄) (λ_ _=>False) s₃) (λ_ _=>False) s₂) (λ_ _=>False) s₁) (λ_ _=>False) s)
  (n:Nat) (h:I n s):codeAny (model prog w) A (.compLoop (.ListComp elt [⟨target,iter,ifs,0⟩] scope pos) 0 it acc env) R s:=by
 refine codeAny_loop rfl I (λn s hI=>?_) n h
 show wpAny _ A ((compTurn (.ListComp elt [⟨target,iter,ifs,0⟩] scope pos) 0 it acc env).onRaise (λx=>do noteFrame x env; theTreesLotGoes x)) _ _ s
 refine wpAny_noted (wpAny_noRaise ?_)
 rw [compTurn_list]
 refine zaa (wpAny_standAt (zaa (thn (turn n s hI) λr s₁ h₁=>?_)))
 cases r with
 | none=>exact zab h₁
 | some v =>
  refine zaa (thn h₁ λ_ s₂ h₂=>zaa (thn h₂ λ_ s₃ h₃=>zaa (thn h₃ λok s₄ h₄=>?_)))
  cases ok with
  | false=>exact zab ⟨rfl,h₄⟩
  | true=>exact zaa (zaa (thn h₄ λx s₅ h₅=>zaa (thn h₅ λ_ s₆ h₆=>zab (zab ⟨rfl,h₆⟩))))
end
def PIf (X:Cx) (ifs:List Expr) (t:TT):Prop :=
 ∀ (pn:List (Addr × Obj)) (s:Shared) (σ:St) (H:Hp) (Q:Bool->Hp->Prop),Inv X pn σ H s->t σ H Q ->
  wpAny (model X.prog X.w) X.A (forIn ifs true λc r=>if r=true then do let ok <- isTrue c X.env (eval c X.env); pure (ForInStep.yield ok) else pure (ForInStep.yield r)) (TP X pn σ Q) X.xe s
def tYes:TT:=λ_ H Q=>Q true H
def K9 {X:Cx}:PIf X [] tYes:=λ_ _ _ H _ I h=>wpAny_tests_nil ⟨H,I,h⟩
def K8 {X:Cx} {c:Expr} {tc:TT} (h:PT X c tc):PIf X [c] tc:=λpn s σ H Q I q=>wpAny_tests_one (h pn s σ H Q I q)
def w6 (n:Nat) (σ σ':St):Prop:=σ'.length=σ.length /\ ∀ i,n <= i->σ'[i]?=σ[i]?
def w6.refl (n:Nat) (σ:St):w6 n σ σ:=⟨rfl,λ_ _=>rfl⟩
def w6.trans {n:Nat} {a b c:St} (x:w6 n a b) (y:w6 n b c):w6 n a c:=⟨y.1.trans x.1,λi h=>(y.2 i h).trans (x.2 i h)⟩
def w6.set {n i:Nat} {σ:St} {v:V} (h:i < n):w6 n σ (σ.set i (some v)):=⟨by simp,λj hj=>by rw [List.getElem?_set_ne (by omega)]⟩
def Z6 (n:Nat) (g:TG):Prop:=∀ v σ H Q,g v σ H Q->g v σ H λσ' H'=>Q σ' H' /\ w6 n σ σ'
def Vt (n:Nat) (g:TGs):Prop:=∀ vs σ H Q,g vs σ H Q->g vs σ H λσ' H'=>Q σ' H' /\ w6 n σ σ'
def yy {n i:Nat} (h:i < n):Z6 n (se i):=λv σ H Q q=>⟨q,w6.set h⟩
def Re {n:Nat}:Vt n gNil:=λvs σ H Q q=>⟨q.1,q.2,w6.refl n σ⟩
def qv {n:Nat} {t:TG} {u:TGs} (mono:∀ v σ H Q Q',(∀ σ' H',Q σ' H'->Q' σ' H')->t v σ H Q->t v σ H Q') (monos:∀ v σ H Q Q',(∀ σ' H',Q σ' H'->Q' σ' H')->u v σ H Q->u v σ H Q') (h1:Z6 n t) (h2:Vt n u):Vt n (gf t u):=λvs σ H Q q=>by
 obtain ⟨v,r,e,q⟩:=q
 refine ⟨v,r,e,mono _ _ _ _ _ (λσ' H' z=>?_) (h1 v σ H _ q)⟩
 exact monos _ _ _ _ _ (λσ2 H2 y=>⟨y.1,z.2.trans y.2⟩) (h2 r σ' H' Q z.1)
def Rc {K:W.Frag} {n k:Nat} {t:TGs} (h:Vt n t):Z6 n (gTup K k t):=λv σ H Q q=>by
 obtain ⟨a,xs,e,hq,hl,q⟩:=q
 exact ⟨a,xs,e,hq,hl,h xs σ H Q q⟩
def ua {i:Nat}:∀ v σ H (Q Q':St->Hp->Prop),(∀ σ' H',Q σ' H'->Q' σ' H')->se i v σ H Q->se i v σ H Q':=λ_ _ _ _ _ f q=>f _ _ q
def fo:∀ v σ H (Q Q':St->Hp->Prop),(∀ σ' H',Q σ' H'->Q' σ' H')->gNil v σ H Q->gNil v σ H Q':=λ_ _ _ _ _ f q=>⟨q.1,f _ _ q.2⟩
def Xs {t:TG} {u:TGs} (mono:∀ v σ H Q Q',(∀ σ' H',Q σ' H'->Q' σ' H')->t v σ H Q->t v σ H Q') (monos:∀ v σ H Q Q',(∀ σ' H',Q σ' H'->Q' σ' H')->u v σ H Q->u v σ H Q') :
  ∀ v σ H (Q Q':St->Hp->Prop),(∀ σ' H',Q σ' H'->Q' σ' H')->gf t u v σ H Q->gf t u v σ H Q':=λvs σ H Q Q' f q=>by
 obtain ⟨v,r,e,q⟩:=q
 exact ⟨v,r,e,mono _ _ _ _ _ (λσ' H' z=>monos _ _ _ _ _ f z) q⟩
def Hg (J:It) (g:TG) (tc:TT) (te:TE) (σ0:St) (D:Addr) (Z:Hp->Prop) (H:Hp):Prop :=
 ∃ W:Nat->Nat->List V->Hp->Prop,(∃ m,W 0 m [] H) /\ ∀ i m ys H,W i m ys H->H D=some (.lst ys) /\ ((J.stop i H /\ Z H) \/ (J.go i H /\ ∃ N:List V->Hp->Prop,(∀ zs H',N zs H'->∃ m',m' < m /\ W (i + 1) m' zs H') /\ ∀ x H',J.yld i H x H' ->
  g x σ0 H' λσ2 H2=>tc σ2 H2 λb H3=>if b=true then te σ2 H3 λy H4=>H4 D=some (.lst ys) /\ ys.length < sizeLine /\ N (ys ++ [y]) (upd H4 D (.lst (ys ++ [y]))) else N ys H3))
def Qy (wi:TI) (T:List Str) (js:List Nat) (g:TG) (tc:TT) (te:TE):TE:=λσ H Q=>wi σ H λJ H1=>∀ D,H1 D=none->Hg J g tc te (st0 T js σ) D (Q (.ref D)) (upd H1 D (.lst []))
section
variable {H2:Hp} {s2:Shared} {scope:Scope} {T F:List Str} {cl:List (Str × Addr)} {fp:List Addr} {js:List Nat} {tg iter elt:Expr} {ifs:List Expr} {g:TG} {tc:TT} {J:It} {it:Addr} {tn:Nat->Heap->Prop} {RR:Value->Addr->Result->Shared->Prop}
def d9 (hc:X.calm=true) (S:y9 X.env.scope scope T F) (hjs:Paired (λx j=>X.N[j]?=some x) F js)
  (hg:∀ cl C fp s H,PG (yz X (T ++ F) scope cl C fp s H) tg g) (hk:Z6 T.length g)
  (ht:∀ cl C fp s H,PIf (yz X (T ++ F) scope cl C fp s H) ifs tc) (he:∀ cl C fp s H,PE (yz X (T ++ F) scope cl C fp s H) elt te)
  (p1:∀ x c,cl.lookup x=some c->X.env.cells.lookup x=some c) (p2:∀ y ∈ scope.names,y.2=.free->∃ c,cl.lookup y.1=some c)
  (I2:Inv X pn σ H2 s2) (Tn:Turn X.prog X.w X.K tg J fp it tn) (st2:tn 0 s2.heap) (f2:∀ b ∈ fp,FpOk X pn H2 b) (Z:Addr->Hp->Prop)
  (loop:∀ D,H2 D=none->Hg J g tc te (st0 T js σ) D (Z D) (upd H2 D (.lst [])))
  (hRR:∀ D C H' s' m',s'.heap.Ns C m'->FpOk X pn H' C->Inv X pn σ H' s'->Z D H'->RR (.ref D) C (.ok .next) s') :
  wpAny (model X.prog X.w) X.A (newList []) (λacc s₃=>wpAny (model X.prog X.w) X.A (newFunctionEnv scope X.env.globals cl [] X.env.qual none .none (some X.env)) (λcenv s₄ =>
   codeAny (model X.prog X.w) X.A (.compStart (.ListComp elt [⟨tg,iter,ifs,0⟩] scope pos) 0 (.ref it) acc { cenv with scope:=relabel scope X.env }) (RR acc cenv.locals) s₄) E s₃) E s2:=by
 refine wpAny_newObj_type (wpAny_newFunctionEnv S.nocell (by intro y hy; cases hy) (λh₁ hns hsb=>?_) S.kind)
 dsimp only at hns hsb ⊢
 have I3:Inv X pn σ (upd H2 s2.heap.objs.size (.lst [])) { s2 with heap:=s2.heap.push { cls:=.type "list", data:=.seq ([]:List Value).toArray } }:=I2.lnew (its:=[]) (t':=s2.toks) .nil (Nat.zero_le _)
 have hobj:∀ b ∈ fp,b < s2.heap.objs.size:=λb hb=>by
  obtain ⟨o,e,_⟩:=Tn.obj _ _ st2 b hb
  exact zae e
 have f3:∀ b ∈ fp,FpOk X pn (upd H2 s2.heap.objs.size (.lst [])) b:=λb hb=>⟨by rw [y7 (Nat.ne_of_lt (hobj b hb))]; exact (f2 b hb).1,(f2 b hb).2⟩
 obtain ⟨W,⟨m0,w0⟩,turn⟩:=loop s2.heap.objs.size I2.fresh
 generalize hs3:({ s2 with heap:=s2.heap.push { cls:=.type "list", data:=.seq ([]:List Value).toArray } }:Shared)=s3 at I3
 have e3:s2.heap.push { cls:=.type "list", dict:=none,data:=.seq ([]:List Value).toArray }=s3.heap:=by rw [<- hs3]
 rw [e3] at hns hsb ⊢
 have sz3:s3.heap.objs.size=s2.heap.objs.size + 1:=by rw [<- e3,Heap.size_push]
 have hold:∀ b o,s3.heap.get? b=some o->h₁.get? b=some o:=λb o e=>hsb.extBut b o (Nat.ne_of_lt (zae e)) (zac _ e)
 have hobj3:∀ b ∈ fp,b < s3.heap.objs.size:=λb hb=>by rw [sz3]; exact Nat.lt_succ_of_lt (hobj b hb)
 have J0:Inv (yz X (T ++ F) scope cl s3.heap.objs.size fp s3 (upd H2 s2.heap.objs.size (.lst []))) [] (st0 T js σ) (upd H2 s2.heap.objs.size (.lst [])) { s3 with heap:=h₁,toks:=s2.toks + ([]:List (Str × Value)).length } :=
  Oa I3 S p1 p2 hjs (zaj _) f3 hobj3 hns hold
 have stL:tn 0 h₁:=Tn.keep _ _ _ st2 λb _ o e=>hold b o (by rw [<- e3]; exact zac _ e)
 have es:({ s2 with heap:=h₁,toks:=s2.toks + ([]:List (Str × Value)).length }:Shared)={ s3 with heap:=h₁,toks:=s2.toks + ([]:List (Str × Value)).length }:=by rw [<- hs3]
 have main:codeAny (model X.prog X.w) X.A (.compLoop (.ListComp elt [⟨tg,iter,ifs,0⟩] scope pos) 0 (.ref it) (.ref s2.heap.objs.size) (compEnvC scope cl s3.heap.objs.size X.env)) (RR (.ref s2.heap.objs.size) s3.heap.objs.size)
   { s3 with heap:=h₁,toks:=s2.toks + ([]:List (Str × Value)).length }:=by
  have stat:∀ {H':Hp},(∀ b ∈ fp,H' b=none)->∀ b ∈ fp,FpOk (yz X (T ++ F) scope cl s3.heap.objs.size fp s3 (upd H2 s2.heap.objs.size (.lst []))) [] H' b:=λhn b hb =>
   ⟨hn b hb,Nat.ne_of_lt (hobj3 b hb),J0.ok.exfs b hb,.inl hb,(J0.ok.exf b hb).2,λp hp=>(by cases hp)⟩
  refine Uo (λn s'=>∃ i ys H',Inv (yz X (T ++ F) scope cl s3.heap.objs.size fp s3 (upd H2 s2.heap.objs.size (.lst []))) [] (st0 T js σ) H' s' /\ tn i s'.heap /\ (∀ b ∈ fp,H' b=none) /\ W i n ys H') ?_ m0
   ⟨0,[],_,J0,stL,λb hb=>(f3 b hb).1,w0⟩
  rintro n s4 ⟨i,ys,H4,I4,st4,fr4,w4⟩
  obtain ⟨hD,alt⟩:=turn i n ys H4 w4
  rcases alt with ⟨stop,z⟩ | ⟨go,N,hN,step⟩
  ·refine thn (Tn.done (yz X (T ++ F) scope cl s3.heap.objs.size fp s3 (upd H2 s2.heap.objs.size (.lst []))) rfl rfl rfl hc i [] s4 _ H4 (λ_ _=>False) I4 (stat fr4) st4 stop) λr s5 ⟨hr,I5⟩=>?_
   subst hr
   obtain ⟨m5,n5,_⟩:=I5.loc
   have fC:FpOk X pn H4 s3.heap.objs.size:=I2.fpOk (by rw [sz3]; exact Nat.le_succ _) I5.free
   exact hRR _ _ H4 s5 m5 n5 fC ((Ob I3 I5 f3)) z
  ·refine thn (Tn.item (yz X (T ++ F) scope cl s3.heap.objs.size fp s3 (upd H2 s2.heap.objs.size (.lst []))) rfl rfl rfl hc i [] s4 _ H4 (λ_ _=>False) I4 (stat fr4) st4 go) λr s5 ⟨u,hr,h5⟩=>?_
   subst hr
   refine thn h5 λ_ s6 ⟨x,H6,I6,r6,y6,st6,fr6⟩=>?_
   have I6':=I6.pinned (stat fr6) (Tn.obj _ _ st6)
   refine thn (hg _ _ _ _ _ _ s6 _ H6 x u _ I6' r6 (hk x _ H6 _ (step x H6 y6))) λ_ s7 ⟨σ7,H7,I7,q7,kp⟩=>?_
   refine thn (ht _ _ _ _ _ _ s7 σ7 H7 _ I7 q7) λok s8 ⟨H8,I8,q8⟩=>?_
   have again:∀ {s9:Shared} {H9:Hp},Inv (yz X (T ++ F) scope cl s3.heap.objs.size fp s3 (upd H2 s2.heap.objs.size (.lst []))) ([] ++ Zn fp s6.heap) σ7 H9 s9->∀ {zs:List V},(∃ m',m' < n /\ W (i + 1) m' zs H9) ->
     ∃ m,m < n /\ ∃ i ys H',Inv (yz X (T ++ F) scope cl s3.heap.objs.size fp s3 (upd H2 s2.heap.objs.size (.lst []))) [] (st0 T js σ) H' s9 /\ tn i s9.heap /\ (∀ b ∈ fp,H' b=none) /\ W i m ys H':=λ{s9 H9} I9 {zs} q9=>by
    obtain ⟨m',hm,w9⟩:=q9
    have I9':=I9.unpinned
    refine ⟨m',hm,i + 1,zs,H9,I9'.weak kp.1.symm (λa v ea=>?_),Tn.keep _ _ _ st6 λb hb o e=>(I9.pin (b,o) (List.mem_append_right _ (List.mem_append_right _ (uz hb e)))).1,λb hb=>?_,w9⟩
    ·have ha:T.length <= a:=by
      rcases Nat.lt_or_ge a T.length with z | z
      ·exfalso
       unfold st0 at ea
       rw [List.getElem?_append_left (by simpa using z),List.getElem?_replicate] at ea
       split at ea <;> cases ea
      ·exact z
     rw [kp.2 a ha]
     exact ea
    ·obtain ⟨o,e,d⟩:=Tn.obj _ _ st6 b hb
     exact (I9.pin (b,o) (List.mem_append_right _ (List.mem_append_right _ (uz hb e)))).2.1
   cases ok with
   | false =>
    rw [if_neg Bool.false_ne_true] at q8 ⊢
    exact again I8 (hN _ _ q8)
   | true =>
    rw [if_pos rfl] at q8 ⊢
    refine thn (he _ _ _ _ _ _ s8 σ7 H8 _ I8 q8) λy s9 ⟨v9,H9,I9,r9,hD9,hl9,q9⟩=>?_
    refine thn (ul _ s9 σ7 H9 (.ref s2.heap.objs.size) [v9] (.ref s2.heap.objs.size) [y] (λ_ H10=>H10=upd H9 s2.heap.objs.size (.lst (ys ++ [v9]))) I9 rfl (.cons r9 .nil) ⟨_,_,_,rfl,rfl,hD9,hl9,rfl⟩) λ_ s10 ⟨_,H10,I10,_,e10⟩=>?_
    subst e10
    exact again I10 (hN _ _ q9)
 show codeAny _ _ _ _ ({ s2 with heap:=h₁,toks:=s2.toks + ([]:List (Str × Value)).length }:Shared)
 rw [es]
 exact codeAny_compStart_list main (Tn.self _ 0 _ _ _ stL main)
def S9 {wi:TI} (hc:X.calm=true) (hi:PI X tg iter wi) (S:y9 X.env.scope scope T F) (hjs:Paired (λx j=>X.N[j]?=some x) F js)
  (hg:∀ cl C fp s H,PG (yz X (T ++ F) scope cl C fp s H) tg g) (hk:Z6 T.length g)
  (ht:∀ cl C fp s H,PIf (yz X (T ++ F) scope cl C fp s H) ifs tc) (he:∀ cl C fp s H,PE (yz X (T ++ F) scope cl C fp s H) elt te)
  (hs:∀ x,foldedSetIterable iter X.env x=pure x:=by intro _; rfl):PE X (.ListComp elt [⟨tg,iter,ifs,0⟩] scope pos) (Qy wi T js g tc te):=by
 intro pn s σ H Q I h
 obtain ⟨cl,hcl,p1,p2⟩:=da (jw I S)
 rw [eval_ListComp]
 refine wpAny_comprehension_free (use:=none) rfl hs hcl S.kind S.loc (thn (hi pn s σ H _ I h) λv s1 h1=>thn h1 λitv s2 h2=>?_)
 obtain ⟨it,fp,tn,J,H2,e,I2,Tn,st2,f2,loop⟩:=h2
 subst e
 refine d9 (RR:=λacc C=>compPost (model X.prog X.w) X.A X.xe none (EP X pn σ Q) acc C) hc S hjs hg hk ht he p1 p2 I2 Tn st2 f2 (λD H'=>Q (.ref D) H') loop ?_
 intro D C H' s' m' hn fC I' z
 obtain ⟨f0,f1,f2,f3,f4,f5⟩:=fC
 exact ⟨m',hn,λh' sb=>⟨.ref D,H',I'.turned (t':=s'.toks) (λb o hb e=>(sb.2 b hb).trans e) f0 f1 f3 f4 f5,rfl,z⟩⟩
def U0 {wi:TI} {i:Nat} {y:Str} {py spos:Pos} (hc:X.calm=true) (hN:X.N.Nodup) (hy:X.N[i]?=some y) (hl:X.env.scope.names.lookup y=some .local \/ X.env.scope.names.lookup y=some .cell) (hi:PI X tg iter wi) (S:y9 X.env.scope scope T F) (hjs:Paired (λx j=>X.N[j]?=some x) F js)
  (hg:∀ cl C fp s H,PG (yz X (T ++ F) scope cl C fp s H) tg g) (hk:Z6 T.length g)
  (ht:∀ cl C fp s H,PIf (yz X (T ++ F) scope cl C fp s H) ifs tc) (he:∀ cl C fp s H,PE (yz X (T ++ F) scope cl C fp s H) elt te)
  (hsw:swapsWith (.ListComp elt [⟨tg,iter,ifs,0⟩] scope pos) (some (.Name y py)) spos.line X.env=pure true:=by rfl)
  (hs:∀ x,foldedSetIterable iter X.env x=pure x:=by intro _; rfl) (hfn:X.fn y=true \/ X.env.scope.names.lookup y=some .local:=by first | exact .inl rfl | exact .inr rfl | assumption) :
  PS X (.Assign [.Name y py] (.ListComp elt [⟨tg,iter,ifs,0⟩] scope pos) spos) (λD σ H=>Qy wi T js g tc te σ H λv H1=>D.nx (σ.set i (some v)) H1):=by
 intro pn s σ H D I h
 obtain ⟨cl,hcl,p1,p2⟩:=da (jw I S)
 rw [exec_Assign_Name_used _ _ _ _ hsw]
 refine zaa (wpAny_standAt (zaa ?_))
 show wpAny _ X.A (do let _ <- comprehension (.ListComp elt [⟨tg,iter,ifs,0⟩] scope pos) scope X.env _ (newList []) false (eval iter X.env) (some (assign (.Name y py) X.env))) _ _ s
 refine zaa (thn (wpAny_comprehension_free (use:=some (assign (.Name y py) X.env)) (Q:=λ_ s'=>SP X pn D .next s') rfl hs hcl S.kind S.loc (thn (hi pn s σ H _ I h) λv s1 h1=>thn h1 λitv s2 h2=>?_)) λ_ s' hq=>zab (zab hq))
 obtain ⟨it,fp,tn,J,H2,e,I2,Tn,st2,f2,loop⟩:=h2
 subst e
 refine d9 (RR:=λacc C=>compPost (model X.prog X.w) X.A X.xe (some (assign (.Name y py) X.env)) (λ_ s'=>SP X pn D .next s') acc C) hc S hjs hg hk ht he p1 p2 I2 Tn st2 f2 (λD0 H'=>D.nx (σ.set i (some (.ref D0))) H') loop ?_
 intro D0 C H' s' m' hn fC I' z
 obtain ⟨f0,f1,f2,f3,f4,f5⟩:=fC
 show wpAny _ X.A (assign (.Name y py) X.env (.ref D0)) _ _ s'
 refine wpAny_assign_Name (Zd (v:=.ref D0) I' hN hy hl rfl (λs'' I'' ch=>?_) hfn)
 obtain ⟨a,sb,ha⟩:=ch
 have hCa:C ≠ a:=by
  rcases ha with rfl | ha
  ·exact f1
  ·exact λz=>f4 y a ha z.symm
 exact ⟨m',hn.sameBut sb hCa,λh' sb'=>⟨_,H',I''.turned (t':=s''.toks) (λb o hb e=>(sb'.2 b hb).trans e) f0 f1 f3 f4 f5,z⟩⟩
end
def Itv (n:Nat) (val:Nat->V->Prop):It:=⟨λi _=>i < n,λi H x H'=>H'=H /\ val i x,λi _=>i=n⟩
def Jv (x:Str) (i:Nat) (v:V):Prop:=∃ c,x.cps[i]?=some c /\ v=.str ⟨#[c]⟩
def Qr {P:Program} {w:World} {K:W.Frag} {tg:Expr} {it:Addr} {x:Str} {t:Tok} {T:String}
  (W:∀ A:Around,A.handled=none->Walks P w A it [it] [it] x.cps.size (SignAt x) (λi h=>h.IsStrIter it T x t i))
  (hs:∀ (A:Around) (i:Nat) (s:Shared) (Q:Value->Shared->Prop) (E:Value->Shared->Prop),s.heap.IsStrIter it T x t i->Q (.ref it) s->wpAny (model P w) A (pyIter (.ref it)) Q E s)
  (hT:["enumerate", "zip", "dict_itemiterator", "dict_reverseitemiterator", "odict_iterator", "itertools.zip_longest", "itertools.pairwise"].contains T=false) :
  Turn P w K tg (Itv x.cps.size (Jv x)) [it] it (λi h=>h.IsStrIter it T x t i) where
 mem:=by simp
 obj:=λi h st b hb=>by
  have e:b=it:=by simpa using hb
  subst e
  obtain ⟨o,e,c,d⟩:=st
  exact ⟨o,e,λv z=>by rw [d] at z; cases z⟩
 keep:=λi h h' st k=>let ⟨o,e,r⟩:=st; ⟨o,k it (by simp) o e,r⟩
 item:=by
  intro X hP hw hK hc i pn s σ H E I hf st hg
  subst hP hw hK
  obtain ⟨f0,f1,f2,f3,f4,f5⟩:=hf it (by simp)
  refine (W X.A (I.ok.hd hc)).item i s _ _ hg st λv h' tk hv st' kk=>?_
  obtain ⟨c,u,hx,rfl⟩:=hv
  have I1:Inv X pn σ H { s with heap:=h',toks:=tk }:=I.turned (λb o hb e=>kk b o (by simpa using hb) e) f0 f1 f3 f4 f5
  obtain ⟨o,e,c',d⟩:=id st'
  exact ⟨_,rfl,Ra (s:={ s with heap:=h',toks:=tk }) e c' d hT ⟨.str ⟨#[c]⟩,H,I1,⟨u,rfl⟩,⟨rfl,c,hx,rfl⟩,st',λb hb=>(hf b hb).1⟩⟩
 done:=by
  intro X hP hw hK hc i pn s σ H E I hf st hg
  subst hP hw hK
  obtain ⟨f0,f1,f2,f3,f4,f5⟩:=hf it (by simp)
  have e:i=x.cps.size:=hg
  subst e
  exact (W X.A (I.ok.hd hc)).done s _ _ st λh' tk kk=>⟨rfl,I.turned (λb o hb e=>kk b o (by simpa using hb) e) f0 f1 f3 f4 f5⟩
 self:=λA i s Q E st h=>hs A i s Q E st h
def Vy:V->Option Bool
 | .bl b=>some b
 | .int i=>some (i != 0)
 | .non=>some false
 | _=>none
def Yz (ys:List V) (d:Bool) (i:Nat):Bool:=((ys[i]?).bind Vy).getD d
def Yw (ys:List V) (h:∀ y ∈ ys,(Vy y).isSome=true):(List.range ys.length).all (Yz ys true)=ys.all λy=>Vy y == some true:=by
 rw [Bool.eq_iff_iff,List.all_eq_true,List.all_eq_true]
 constructor
 ·intro q y hy
  obtain ⟨i,hi,e⟩:=List.getElem_of_mem hy
  have z:=q i (List.mem_range.mpr hi)
  unfold Yz at z
  rw [zaf hi,Option.bind_some,e] at z
  obtain ⟨b,hb⟩:=Option.isSome_iff_exists.mp (h y hy)
  rw [hb] at z ⊢
  simpa using z
 ·intro q i hi
  have hi':=List.mem_range.mp hi
  have z:=q _ (List.getElem_mem hi')
  unfold Yz
  rw [zaf hi',Option.bind_some,eq_of_beq z]
  rfl
def Wf {P:Program} {w:World} {A:Around} {ys:List V} {its:List Value} (d:Bool) (r:Vals ys its) (h:∀ y ∈ ys,(Vy y).isSome=true):TruthOf P w A (λi v=>its.toArray[i]?=some v) (Yz ys d):=by
 intro i v s Q E hP hQ
 obtain ⟨y,hy,ry⟩:=qm r (show its[i]?=some v by simpa using hP)
 unfold Yz at hQ
 rw [hy,Option.bind_some] at hQ
 have hs:=h y (zan hy)
 cases y with
 | bl b=>cases ry; exact wpAny_truthy_bool hQ
 | int k=>obtain ⟨t,rfl⟩:=ry; exact PySem.P.truthy_int hQ
 | non=>cases ry; exact truthy_none hQ
 | _=>cases hs
def Zu {s:Shared} {h':Heap} {o:Obj} (hk:∀ b x,b ∉ [s.heap.objs.size]->(s.heap.push o).get? b=some x->h'.get? b=some x):∀ b x,s.heap.get? b=some x->h'.get? b=some x :=
 λb x e=>hk b x (by simpa using Nat.ne_of_lt (zae e)) (zac _ e)
def rAll (K:W.Frag) (f:List V->Bool):List V->Hp->VK->Prop:=λxs H Q=>∃ p ys,xs=[.ref p] /\ (SqL K H p ys \/ SqT K H p ys) /\ (∀ y ∈ ys,(Vy y).isSome=true) /\ Q (.bl (f ys)) H
def Yq (hc:X.calm=true):uv X (.builtin "all") (rAll X.K λys=>ys.all λy=>Vy y == some true):=by
 intro pn s σ H xs us Q I r h
 obtain ⟨p,ys,rfl,hq,ht,q⟩:=h
 obtain ⟨u,rfl,rx⟩:=ga r
 cases rx
 rcases hq with hq | hq
 ·obtain ⟨its,rv,pl,hz⟩:=I.list hq
  have hlt:p < s.heap.objs.size:=by obtain ⟨_,e,_⟩:=pl.isList; exact zae e
  refine call_all_walk (wpAny_pyIter_list pl.isList ⟨s.heap.objs.size,[s.heap.objs.size,p],[s.heap.objs.size],its.toArray.size,_,_,Yz ys true,rfl,Walks.list (A:=X.A.in1) (I.ok.hd hc) _ p (Nat.ne_of_lt hlt) its.toArray,
   ⟨⟨_,zad _ rfl,rfl,rfl⟩,pl.isList.push _⟩,Wf true rv ht,λh' tk hk=>?_⟩)
  rw [zap,<- rv.length,Yw ys ht]
  exact ⟨.bl _,H,I.kept (Zu hk),rfl,q⟩
 ·obtain ⟨its,rv,pl,hz⟩:=I.tuple hq
  have hlt:p < s.heap.objs.size:=by obtain ⟨_,e,_⟩:=pl; exact zae e
  have pl':s.heap.IsTuple p its.toArray:=pl
  refine call_all_walk (wpAny_pyIter_tuple pl' ⟨s.heap.objs.size,[s.heap.objs.size,p],[s.heap.objs.size],its.toArray.size,_,_,Yz ys true,rfl,Walks.tuple (A:=X.A.in1) (I.ok.hd hc) _ p (Nat.ne_of_lt hlt) its.toArray,
   ⟨⟨_,zad _ rfl,rfl,rfl⟩,pl'.at λo e=>zac _ e⟩,Wf true rv ht,λh' tk hk=>?_⟩)
  rw [zap,<- rv.length,Yw ys ht]
  exact ⟨.bl _,H,I.kept (Zu hk),rfl,q⟩
inductive D where
 | non | bl (b:Bool) | int (i:Int) | str (x:Str) | ty (n:String)
 | tup (ds:List D) | lst (ds:List D) | dk (ks:List Key) (ds:List D)
  | scr (ns:List Int)
     | ob (C:Addr) (ns:List Str) (ds:List D)
def Scr (K:W.Frag) (H:Hp) (a:Addr) (ns:List Int):Prop :=
 (∃ o,H a=some (.frz o (.lst (ns.map V.int)))) \/
  ∃ (o:Obj) (its:Array Value) (n:Nat),K.lookup a=some o /\ o.cls=.type "list" /\ o.dict=none /\ o.data=.seq its n /\ its.size <= sizeLine /\ Vals (ns.map V.int) its.toList
def Scr.seq {K:W.Frag} {H:Hp} {a:Addr} {ns:List Int} (h:Scr K H a ns):SqL K H a (ns.map V.int):=by
 rcases h with ⟨o,h⟩ | h
 ·exact .inl (.inr ⟨o,h⟩)
 ·exact .inr h
def dzV (rs:List (List Int × Int)):List (List Key × V):=rs.map λp=>(p.1.map Sum.inl,V.int p.2)
def Dz (H:Hp) (a:Addr) (rs:List (List Int × Int)):Prop:=(∃ o,H a=some (.frz o (.dT (dzV rs)))) /\ (rs.map Prod.fst).Nodup
def SqR (K:W.Frag) (H:Hp) (a:Addr) (xs:List V):Prop:=SqT K H a xs /\ H a=some (.tup xs)
mutual
def Rep (K:W.Frag) (H:Hp) (O:List Addr):D->V->Prop
 | .non,v=>v=.non
 | .bl b,v=>v=.bl b
 | .int i,v=>v=.int i
 | .str x,v=>v=.str x
 | .ty n,v=>v=.ty n
 | .tup ds,v=>∃ a xs,v=.ref a /\ SqR K H a xs /\ Reps K H O ds xs
 | .lst ds,v=>∃ a xs,v=.ref a /\ H a=some (.lst xs) /\ a ∉ O /\ Reps K H O ds xs
 | .scr ns,v=>∃ a,v=.ref a /\ Scr K H a ns
 | .dk ks ds,v=>∃ a xs,v=.ref a /\ H a=some (.dK (ks.zip xs)) /\ a ∉ O /\ ks.length=ds.length /\ ks.Nodup /\ Reps K H O ds xs
 | .ob C ns ds,v=>∃ a dx xs,v=.ref a /\ H a=some (.ins C dx (ns.zip xs)) /\ a ∉ O /\ ns.length=ds.length /\ ns.Nodup /\ Reps K H O ds xs
def Reps (K:W.Frag) (H:Hp) (O:List Addr):List D->List V->Prop
 | [],xs=>xs=[]
 | d :: ds,xs=>∃ v r,xs=v :: r /\ Rep K H O d v /\ Reps K H O ds r
end
structure Grow (O O':List Addr) (H H':Hp):Prop where
 keep:∀ b u,H b=some u->b ∉ O->H' b=some u /\ b ∉ O'
 tups:∀ b xs,H b=some (.tup xs)->H' b=some (.tup xs)
 frzs:∀ b o u,H b=some (.frz o u)->H' b=some (.frz o u)
def Grow.same {O:List Addr} {H H':Hp} (s:Same H H'):Grow O O H H':=⟨λb u h n=>⟨s b u h,n⟩,λb xs h=>s b _ h,λb o u h=>s b _ h⟩
def Grow.refl {O:List Addr} {H:Hp}:Grow O O H H:=Grow.same (Same.refl H)
def Grow.trans {O O' O'':List Addr} {H H' H'':Hp} (a:Grow O O' H H') (b:Grow O' O'' H' H''):Grow O O'' H H'' :=
 ⟨λc u h n=>let ⟨h',n'⟩:=a.keep c u h n; b.keep c u h' n',λc xs h=>b.tups c xs (a.tups c xs h),λc o u h=>b.frzs c o u (a.frzs c o u h)⟩
def dw {K:W.Frag} {O O':List Addr} {H H':Hp} {a:Addr} {xs:List V} (g:Grow O O' H H') (h:SqT K H a xs):SqT K H' a xs:=by
 rcases h with (h | ⟨o,h⟩) | h
 ·exact .inl (.inl (g.tups _ _ h))
 ·exact .inl (.inr ⟨o,g.frzs _ _ _ h⟩)
 ·exact .inr h
def Wj {K:W.Frag} {O O':List Addr} {H H':Hp} {a:Addr} {xs:List V} (g:Grow O O' H H') (h:SqR K H a xs):SqR K H' a xs:=⟨dw g h.1,g.tups _ _ h.2⟩
def kj {K:W.Frag} {O O':List Addr} {H H':Hp} {a:Addr} {ns:List Int} (g:Grow O O' H H') (h:Scr K H a ns):Scr K H' a ns:=by
 rcases h with ⟨o,h⟩ | h
 ·exact .inl ⟨o,g.frzs _ _ _ h⟩
 ·exact .inr h
mutual
def Rep.grow {K:W.Frag} {O O':List Addr} {H H':Hp} (g:Grow O O' H H'):∀ (d:D) (v:V),Rep K H O d v->Rep K H' O' d v
 | .non,_,h=>h
 | .bl _,_,h=>h
 | .int _,_,h=>h
 | .str _,_,h=>h
 | .ty _,_,h=>h
 | .tup ds,v,h=>by
  obtain ⟨a,xs,e,q,r⟩:=h
  exact ⟨a,xs,e,Wj g q,Reps.grow g ds xs r⟩
 | .lst ds,v,h=>by
  obtain ⟨a,xs,e,q,n,r⟩:=h
  exact ⟨a,xs,e,(g.keep _ _ q n).1,(g.keep _ _ q n).2,Reps.grow g ds xs r⟩
 | .scr ns,v,h=>by
  obtain ⟨a,e,q⟩:=h
  exact ⟨a,e,kj g q⟩
 | .dk ks ds,v,h=>by
  obtain ⟨a,xs,e,q,n,l,nd,r⟩:=h
  exact ⟨a,xs,e,(g.keep _ _ q n).1,(g.keep _ _ q n).2,l,nd,Reps.grow g ds xs r⟩
 | .ob C ns ds,v,h=>by
  obtain ⟨a,dx,xs,e,q,n,l,nd,r⟩:=h
  exact ⟨a,dx,xs,e,(g.keep _ _ q n).1,(g.keep _ _ q n).2,l,nd,Reps.grow g ds xs r⟩
def Reps.grow {K:W.Frag} {O O':List Addr} {H H':Hp} (g:Grow O O' H H'):∀ (ds:List D) (xs:List V),Reps K H O ds xs->Reps K H' O' ds xs
 | [],_,h=>h
 | d :: ds,xs,h=>by
  obtain ⟨v,r,e,q,t⟩:=h
  exact ⟨v,r,e,Rep.grow g d v q,Reps.grow g ds r t⟩
end
mutual
def Rep.sub {K:W.Frag} {O O':List Addr} {H:Hp} (g:∀ a ∈ O',a ∈ O):∀ (d:D) (v:V),Rep K H O d v->Rep K H O' d v
 | .non,_,h=>h
 | .bl _,_,h=>h
 | .int _,_,h=>h
 | .str _,_,h=>h
 | .ty _,_,h=>h
 | .tup ds,v,h=>by
  obtain ⟨a,xs,e,q,r⟩:=h
  exact ⟨a,xs,e,q,Reps.sub g ds xs r⟩
 | .lst ds,v,h=>by
  obtain ⟨a,xs,e,q,n,r⟩:=h
  exact ⟨a,xs,e,q,λz=>n (g a z),Reps.sub g ds xs r⟩
 | .scr _,_,h=>h
 | .dk ks ds,v,h=>by
  obtain ⟨a,xs,e,q,n,l,nd,r⟩:=h
  exact ⟨a,xs,e,q,λz=>n (g a z),l,nd,Reps.sub g ds xs r⟩
 | .ob C ns ds,v,h=>by
  obtain ⟨a,dx,xs,e,q,n,l,nd,r⟩:=h
  exact ⟨a,dx,xs,e,q,λz=>n (g a z),l,nd,Reps.sub g ds xs r⟩
def Reps.sub {K:W.Frag} {O O':List Addr} {H:Hp} (g:∀ a ∈ O',a ∈ O):∀ (ds:List D) (xs:List V),Reps K H O ds xs->Reps K H O' ds xs
 | [],_,h=>h
 | d :: ds,xs,h=>by
  obtain ⟨v,r,e,q,t⟩:=h
  exact ⟨v,r,e,Rep.sub g d v q,Reps.sub g ds r t⟩
end
mutual
def zk:D->Prop
 | .tup ds=>zn ds
 | .lst _=>False
 | .dk _ _=>False
 | .ob _ _ _=>False
 | .scr _=>True
 | .non=>True
 | .bl _=>True
 | .int _=>True
 | .str _=>True
 | .ty _=>True
def zn:List D->Prop
 | []=>True
 | d :: ds=>zk d /\ zn ds
end
def yf:∀ {ds:List D},zn ds ↔ ∀ d ∈ ds,zk d
 | []=>by simp [zn]
 | d :: ds=>by
  rw [zn,yf]
  simp
mutual
def Rep.pure {K:W.Frag} {O O':List Addr} {H:Hp}:∀ (d:D) (v:V),zk d->Rep K H O d v->Rep K H O' d v
 | .non,_,_,h=>h
 | .bl _,_,_,h=>h
 | .int _,_,_,h=>h
 | .str _,_,_,h=>h
 | .ty _,_,_,h=>h
 | .tup ds,v,p,h=>by
  obtain ⟨a,xs,e,q,r⟩:=h
  exact ⟨a,xs,e,q,Reps.pure ds xs p r⟩
 | .scr _,_,_,h=>h
 | .lst ds,v,p,h=>p.elim
 | .dk ks ds,v,p,h=>p.elim
 | .ob C ns ds,v,p,h=>p.elim
def Reps.pure {K:W.Frag} {O O':List Addr} {H:Hp}:∀ (ds:List D) (xs:List V),zn ds->Reps K H O ds xs->Reps K H O' ds xs
 | [],_,_,h=>h
 | d :: ds,xs,p,h=>by
  obtain ⟨v,r,e,q,t⟩:=h
  exact ⟨v,r,e,Rep.pure d v p.1 q,Reps.pure ds r p.2 t⟩
end
mutual
def RepN (K:W.Frag) (H:Hp) (P:Addr->Prop):D->V->Prop
 | .non,v=>v=.non
 | .bl b,v=>v=.bl b
 | .int i,v=>v=.int i
 | .str x,v=>v=.str x
 | .ty n,v=>v=.ty n
 | .tup ds,v=>∃ a xs,v=.ref a /\ SqR K H a xs /\ xn K H P ds xs
 | .lst ds,v=>∃ a xs,v=.ref a /\ H a=some (.lst xs) /\ P a /\ xn K H P ds xs
 | .scr ns,v=>∃ a,v=.ref a /\ Scr K H a ns
 | .dk ks ds,v=>∃ a xs,v=.ref a /\ H a=some (.dK (ks.zip xs)) /\ P a /\ ks.length=ds.length /\ ks.Nodup /\ xn K H P ds xs
 | .ob C ns ds,v=>∃ a dx xs,v=.ref a /\ H a=some (.ins C dx (ns.zip xs)) /\ P a /\ ns.length=ds.length /\ ns.Nodup /\ xn K H P ds xs
def xn (K:W.Frag) (H:Hp) (P:Addr->Prop):List D->List V->Prop
 | [],xs=>xs=[]
 | d :: ds,xs=>∃ v r,xs=v :: r /\ RepN K H P d v /\ xn K H P ds r
end
mutual
def RepN.to {K:W.Frag} {P P':Addr->Prop} {H H':Hp} (s:Same H H') (g:∀ a,P a->P' a):∀ (d:D) (v:V),RepN K H P d v->RepN K H' P' d v
 | .non,_,h=>h
 | .bl _,_,h=>h
 | .int _,_,h=>h
 | .str _,_,h=>h
 | .ty _,_,h=>h
 | .tup ds,v,h=>by
  obtain ⟨a,xs,e,q,r⟩:=h
  exact ⟨a,xs,e,Wj (Grow.same (O:=[]) s) q,xn.to s g ds xs r⟩
 | .lst ds,v,h=>by
  obtain ⟨a,xs,e,q,n,r⟩:=h
  exact ⟨a,xs,e,s _ _ q,g a n,xn.to s g ds xs r⟩
 | .scr ns,v,h=>by
  obtain ⟨a,e,q⟩:=h
  exact ⟨a,e,kj (Grow.same (O:=[]) s) q⟩
 | .dk ks ds,v,h=>by
  obtain ⟨a,xs,e,q,n,l,nd,r⟩:=h
  exact ⟨a,xs,e,s _ _ q,g a n,l,nd,xn.to s g ds xs r⟩
 | .ob C ns ds,v,h=>by
  obtain ⟨a,dx,xs,e,q,n,l,nd,r⟩:=h
  exact ⟨a,dx,xs,e,s _ _ q,g a n,l,nd,xn.to s g ds xs r⟩
def xn.to {K:W.Frag} {P P':Addr->Prop} {H H':Hp} (s:Same H H') (g:∀ a,P a->P' a):∀ (ds:List D) (xs:List V),xn K H P ds xs->xn K H' P' ds xs
 | [],_,h=>h
 | d :: ds,xs,h=>by
  obtain ⟨v,r,e,q,t⟩:=h
  exact ⟨v,r,e,RepN.to s g d v q,xn.to s g ds r t⟩
end
mutual
def RepN.rep {K:W.Frag} {P:Addr->Prop} {H:Hp} {O:List Addr} (g:∀ a,P a->a ∉ O):∀ (d:D) (v:V),RepN K H P d v->Rep K H O d v
 | .non,_,h=>h
 | .bl _,_,h=>h
 | .int _,_,h=>h
 | .str _,_,h=>h
 | .ty _,_,h=>h
 | .tup ds,v,h=>by
  obtain ⟨a,xs,e,q,r⟩:=h
  exact ⟨a,xs,e,q,xn.reps g ds xs r⟩
 | .lst ds,v,h=>by
  obtain ⟨a,xs,e,q,n,r⟩:=h
  exact ⟨a,xs,e,q,g a n,xn.reps g ds xs r⟩
 | .scr _,_,h=>h
 | .dk ks ds,v,h=>by
  obtain ⟨a,xs,e,q,n,l,nd,r⟩:=h
  exact ⟨a,xs,e,q,g a n,l,nd,xn.reps g ds xs r⟩
 | .ob C ns ds,v,h=>by
  obtain ⟨a,dx,xs,e,q,n,l,nd,r⟩:=h
  exact ⟨a,dx,xs,e,q,g a n,l,nd,xn.reps g ds xs r⟩
def xn.reps {K:W.Frag} {P:Addr->Prop} {H:Hp} {O:List Addr} (g:∀ a,P a->a ∉ O):∀ (ds:List D) (xs:List V),xn K H P ds xs->Reps K H O ds xs
 | [],_,h=>h
 | d :: ds,xs,h=>by
  obtain ⟨v,r,e,q,t⟩:=h
  exact ⟨v,r,e,RepN.rep g d v q,xn.reps g ds r t⟩
end
mutual
def Rep.toN {K:W.Frag} {P:Addr->Prop} {O:List Addr} {H:Hp}:∀ (d:D) (v:V),zk d->Rep K H O d v->RepN K H P d v
 | .non,_,_,h=>h
 | .bl _,_,_,h=>h
 | .int _,_,_,h=>h
 | .str _,_,_,h=>h
 | .ty _,_,_,h=>h
 | .tup ds,v,p,h=>by
  obtain ⟨a,xs,e,q,r⟩:=h
  exact ⟨a,xs,e,q,Reps.toN ds xs p r⟩
 | .scr _,_,_,h=>h
 | .lst ds,v,p,h=>p.elim
 | .dk ks ds,v,p,h=>p.elim
 | .ob C ns ds,v,p,h=>p.elim
def Reps.toN {K:W.Frag} {P:Addr->Prop} {O:List Addr} {H:Hp}:∀ (ds:List D) (xs:List V),zn ds->Reps K H O ds xs->xn K H P ds xs
 | [],_,_,h=>h
 | d :: ds,xs,p,h=>by
  obtain ⟨v,r,e,q,t⟩:=h
  exact ⟨v,r,e,Rep.toN d v p.1 q,Reps.toN ds r p.2 t⟩
end
def xn.append {K:W.Frag} {P:Addr->Prop} {H:Hp}:∀ {ds es:List D} {xs ys:List V},xn K H P ds xs->xn K H P es ys->xn K H P (ds ++ es) (xs ++ ys)
 | [],es,xs,ys,h,h'=>by cases h; exact h'
 | d :: ds,es,xs,ys,h,h'=>by
  obtain ⟨v,r,rfl,q,t⟩:=h
  exact ⟨v,r ++ ys,rfl,q,xn.append t h'⟩
def xn.length {K:W.Frag} {P:Addr->Prop} {H:Hp} {ds:List D} {xs:List V} (h:xn K H P ds xs):xs.length=ds.length:=by
 induction ds generalizing xs with
 | nil=>cases (show xs=[] from h); rfl
 | cons d ds ih =>
  obtain ⟨v,r,rfl,_,t⟩:=h
  simp [ih t]
variable {O:List Addr}
def Reps.length:∀ {ds:List D} {xs:List V},Reps K H O ds xs->xs.length=ds.length
 | [],_,h=>by cases h; rfl
 | d :: ds,xs,h=>by
  obtain ⟨v,r,e,_,t⟩:=h
  subst e
  simp [Reps.length t]
def Reps.get:∀ {ds:List D} {xs:List V} {i:Nat} {d:D},Reps K H O ds xs->ds[i]?=some d->∃ v,xs[i]?=some v /\ Rep K H O d v
 | [],_,_,_,_,e=>by simp at e
 | d :: ds,xs,0,d',h,e=>by
  obtain ⟨v,r,rfl,q,_⟩:=h
  simp at e
  subst e
  exact ⟨v,rfl,q⟩
 | d :: ds,xs,i + 1,d',h,e=>by
  obtain ⟨v,r,rfl,_,t⟩:=h
  obtain ⟨v',e',q'⟩:=Reps.get (i:=i) t (by simpa using e)
  exact ⟨v',by simpa using e',q'⟩
def Reps.append:∀ {ds es:List D} {xs ys:List V},Reps K H O ds xs->Reps K H O es ys->Reps K H O (ds ++ es) (xs ++ ys)
 | [],es,xs,ys,h,h'=>by cases h; exact h'
 | d :: ds,es,xs,ys,h,h'=>by
  obtain ⟨v,r,rfl,q,t⟩:=h
  exact ⟨v,r ++ ys,rfl,q,Reps.append t h'⟩
def Reps.one {d:D} {v:V} (h:Rep K H O d v):Reps K H O [d] [v]:=⟨v,[],rfl,h,rfl⟩
def Reps.take:∀ {ds:List D} {xs:List V} (n:Nat),Reps K H O ds xs->Reps K H O (ds.take n) (xs.take n)
 | _,_,0,_=>rfl
 | [],_,n + 1,h=>by cases h; rfl
 | d :: ds,xs,n + 1,h=>by
  obtain ⟨v,r,rfl,q,t⟩:=h
  exact ⟨v,r.take n,rfl,q,Reps.take n t⟩
def Reps.drop:∀ {ds:List D} {xs:List V} (n:Nat),Reps K H O ds xs->Reps K H O (ds.drop n) (xs.drop n)
 | _,_,0,h=>h
 | [],_,n + 1,h=>by cases h; rfl
 | d :: ds,xs,n + 1,h=>by
  obtain ⟨v,r,rfl,q,t⟩:=h
  exact Reps.drop n t
def Reps.set:∀ {ds:List D} {xs:List V} (n:Nat) {d:D} {v:V},Rep K H O d v->Reps K H O ds xs->Reps K H O (ds.set n d) (xs.set n v)
 | [],_,_,_,_,_,h=>by cases h; rfl
 | d :: ds,xs,0,d',v',q',h=>by
  obtain ⟨v,r,rfl,q,t⟩:=h
  exact ⟨v',r,rfl,q',t⟩
 | d :: ds,xs,n + 1,d',v',q',h=>by
  obtain ⟨v,r,rfl,q,t⟩:=h
  exact ⟨v,r.set n v',rfl,q,Reps.set n q' t⟩
def Reps.ints:∀ (ns:List Int),Reps K H O (ns.map D.int) (ns.map V.int)
 | []=>rfl
 | n :: ns=>⟨_,_,rfl,rfl,Reps.ints ns⟩
def Reps.dropLast {ds:List D} {xs:List V} (h:Reps K H O ds xs):Reps K H O ds.dropLast xs.dropLast:=by
 rw [List.dropLast_eq_take,List.dropLast_eq_take,h.length]
 exact h.take _
def Reps.rep {ds:List D} {xs:List V} (h:Reps K H O ds xs):∀ k:Nat,Reps K H O (List.replicate k ds).flatten (List.replicate k xs).flatten
 | 0=>rfl
 | k + 1=>by
  rw [List.replicate_succ,List.replicate_succ,List.flatten_cons,List.flatten_cons]
  exact h.append (Reps.rep h k)
def View (K:W.Frag) (H:Hp) (O:List Addr) (d:D) (v:V):Prop:=match d with
 | .lst ds=>∃ a xs,v=.ref a /\ H a=some (.lst xs) /\ Reps K H O ds xs
 | .dk ks ds=>∃ a xs,v=.ref a /\ H a=some (.dK (ks.zip xs)) /\ ks.length=ds.length /\ ks.Nodup /\ Reps K H O ds xs
 | d=>Rep K H O d v
def Con1 (K:W.Frag) (H:Hp) (O:List Addr) (d:D) (a:Addr):Prop:=match d with
 | .lst ds=>∃ xs,H a=some (.lst xs) /\ Reps K H O ds xs
 | .dk ks ds=>∃ xs,H a=some (.dK (ks.zip xs)) /\ ks.length=ds.length /\ ks.Nodup /\ Reps K H O ds xs
 | _=>False
def Rep.view {K:W.Frag} {H:Hp} {O:List Addr} {d:D} {v:V} (h:Rep K H O d v):View K H O d v:=by
 cases d with
 | lst ds=>obtain ⟨a,xs,e,q,_,r⟩:=h; exact ⟨a,xs,e,q,r⟩
 | dk ks ds=>obtain ⟨a,xs,e,q,_,r⟩:=h; exact ⟨a,xs,e,q,r⟩
 | _=>exact h
def Con1.view {K:W.Frag} {H:Hp} {O:List Addr} {d:D} {a:Addr} (h:Con1 K H O d a):View K H O d (.ref a):=by
 cases d with
 | lst ds=>obtain ⟨xs,q,r⟩:=h; exact ⟨a,xs,rfl,q,r⟩
 | dk ks ds=>obtain ⟨xs,q,r⟩:=h; exact ⟨a,xs,rfl,q,r⟩
 | _=>exact h.elim
def Con1.rep {K:W.Frag} {H:Hp} {O:List Addr} {d:D} {a:Addr} (h:Con1 K H O d a) (n:a ∉ O):Rep K H O d (.ref a):=by
 cases d with
 | lst ds=>obtain ⟨xs,q,r⟩:=h; exact ⟨a,xs,rfl,q,n,r⟩
 | dk ks ds=>obtain ⟨xs,q,r⟩:=h; exact ⟨a,xs,rfl,q,n,r⟩
 | _=>exact h.elim
def Con1.same {K:W.Frag} {H H':Hp} {O:List Addr} {d:D} {a:Addr} (h:Con1 K H O d a) (s:Same H H'):Con1 K H' O d a:=by
 cases d with
 | lst ds=>obtain ⟨xs,q,r⟩:=h; exact ⟨xs,s _ _ q,Reps.grow (Grow.same s) _ _ r⟩
 | dk ks ds=>obtain ⟨xs,q,l,n,r⟩:=h; exact ⟨xs,s _ _ q,l,n,Reps.grow (Grow.same s) _ _ r⟩
 | _=>exact h.elim
def Con1.sub {K:W.Frag} {H:Hp} {O O':List Addr} {d:D} {a:Addr} (h:Con1 K H O d a) (g:∀ a ∈ O',a ∈ O):Con1 K H O' d a:=by
 cases d with
 | lst ds=>obtain ⟨xs,q,r⟩:=h; exact ⟨xs,q,Reps.sub g _ _ r⟩
 | dk ks ds=>obtain ⟨xs,q,l,n,r⟩:=h; exact ⟨xs,q,l,n,Reps.sub g _ _ r⟩
 | _=>exact h.elim
def View.sub {K:W.Frag} {H:Hp} {O O':List Addr} {d:D} {v:V} (h:View K H O d v) (g:∀ a ∈ O',a ∈ O):View K H O' d v:=by
 cases d with
 | lst ds=>obtain ⟨a,xs,e,q,r⟩:=h; exact ⟨a,xs,e,q,Reps.sub g _ _ r⟩
 | dk ks ds=>obtain ⟨a,xs,e,q,l,n,r⟩:=h; exact ⟨a,xs,e,q,l,n,Reps.sub g _ _ r⟩
 | _=>exact Rep.sub g _ _ h
def View.rep0 {K:W.Frag} {H:Hp} {O:List Addr} {d:D} {v:V} (h:View K H O d v):Rep K H [] d v:=by
 have h:=h.sub (O':=[]) (λ_ z=>nomatch z)
 cases d with
 | lst ds=>obtain ⟨a,xs,e,q,r⟩:=h; exact ⟨a,xs,e,q,by simp,r⟩
 | dk ks ds=>obtain ⟨a,xs,e,q,l,n,r⟩:=h; exact ⟨a,xs,e,q,by simp,l,n,r⟩
 | _=>exact h
inductive Kd where | val | own | fre | new
 deriving DecidableEq
structure EV where
 k:Kd
 d:D
abbrev DE:=List (Option EV)
abbrev dv (d:D):EV:=⟨.val,d⟩
abbrev df (d:D):EV:=⟨.fre,d⟩
abbrev dO (d:D):EV:=⟨.own,d⟩
def RV (K:W.Frag) (H0 H:Hp) (O:List Addr) (r:EV) (v:V):Prop:=match r.k with
 | .val=>Rep K H O r.d v
 | .own=>∃ a,v=.ref a /\ a ∈ O /\ Con1 K H O r.d a
 | .fre=>∃ a,v=.ref a /\ H0 a=none /\ a ∉ O /\ Con1 K H (a :: O) r.d a
 | .new=>RepN K H (λa=>a ∉ O /\ H0 a=none) r.d v
variable {H0 H1:Hp} {r:EV}
def RV.val {d:D} (h:Rep K H O d v):RV K H0 H O (dv d) v:=h
def RV.same (h:RV K H0 H O r v) (s:Same H H'):RV K H0 H' O r v:=by
 obtain ⟨k,d⟩:=r
 cases k with
 | val=>exact Rep.grow (Grow.same s) _ _ h
 | own=>obtain ⟨a,e,m,c⟩:=h; exact ⟨a,e,m,c.same s⟩
 | fre=>obtain ⟨a,e,m,n,c⟩:=h; exact ⟨a,e,m,n,c.same s⟩
 | new=>exact RepN.to s (λ_ z=>z) _ _ h
def RV.start (h:RV K H0 H O r v) (s:Same H1 H0):RV K H1 H O r v:=by
 obtain ⟨k,d⟩:=r
 cases k with
 | val=>exact h
 | own=>exact h
 | fre=>obtain ⟨a,e,m,n,c⟩:=h; exact ⟨a,e,s.free m,n,c⟩
 | new=>exact RepN.to (Same.refl H) (λa z=>⟨z.1,s.free z.2⟩) _ _ h
def RV.view (h:RV K H0 H O r v):View K H O r.d v:=by
 obtain ⟨k,d⟩:=r
 cases k with
 | val=>exact Rep.view h
 | own=>obtain ⟨a,e,m,c⟩:=h; subst e; exact c.view
 | fre=>obtain ⟨a,e,m,n,c⟩:=h; subst e; exact (c.sub λb hb=>zal _ hb).view
 | new=>exact (RepN.rep (λa z=>z.1) _ _ h).view
def RV.solid (h:RV K H0 H O r v) (hk:r.k ≠ .own):Rep K H O r.d v:=by
 obtain ⟨k,d⟩:=r
 cases k with
 | val=>exact h
 | own=>exact absurd rfl hk
 | fre=>obtain ⟨a,e,m,n,c⟩:=h; subst e; exact (c.sub λb hb=>zal _ hb).rep n
 | new=>exact RepN.rep (λa z=>z.1) _ _ h
structure REnv (K:W.Frag) (H₀ H:Hp) (σ:St) (ρ:DE) (o:List (Nat × Addr)):Prop where
 same:Same H₀ H
 fresh:∀ p ∈ o,H₀ p.2=none
 trk:∀ p ∈ o,∃ u,H p.2=some u
 mtb:∀ p ∈ o,(∀ xs,H p.2 ≠ some (.tup xs)) /\ ∀ ob u,H p.2 ≠ some (.frz ob u)
 nda:(o.map Prod.snd).Nodup
 slots:∀ i r,ρ[i]?=some (some r)->∃ v,σ[i]?=some (some v) /\ ((r.k=.val /\ Rep K H (o.map Prod.snd) r.d v) \/ (r.k=.own /\ ∃ a,v=.ref a /\ (i,a) ∈ o /\ Con1 K H (o.map Prod.snd) r.d a))
 len:σ.length=ρ.length
variable {H₀:Hp} {ρ:DE} {o:List (Nat × Addr)}
def REnv.to (R:REnv K H₀ H σ ρ o) (s:Same H H'):REnv K H₀ H' σ ρ o where
 same:=R.same.trans s
 fresh:=R.fresh
 trk:=λp hp=>let ⟨u,e⟩:=R.trk p hp; ⟨u,s _ _ e⟩
 mtb:=λp hp=>by
  obtain ⟨u,e⟩:=R.trk p hp
  obtain ⟨m1,m2⟩:=R.mtb p hp
  refine ⟨λxs z=>?_,λob w z=>?_⟩
  ·rw [s _ _ e] at z; rw [<- e] at z; exact m1 xs z
  ·rw [s _ _ e] at z; rw [<- e] at z; exact m2 ob w z
 nda:=R.nda
 slots:=λi r e=>by
  obtain ⟨v,ev,h⟩:=R.slots i r e
  refine ⟨v,ev,?_⟩
  rcases h with ⟨k,h⟩ | ⟨k,a,e1,m,c⟩
  ·exact .inl ⟨k,Rep.grow (Grow.same s) _ _ h⟩
  ·exact .inr ⟨k,a,e1,m,c.same s⟩
 len:=R.len
def REnv.ofree (R:REnv K H₀ H σ ρ o) {a:Addr} (h:H a=none):a ∉ o.map Prod.snd:=λz=>by
 obtain ⟨p,hp,e⟩:=zah.mp z
 obtain ⟨u,q⟩:=R.trk p hp
 rw [e,h] at q
 cases q
abbrev TD:=DE->(EV->Prop)->Prop
abbrev TDb:=DE->(Bool->Prop)->Prop
abbrev TDs:=DE->(List EV->Prop)->Prop
structure DZ where
 nx:DE->Prop
 rt:EV->Prop
 bk:DE->Prop:=λ_=>False
 ct:DE->Prop:=λ_=>False
abbrev TDS:=DE->DZ->Prop
def RVs (K:W.Frag) (H0 H:Hp) (O:List Addr):List EV->List V->Prop
 | [],vs=>vs=[]
 | r :: rs,vs=>∃ v ws,vs=v :: ws /\ RV K H0 H O r v /\ RVs K H0 H O rs ws
def RVs.start {K:W.Frag} {H0 H1 H:Hp} {O:List Addr} (s:Same H1 H0):∀ {rs:List EV} {vs:List V},RVs K H0 H O rs vs->RVs K H1 H O rs vs
 | [],_,h=>h
 | r :: rs,vs,h=>by
  obtain ⟨v,ws,e,q,t⟩:=h
  exact ⟨v,ws,e,q.start s,t.start s⟩
def RVs.reps {K:W.Frag} {H0 H:Hp} {O:List Addr}:∀ {rs:List EV} {vs:List V},RVs K H0 H O rs vs->(∀ r ∈ rs,r.k ≠ .own)->Reps K H O (rs.map EV.d) vs
 | [],_,h,_=>h
 | r :: rs,vs,h,n=>by
  obtain ⟨v,ws,e,q,t⟩:=h
  exact ⟨v,ws,e,q.solid (n r (zao ..)),t.reps λr' h'=>n r' (zal _ h')⟩
def RVs.reps0 {K:W.Frag} {H0 H:Hp} {O:List Addr}:∀ {rs:List EV} {vs:List V},RVs K H0 H O rs vs->Reps K H [] (rs.map EV.d) vs
 | [],_,h=>h
 | r :: rs,vs,h=>by
  obtain ⟨v,ws,e,q,t⟩:=h
  exact ⟨v,ws,e,q.view.rep0,t.reps0⟩
def qq (K:W.Frag) (H₀:Hp) (t:TD):TE:=λσ H Q=>∃ ρ o,REnv K H₀ H σ ρ o /\ ∃ φ,t ρ φ /\ ∀ v r H',Same H H'->RV K H H' (o.map Prod.snd) r v->φ r->Q v H'
def Zt (K:W.Frag) (H₀:Hp) (t:TDb):TT:=λσ H Q=>∃ ρ o,REnv K H₀ H σ ρ o /\ ∃ φ,t ρ φ /\ ∀ b H',Same H H'->φ b->Q b H'
def Kx (K:W.Frag) (H₀:Hp) (t:TDs):TA:=λσ H Q=>∃ ρ o,REnv K H₀ H σ ρ o /\ ∃ φ,t ρ φ /\ ∀ vs rs H',Same H H'->RVs K H H' (o.map Prod.snd) rs vs->φ rs->Q vs H'
def O0 (K:W.Frag) (H₀:Hp) (t:TDS):TS:=λD σ H=>∃ ρ o,REnv K H₀ H σ ρ o /\ ∃ Z,t ρ Z /\
 (∀ ρ' σ' H' o',Grow (o.map Prod.snd) (o'.map Prod.snd) H H'->REnv K H₀ H' σ' ρ' o'->Z.nx ρ'->D.nx σ' H') /\
 (∀ ρ' σ' H' o',Grow (o.map Prod.snd) (o'.map Prod.snd) H H'->REnv K H₀ H' σ' ρ' o'->Z.bk ρ'->D.bk σ' H') /\
 (∀ ρ' σ' H' o',Grow (o.map Prod.snd) (o'.map Prod.snd) H H'->REnv K H₀ H' σ' ρ' o'->Z.ct ρ'->D.ct σ' H') /\
 (∀ v r H',Same H₀ H'->RV K H₀ H' [] r v->Z.rt r->D.rt v H')
def ED (G:Hp->Prop) (X:Cx) (e:Expr) (t:TD):Prop:=∀ H₀:{H:Hp // G H},PE X e (qq X.K H₀.1 t)
def ET (G:Hp->Prop) (X:Cx) (e:Expr) (t:TDb):Prop:=∀ H₀:{H:Hp // G H},PT X e (Zt X.K H₀.1 t)
def EW (G:Hp->Prop) (X:Cx) (e:Expr) (t:TDb):Prop:=∀ H₀:{H:Hp // G H},PW X e (Zt X.K H₀.1 t)
def EA (G:Hp->Prop) (X:Cx) (es:List Expr) (t:TDs):Prop:=∀ H₀:{H:Hp // G H},PA X es (Kx X.K H₀.1 t)
def SD (G:Hp->Prop) (X:Cx) (st:Stmt) (t:TDS):Prop:=∀ H₀:{H:Hp // G H},PS X st (O0 X.K H₀.1 t)
def SDs (G:Hp->Prop) (X:Cx) (st:List Stmt) (t:TDS):Prop:=∀ H₀:{H:Hp // G H},PSs X st (O0 X.K H₀.1 t)
def impE {X:Cx} {e:Expr} {t t':TE} (h:PE X e t) (i:∀ σ H Q,t' σ H Q->t σ H Q):PE X e t':=λpn s σ H Q I q=>h pn s σ H Q I (i σ H Q q)
def impT {X:Cx} {e:Expr} {t t':TT} (h:PT X e t) (i:∀ σ H Q,t' σ H Q->t σ H Q):PT X e t':=λpn s σ H Q I q=>h pn s σ H Q I (i σ H Q q)
def impW {X:Cx} {e:Expr} {t t':TT} (h:PW X e t) (i:∀ σ H Q,t' σ H Q->t σ H Q):PW X e t':=λwh pn s σ H Q I q=>h wh pn s σ H Q I (i σ H Q q)
def impA {X:Cx} {es:List Expr} {t t':TA} (h:PA X es t) (i:∀ σ H Q,t' σ H Q->t σ H Q):PA X es t':=λpos pn s σ H Q I q=>h pos pn s σ H Q I (i σ H Q q)
def impS {X:Cx} {st:Stmt} {t t':TS} (h:PS X st t) (i:∀ D σ H,t' D σ H->t D σ H):PS X st t':=λpn s σ H D I q=>h pn s σ H D I (i D σ H q)
def jk {X:Cx} {st:List Stmt} {t t':TS} (h:PSs X st t) (i:∀ D σ H,t' D σ H->t D σ H):PSs X st t':=λpn s σ H D I q=>h pn s σ H D I (i D σ H q)
variable {Γ:Hp->Prop}
def slot:DE->Nat->Option EV
 | [],_=>none
 | x :: _,0=>x
 | _ :: r,i + 1=>slot r i
def yo:∀ {ρ:DE} {i:Nat} {r:EV},slot ρ i=some r->ρ[i]?=some (some r)
 | [],_,_,h=>by cases h
 | x :: _,0,_,h=>by cases h; rfl
 | _ :: l,i + 1,r,h=>by rw [List.getElem?_cons_succ]; exact yo (ρ:=l) h
def ut (i:Nat):TD:=λρ φ=>match slot ρ i with
 | some r=>φ r
 | none=>False
def dC (d:D):TD:=λ_ φ=>φ (dv d)
variable {c:Expr} {ta tb:TD}
def z9 (i:Nat) {x:Str} (hN:X.N[i]?=some x:=by rfl) (hv:Vis X.env.scope x:=by walk_at "o") (hd:(x == ("__debug__" : Str))=false:=by decide)
  (hcd:(x == ("__classdict__" : Str))=false:=by decide):ED Γ X (.Name x pos) (ut i):=λH₀=>impE (wq hN hv hd hcd) λσ H Q h=>by
 obtain ⟨ρ,o,R,φ,hφ,k⟩:=h
 cases e:slot ρ i with
 | none =>
  simp only [ut,e] at hφ
 | some r =>
  simp only [ut,e] at hφ
  obtain ⟨v,ev,h⟩:=R.slots i r (yo e)
  refine ⟨v,ev,k v r H (Same.refl H) ?_ hφ⟩
  obtain ⟨kd,d⟩:=r
  rcases h with ⟨rfl,h⟩ | ⟨rfl,a,e1,m,c⟩
  ·exact h
  ·exact ⟨a,e1,zah.mpr ⟨_,m,rfl⟩,c⟩
def ed_c {x:Expr} {v:V} {d:D} (h:PE X x (tC v)) (hr:∀ H O,Rep X.K H O d v):ED Γ X x (dC d):=λH₀=>impE h λσ H Q h=>by
 obtain ⟨ρ,o,R,φ,hφ,k⟩:=h
 exact k v (dv d) H (Same.refl H) (hr H _) hφ
def zc {i:Int} {j pos}:ED Γ X (.Constant (.int i) j pos) (dC (.int i)):=ed_c S8 λ_ _=>rfl
def wy {b:Bool} {j pos}:ED Γ X (.Constant (.bool b) j pos) (dC (.bl b)):=ed_c De λ_ _=>rfl
def v8 {j pos}:ED Γ X (.Constant .none j pos) (dC .non):=ed_c M3 λ_ _=>rfl
def zj {x:Str} {j pos}:ED Γ X (.Constant (.str x) j pos) (dC (.str x)):=ed_c Gv λ_ _=>rfl
structure GC (K:W.Frag) (mg:Str->Option Value) (x:Str) (d:D):Prop where
 ex:∃ u v,mg x=some u /\ RelV v u /\ ∀ H O,Rep K H O d v
def Rx {x:Str} {d:D} (G:GC X.K X.mg x d) (hg:Gl X x:=by rfl) (hd:(x == ("__debug__" : Str))=false:=by decide):ED Γ X (.Name x pos) (dC d):=by
 obtain ⟨u,v,hm,r,h⟩:=G.ex
 exact ed_c (Kc hg hm r hd) h
def uq {x:Str} {n:String} (hm:X.mg x=none) (hv:bootBuiltins x=some (.type n)) (hg:Gl X x:=by rfl) (hn:x ≠ "__name__":=by decide) (hd:(x == ("__debug__" : Str))=false:=by decide):ED Γ X (.Name x pos) (dC (.ty n)) :=
 ed_c (Kg hg hm hv (v:=.ty n) rfl hn hd) λ_ _=>rfl
def rz (K:W.Frag) (rr:R2) (s:D->D->(EV->Prop)->Prop):Prop :=
 ∀ (H:Hp) (O:List Addr) (x y:D) (vx vy:V) (φ:EV->Prop) (Q:VK),(∀ a,H a=none->a ∉ O)->View K H O x vx->View K H O y vy->s x y φ ->
  (∀ v r H',Same H H'->RV K H H' O r v->φ r->Q v H')->rr vx vy H Q
def d2 (s:D->D->(EV->Prop)->Prop) (ta tb:TD):TD:=λρ φ=>ta ρ λx=>tb ρ λy=>s x.d y.d φ
def O1 {rr:R2} {s:D->D->(EV->Prop)->Prop} {H₀:Hp} (hl:rz X.K rr s):∀ σ H Q,qq X.K H₀ (d2 s ta tb) σ H Q->tOp rr (qq X.K H₀ ta) (qq X.K H₀ tb) σ H Q:=λσ H Q h=>by
 obtain ⟨ρ,o,R,φ,hφ,k⟩:=h
 refine ⟨ρ,o,R,_,hφ,λv1 r1 H1 s1 rv1 h1=>⟨ρ,o,R.to s1,_,h1,λv2 r2 H2 s2 rv2 h2=>?_⟩⟩
 exact hl H2 _ r1.d r2.d v1 v2 φ Q (λa e=>R.ofree ((s1.trans s2).free e)) (rv1.same s2).view rv2.view h2 λv r H' s3 rv h=>k v r H' (s1.trans (s2.trans s3)) (rv.start (s1.trans s2)) h
def d7 {op:Operator} {rr:R2} {s:D->D->(EV->Prop)->Prop} (ho:OpR X (binaryOp op) rr) (hl:rz X.K rr s) (ha:ED Γ X a ta) (hb:ED Γ X b tb):ED Γ X (.BinOp a op b pos) (d2 s ta tb):=λH₀ =>
 impE (Gw ho (ha H₀) (hb H₀)) (O1 hl)
def Vk {op:CmpOp} {rr:R2} {s:D->D->(EV->Prop)->Prop} (ho:OpR X (compareOp op) rr) (hl:rz X.K rr s) (ha:ED Γ X a ta) (hb:ED Γ X b tb) (hm:behindInMarks op b=false):ED Γ X (.Compare a [op] [b] pos) (d2 s ta tb):=λH₀ =>
 impE (Kf ho (ha H₀) (hb H₀) hm) (O1 hl)
def Kk:OpR X (binaryOp .Mult) (rI IntMulOk λi j=>.int (i * j)):=opI λ_ _ _ _ _ _ _ hc q=>PyProof.Rows.mul_int q hc
def FdOk (i j:Int):Prop:=j ≠ 0 /\ j.natAbs.log2 < 9000
def Pp:OpR X (binaryOp .FloorDiv) (rI FdOk λi j=>.int (i.fdiv j)):=opI λ_ _ _ _ _ _ _ hc q=>floordiv_int hc.1 q (.inl (PyProof.noPylong_of_log2 hc.2))
def sI (C:Int->Int->Prop) (g:Int->Int->D):D->D->(EV->Prop)->Prop:=λx y φ=>match x,y with
 | .int i,.int j=>C i j /\ φ (dv (g i j))
 | _,_=>False
def Sr {K:W.Frag} {C:Int->Int->Prop} {g:Int->Int->D} {gv:Int->Int->V} (hg:∀ i j H O,Rep K H O (g i j) (gv i j)):rz K (rI C gv) (sI C g):=by
 intro H O x y vx vy φ Q ho hx hy h k
 unfold sI at h
 split at h
 ·exact ⟨_,_,hx,hy,h.1,k _ _ H (Same.refl H) (by exact hg _ _ H O) h.2⟩
 ·exact h.elim
def sI0 (g:Int->Int->D):D->D->(EV->Prop)->Prop:=λx y φ=>match x,y with
 | .int i,.int j=>φ (dv (g i j))
 | _,_=>False
def qp {K:W.Frag} {g:Int->Int->D} {gv:Int->Int->V} (hg:∀ i j H O,Rep K H O (g i j) (gv i j)):rz K (rI0 gv) (sI0 g):=by
 intro H O x y vx vy φ Q ho hx hy h k
 unfold sI0 at h
 split at h
 ·exact ⟨_,_,hx,hy,k _ _ H (Same.refl H) (by exact hg _ _ H O) h⟩
 ·exact h.elim
abbrev sSub:=sI0 λi j=>.int (i - j)
abbrev sFd:=sI FdOk λi j=>.int (i.fdiv j)
abbrev sMod:=sI (λ_ j=>j ≠ 0) λi j=>.int (i.fmod j)
abbrev sPow:=sI CPow λi j=>.int (i ^ j.toNat)
abbrev sLt:=sI0 λi j=>.bl (decide (i < j))
abbrev sLe:=sI0 λi j=>.bl (decide (i <= j))
abbrev sGt:=sI0 λi j=>.bl (decide (j < i))
abbrev sGe:=sI0 λi j=>.bl (decide (j <= i))
def tm (ha:ED Γ X a ta) (hb:ED Γ X b tb):ED Γ X (.BinOp a .Sub b pos) (d2 sSub ta tb):=d7 F0 (qp λ_ _ _ _=>rfl) ha hb
def bx (ha:ED Γ X a ta) (hb:ED Γ X b tb):ED Γ X (.BinOp a .FloorDiv b pos) (d2 sFd ta tb):=d7 Pp (Sr λ_ _ _ _=>rfl) ha hb
def wr (ha:ED Γ X a ta) (hb:ED Γ X b tb):ED Γ X (.BinOp a .Mod b pos) (d2 sMod ta tb):=d7 Kl (Sr λ_ _ _ _=>rfl) ha hb
def Rt (ha:ED Γ X a ta) (hb:ED Γ X b tb):ED Γ X (.BinOp a .Pow b pos) (d2 sPow ta tb):=d7 Fb (Sr λ_ _ _ _=>rfl) ha hb
def Du (ha:ED Γ X a ta) (hb:ED Γ X b tb):ED Γ X (.Compare a [.LtE] [b] pos) (d2 sLe ta tb):=Vk Dh (qp λ_ _ _ _=>rfl) ha hb (ud _)
def Rv (ha:ED Γ X a ta) (hb:ED Γ X b tb):ED Γ X (.Compare a [.Gt] [b] pos) (d2 sGt ta tb):=Vk Fg (qp λ_ _ _ _=>rfl) ha hb (ud _)
def sAdd:D->D->(EV->Prop)->Prop:=λx y φ=>match x,y with
 | .int i,.int j=>φ (dv (.int (i + j)))
 | .str p,.str q=>p.length + q.length <= sizeLine /\ φ (dv (.str (p ++ q)))
 | .lst p,.lst q=>p.length + q.length <= sizeLine /\ φ (df (.lst (p ++ q)))
 | .tup p,.tup q=>p ≠ [] /\ q ≠ [] /\ p.length + q.length <= sizeLine /\ φ (dv (.tup (p ++ q)))
 | _,_=>False
def yc {H:Hp} {p:Addr} (h:H p=none) (o:HO):Same H (upd H p o):=λb u q=>by rw [y7 (zr q h)]; exact q
def Pc {K:W.Frag} {H:Hp} {O:List Addr} {p:Addr} {o:HO} {ds:List D} {xs:List V} (hp:H p=none) (r:Reps K H O ds xs):Reps K (upd H p o) O ds xs:=Reps.grow (Grow.same (yc hp o)) _ _ r
def bg {H:Hp} {O:List Addr} {p:Addr} {o:HO} (hp:H p=none):Grow O (p :: O) H (upd H p o) :=
 ⟨λb u h n=>⟨yc hp o b u h,λz=>(zam.mp z).elim (λe=>zr h hp e) n⟩,λb xs h=>yc hp o b _ h,λb ob u h=>yc hp o b _ h⟩
def j4 {K:W.Frag} {H:Hp} {O:List Addr} {p:Addr} {ds:List D} {xs:List V} (ho:∀ a,H a=none->a ∉ O) (hp:H p=none) (r:Reps K H O ds xs):RV K H (upd H p (.lst xs)) O (df (.lst ds)) (.ref p) :=
 ⟨p,rfl,hp,ho p hp,xs,zy,Reps.grow (bg hp) _ _ r⟩
def Wo {K:W.Frag} {H:Hp} {O:List Addr} {p:Addr} {ds:List D} {xs:List V} (hp:H p=none) (r:Reps K H O ds xs):RV K H (upd H p (.tup xs)) O (dv (.tup ds)) (.ref p) :=
 ⟨p,xs,rfl,⟨SqT.of zy,zy⟩,Pc hp r⟩
def Pz:rz X.K (λx y H Q=>rI0 (λi j=>.int (i + j)) x y H Q \/ (∃ i j,x=.str i /\ y=.str j /\ i.length + j.length <= sizeLine /\ Q (.str (i ++ j)) H) \/ rCat x y H Q \/ Gb X.K x y H Q) sAdd:=by
 intro H O x y vx vy φ Q ho hx hy h k
 unfold sAdd at h
 split at h
 ·exact .inl ⟨_,_,hx,hy,k _ _ H (Same.refl H) (by exact rfl) h⟩
 ·exact .inr (.inl ⟨_,_,hx,hy,h.1,k _ _ H (Same.refl H) (by exact rfl) h.2⟩)
 ·obtain ⟨a1,xs,rfl,q1,r1⟩:=hx
  obtain ⟨a2,ys,rfl,q2,r2⟩:=hy
  refine .inr (.inr (.inl ⟨a1,a2,xs,ys,rfl,rfl,q1,q2,by rw [r1.length,r2.length]; exact h.1,λp hp=>?_⟩))
  exact k _ _ _ (yc hp _) (j4 ho hp (r1.append r2)) h.2
 ·obtain ⟨n1,n2,hz,hp⟩:=h
  obtain ⟨a1,xs,rfl,q1,r1⟩:=hx
  obtain ⟨a2,ys,rfl,q2,r2⟩:=hy
  refine .inr (.inr (.inr ⟨a1,a2,xs,ys,rfl,rfl,q1.1,q2.1,?_,by rw [r1.length,r2.length]; exact hz,λz=>?_,λ_ p hpn=>?_⟩))
  ·intro z
   have e:=r1.length
   rw [z] at e
   exact n1 (List.eq_nil_of_length_eq_zero e.symm)
  ·exfalso
   have e:=r2.length
   rw [z] at e
   exact n2 (List.eq_nil_of_length_eq_zero e.symm)
  ·exact k _ _ _ (yc hpn _) (Wo hpn (r1.append r2)) hp
 ·exact h.elim
def wg (ha:ED Γ X a ta) (hb:ED Γ X b tb):ED Γ X (.BinOp a .Add b pos) (d2 sAdd ta tb):=d7 (Fi.or (U3.or (Fh.or Sg))) Pz ha hb
def sMul:D->D->(EV->Prop)->Prop:=λx y φ=>match x,y with
 | .int i,.int j=>IntMulOk i j /\ φ (dv (.int (i * j)))
 | .lst p,.int k=>-(2 ^ 63) <= k /\ k < 2 ^ 63 /\ p.length * k.toNat <= sizeLine /\ φ (df (.lst (List.replicate k.toNat p).flatten))
 | _,_=>False
mutual
def eqD:D->D->Bool
 | .non,.non=>true
 | .bl a,.bl b=>a == b
 | .bl a,.int b=>(if a then 1 else 0) == b
 | .int a,.bl b=>a == (if b then 1 else 0)
 | .int a,.int b=>a == b
 | .str a,.str b=>a == b
 | .tup a,.tup b=>eqDs a b
 | .lst a,.lst b=>eqDs a b
 | _,_=>false
def eqDs:List D->List D->Bool
 | [],[]=>true
 | a :: as,b :: bs=>eqD a b && eqDs as bs
 | _,_=>false
end
def okD:Nat->D->Prop
 | 0,d=>match d with
  | .non=>True
  | .bl _=>True
  | .int _=>True
  | .str _=>True
  | _=>False
 | n + 1,d=>match d with
  | .non=>True
  | .bl _=>True
  | .int _=>True
  | .str _=>True
  | .tup ds=>∀ x ∈ ds,okD n x
  | .lst ds=>∀ x ∈ ds,okD n x
  | _=>False
def rh:∀ {ds es:List D},eqDs ds es=true ↔ ds.length=es.length /\ ∀ (j:Nat) (x y:D),ds[j]?=some x->es[j]?=some y->eqD x y=true
 | [],[]=>by simp [eqDs]
 | [],y :: es=>by simp [eqDs]
 | x :: ds,[]=>by simp [eqDs]
 | x :: ds,y :: es=>by
  rw [eqDs,Bool.and_eq_true,rh]
  constructor
  ·rintro ⟨h,hl,q⟩
   refine ⟨by simp [hl],λj a b ha hb=>?_⟩
   cases j with
   | zero=>simp at ha hb; subst ha hb; exact h
   | succ j=>exact q j a b (by simpa using ha) (by simpa using hb)
  ·rintro ⟨hl,q⟩
   exact ⟨q 0 x y rfl rfl,by simpa using hl,λj a b ha hb=>q (j + 1) a b (by simpa using ha) (by simpa using hb)⟩
def qx (ds es:List D):eqDs ds es=((List.range (min ds.length es.length)).all (λj=>eqD (ds.getD j .non) (es.getD j .non)) && ds.length == es.length):=by
 rw [Bool.eq_iff_iff,rh,Bool.and_eq_true,List.all_eq_true]
 constructor
 ·rintro ⟨hl,q⟩
  refine ⟨λj hj=>?_,by simp [hl]⟩
  have hj':=List.mem_range.mp hj
  have h1:j < ds.length:=by omega
  have h2:j < es.length:=by omega
  have e1:ds[j]?=some ds[j]:=by simp [h1]
  have e2:es[j]?=some es[j]:=by simp [h2]
  have:=q j _ _ e1 e2
  simpa [List.getD,e1,e2] using this
 ·rintro ⟨q,hl⟩
  have hl':ds.length=es.length:=by simpa using hl
  refine ⟨hl',λj x y hx hy=>?_⟩
  have h1:=(zag.mp hx).1
  have:=q j (List.mem_range.mpr (by omega))
  simpa [List.getD,hx,hy] using this
def t6:∀ (n:Nat) (d:D),okD n d->eqD d d=true:=by
 intro n
 induction n with
 | zero=>intro d h; cases d <;> first | exact h.elim | simp [eqD]
 | succ n ih =>
  intro d h
  cases d with
  | tup ds =>
   show eqDs ds ds=true
   refine rh.mpr ⟨rfl,λj x y hx hy=>?_⟩
   rw [hx] at hy
   cases hy
   exact ih x (h x (zan hx))
  | lst ds =>
   show eqDs ds ds=true
   refine rh.mpr ⟨rfl,λj x y hx hy=>?_⟩
   rw [hx] at hy
   cases hy
   exact ih x (h x (zan hx))
  | dk _ _=>exact h.elim
  | ty _=>exact h.elim
  | scr _=>exact h.elim
  | ob _ _ _=>exact h.elim
  | _=>simp [eqD]
def Rep.inj (I:Inv X pn σ H s):∀ (n:Nat) (d e:D) (v:V),okD n d->okD n e->Rep X.K H [] d v->Rep X.K H [] e v->d=e:=by
 intro n
 induction n with
 | zero =>
  intro d e v hd he h1 h2
  cases d <;> first | exact hd.elim | (cases e <;> first | exact he.elim | (have z:=(show v=_ from h1).symm.trans (show v=_ from h2); first | rfl | (injection z with z; rw [z]) | cases z))
 | succ n ih =>
  have lists:∀ (ds es:List D) (xs:List V),(∀ x ∈ ds,okD n x)->(∀ x ∈ es,okD n x)->Reps X.K H [] ds xs->Reps X.K H [] es xs->ds=es:=by
   intro ds
   induction ds with
   | nil =>
    intro es xs _ _ r1 r2
    have:=r1.length
    have h2:=r2.length
    rw [this] at h2
    exact (List.eq_nil_of_length_eq_zero h2.symm).symm
   | cons d ds ih2 =>
    intro es xs h1 h2 r1 r2
    obtain ⟨v,r,rfl,q,t⟩:=r1
    cases es with
    | nil=>cases r2
    | cons e es =>
     obtain ⟨v',r',e1,q',t'⟩:=r2
     cases e1
     rw [ih d e v (h1 d (zao ..)) (h2 e (zao ..)) q q',ih2 es r (λx hx=>h1 x (zal _ hx)) (λx hx=>h2 x (zal _ hx)) t t']
  intro d e v hd he h1 h2
  have noTL:∀ (a:Addr) (xs ys:List V),SqT X.K H a xs->H a=some (.lst ys)->False:=λa xs ys q1 q2=>by
   obtain ⟨its,_,p1,_⟩:=I.tuple q1
   obtain ⟨its2,_,p2,_⟩:=I.list (SqL.of q2)
   exact SeqAt.ne_of_list_tuple p2.isList (show s.heap.IsTuple a its.toArray from p1) rfl
  cases d with
  | tup ds =>
   obtain ⟨a,xs,rfl,q1,r1⟩:=h1
   cases e with
   | tup es =>
    obtain ⟨a',ys,e1,q2,r2⟩:=h2
    cases e1
    have:=I.tuple_inj q1.1 q2.1
    subst this
    rw [lists ds es xs hd he r1 r2]
   | lst es =>
    obtain ⟨a',ys,e1,q2,_,r2⟩:=h2
    cases e1
    exact (noTL _ _ _ q1.1 q2).elim
   | dk _ _=>exact he.elim
   | scr _=>exact he.elim
   | ob _ _ _=>exact he.elim
   | ty _=>exact he.elim
   | _=>cases (show V.ref a=_ from h2)
  | lst ds =>
   obtain ⟨a,xs,rfl,q1,_,r1⟩:=h1
   cases e with
   | tup es =>
    obtain ⟨a',ys,e1,q2,r2⟩:=h2
    cases e1
    exact (noTL _ _ _ q2.1 q1).elim
   | lst es =>
    obtain ⟨a',ys,e1,q2,_,r2⟩:=h2
    cases e1
    have:=I.list_inj (SqL.of q1) (SqL.of q2)
    subst this
    rw [lists ds es xs hd he r1 r2]
   | dk _ _=>exact he.elim
   | scr _=>exact he.elim
   | ob _ _ _=>exact he.elim
   | ty _=>exact he.elim
   | _=>cases (show V.ref a=_ from h2)
  | dk _ _=>exact hd.elim
  | scr _=>exact hd.elim
  | ob _ _ _=>exact hd.elim
  | ty _=>exact hd.elim
  | non =>
   cases e with
   | tup es=>obtain ⟨a',ys,e1,_⟩:=h2; cases (show v=_ from h1); cases e1
   | lst es=>obtain ⟨a',ys,e1,_⟩:=h2; cases (show v=_ from h1); cases e1
   | dk _ _=>exact he.elim
   | scr _=>exact he.elim
   | ob _ _ _=>exact he.elim
   | ty _=>exact he.elim
   | non=>rfl
   | _=>cases (show v=_ from h1); cases (show V.non=_ from h2)
  | bl b =>
   cases e with
   | tup es=>obtain ⟨a',ys,e1,_⟩:=h2; cases (show v=_ from h1); cases e1
   | lst es=>obtain ⟨a',ys,e1,_⟩:=h2; cases (show v=_ from h1); cases e1
   | dk _ _=>exact he.elim
   | scr _=>exact he.elim
   | ob _ _ _=>exact he.elim
   | ty _=>exact he.elim
   | _=>cases (show v=_ from h1); cases (show V.bl b=_ from h2) <;> rfl
  | int b =>
   cases e with
   | tup es=>obtain ⟨a',ys,e1,_⟩:=h2; cases (show v=_ from h1); cases e1
   | lst es=>obtain ⟨a',ys,e1,_⟩:=h2; cases (show v=_ from h1); cases e1
   | dk _ _=>exact he.elim
   | scr _=>exact he.elim
   | ob _ _ _=>exact he.elim
   | ty _=>exact he.elim
   | _=>cases (show v=_ from h1); cases (show V.int b=_ from h2) <;> rfl
  | str b =>
   cases e with
   | tup es=>obtain ⟨a',ys,e1,_⟩:=h2; cases (show v=_ from h1); cases e1
   | lst es=>obtain ⟨a',ys,e1,_⟩:=h2; cases (show v=_ from h1); cases e1
   | dk _ _=>exact he.elim
   | scr _=>exact he.elim
   | ob _ _ _=>exact he.elim
   | ty _=>exact he.elim
   | _=>cases (show v=_ from h1); cases (show V.str b=_ from h2) <;> rfl
inductive Sh (K:W.Frag) (H:Hp) (s:Shared):D->Value->Prop where
 | non:Sh K H s .non .none
 | bl (b:Bool):Sh K H s (.bl b) (.bool b)
 | int (i:Int) (t:Tok):Sh K H s (.int i) (.int i t)
 | str (x:Str) (t:Tok):Sh K H s (.str x) (.str x t)
 | tup {a:Addr} {ds:List D} {xs:List V} {its:List Value} (p:s.heap.IsTuple a its.toArray) (r:Vals xs its) (q:Reps K H [] ds xs):Sh K H s (.tup ds) (.ref a)
 | lst {a:Addr} {ds:List D} {xs:List V} {its:List Value} (p:s.heap.IsList a its.toArray) (r:Vals xs its) (q:Reps K H [] ds xs):Sh K H s (.lst ds) (.ref a)
def kf (I:Inv X pn σ H s) {n:Nat} {d:D} {x:V} {u:Value} (hd:okD n d) (h:Rep X.K H [] d x) (r:RelV x u):Sh X.K H s d u:=by
 cases d with
 | non=>cases (show x=_ from h); cases r; exact .non
 | bl b=>cases (show x=_ from h); cases r; exact .bl b
 | int b=>cases (show x=_ from h); obtain ⟨t,rfl⟩:=r; exact .int b t
 | str b=>cases (show x=_ from h); obtain ⟨t,rfl⟩:=r; exact .str b t
 | ty _=>cases n <;> exact hd.elim
 | dk _ _=>cases n <;> exact hd.elim
 | scr _=>cases n <;> exact hd.elim
 | ob _ _ _=>cases n <;> exact hd.elim
 | tup ds =>
  obtain ⟨a,xs,rfl,q,t⟩:=h
  cases r
  obtain ⟨its,rv,p,_⟩:=I.tuple q.1
  exact .tup (show s.heap.IsTuple a its.toArray from p) rv t
 | lst ds =>
  obtain ⟨a,xs,rfl,q,_,t⟩:=h
  cases r
  obtain ⟨its,rv,p,_⟩:=I.list (SqL.of q)
  exact .lst p.isList rv t
def W2 (I:Inv X pn σ H s):∀ (n:Nat) (d e:D) (x y:V) (u v:Value) (A:Around),okD n d->okD n e->Rep X.K H [] d x->Rep X.K H [] e y->RelV x u->RelV y v->A.units + n < cLine ->
  SeqAt.RcAt A s u v (eqD d e) /\ SeqAt.RcNeAt A s u v (!eqD d e) /\ SeqAt.EqAt A s u v (eqD d e):=by
 intro n
 induction n with
 | zero =>
  intro d e x y u v A hd he h1 h2 r1 r2 hu
  have hu':A.units < cLine:=by omega
  cases kf I hd h1 r1 with
  | tup=>exact hd.elim
  | lst=>exact hd.elim
  | non =>
   cases kf I he h2 r2 with
   | non=>exact ⟨SeqAt.RcAt.none_none,SeqAt.RcNeAt.none_none,SeqAt.EqAt.same _⟩
   | bl b=>exact ⟨SeqAt.RcAt.none_bool b,SeqAt.RcNeAt.none_bool b,SeqAt.EqAt.none_bool b⟩
   | int i t=>exact ⟨SeqAt.RcAt.none_int i t,SeqAt.RcNeAt.none_int i t,SeqAt.EqAt.none_int i t⟩
   | str i t=>exact ⟨SeqAt.RcAt.none_str i t,SeqAt.RcNeAt.none_str i t,SeqAt.EqAt.none_str i t⟩
   | tup=>exact he.elim
   | lst=>exact he.elim
  | bl a =>
   cases kf I he h2 r2 with
   | non=>exact ⟨SeqAt.RcAt.bool_none a,SeqAt.RcNeAt.bool_none a,SeqAt.EqAt.bool_none a⟩
   | bl b=>exact ⟨SeqAt.RcAt.bool_bool a b,SeqAt.RcNeAt.bool_bool a b,SeqAt.EqAt.bool_bool a b⟩
   | int i t=>exact ⟨SeqAt.RcAt.bool_int a i t,SeqAt.RcNeAt.bool_int a i t,SeqAt.EqAt.bool_int a i t⟩
   | str i t=>exact ⟨SeqAt.RcAt.bool_str a i t,SeqAt.RcNeAt.bool_str a i t,SeqAt.EqAt.bool_str a i t⟩
   | tup=>exact he.elim
   | lst=>exact he.elim
  | int a t =>
   cases kf I he h2 r2 with
   | non=>exact ⟨SeqAt.RcAt.int_none a t,SeqAt.RcNeAt.int_none a t,SeqAt.EqAt.int_none a t⟩
   | bl b=>exact ⟨SeqAt.RcAt.int_bool a t b,SeqAt.RcNeAt.int_bool a t b,SeqAt.EqAt.int_bool a t b⟩
   | int i t'=>exact ⟨SeqAt.RcAt.int_int a t i t',SeqAt.RcNeAt.int_int a t i t',SeqAt.EqAt.int_int a t i t'⟩
   | str i t'=>exact ⟨SeqAt.RcAt.int_str a t i t',SeqAt.RcNeAt.int_str a t i t',SeqAt.EqAt.int_str a t i t'⟩
   | tup=>exact he.elim
   | lst=>exact he.elim
  | str a t =>
   cases kf I he h2 r2 with
   | non=>exact ⟨SeqAt.RcAt.str_none a t,SeqAt.RcNeAt.str_none a t,SeqAt.EqAt.str_none a t⟩
   | bl b=>exact ⟨SeqAt.RcAt.str_bool a t b,SeqAt.RcNeAt.str_bool a t b,SeqAt.EqAt.str_bool a t b⟩
   | int i t'=>exact ⟨SeqAt.RcAt.str_int a t i t',SeqAt.RcNeAt.str_int a t i t',SeqAt.EqAt.str_int a t i t'⟩
   | str i t'=>exact ⟨SeqAt.RcAt.str_str a t i t',SeqAt.RcNeAt.str_str a t i t',SeqAt.EqAt.str_str a t i t'⟩
   | tup=>exact he.elim
   | lst=>exact he.elim
 | succ n ih =>
  intro d e x y u v A hd he h1 h2 r1 r2 hu
  have hu':A.units < cLine:=by omega
  have hin:A.in1.units + n < cLine:=by
   have:A.in1.units=A.units + 1:=rfl
   omega
  have refs:∀ {l b:Addr} {k:Bool},u=.ref l->v=.ref b->k=eqD d e->SeqAt.RcAt A s (.ref l) (.ref b) k->SeqAt.EqAt A s (.ref l) (.ref b) k:=λ{l b k} e1 e2 ek h=>by
   by_cases hlb:l=b
   ·subst hlb
    have hv:x=y:=by
     have z1:x=.ref l:=by
      cases x <;> subst e1 <;> first | (have:=(show Value.ref l=Value.ref _ from r1); cases this; rfl) | (obtain ⟨t,z⟩:=r1; cases z) | cases r1
     have z2:y=.ref l:=by
      cases y <;> subst e2 <;> first | (have:=(show Value.ref l=Value.ref _ from r2); cases this; rfl) | (obtain ⟨t,z⟩:=r2; cases z) | cases r2
     rw [z1,z2]
    subst hv
    have hde:=Rep.inj I (n + 1) d e x hd he h1 h2
    subst hde
    rw [ek,t6 (n + 1) d hd]
    exact SeqAt.EqAt.same _
   ·exact SeqAt.EqAt.of_refs hlb h
  have items:∀ {ds es:List D} {xs ys:List V} {its its2:List Value},(∀ z ∈ ds,okD n z)->(∀ z ∈ es,okD n z)->Reps X.K H [] ds xs->Reps X.K H [] es ys->Vals xs its->Vals ys its2 ->
    ∀ j (h1:j < its.toArray.size) (h2:j < its2.toArray.size),SeqAt.EqAt A.in1 s its.toArray[j] its2.toArray[j] (eqD (ds.getD j .non) (es.getD j .non)):=λ{ds es xs ys its its2} o1 o2 q1 q2 w1 w2 j h1 h2=>by
   have l1:=w1.length
   have l2:=w2.length
   have k1:=q1.length
   have k2:=q2.length
   have g1:j < ds.length:=by simp at h1; omega
   have g2:j < es.length:=by simp at h2; omega
   have e1:ds[j]?=some ds[j]:=by simp [g1]
   have e2:es[j]?=some es[j]:=by simp [g2]
   obtain ⟨x',ex,rx⟩:=q1.get e1
   obtain ⟨y',ey,ry⟩:=q2.get e2
   obtain ⟨u',eu,ru⟩:=w1.get ex
   obtain ⟨v',ev,rv⟩:=w2.get ey
   have f1:its.toArray[j]=u':=by
    have:=(zag.mp eu).2
    simpa using this
   have f2:its2.toArray[j]=v':=by
    have:=(zag.mp ev).2
    simpa using this
   rw [f1,f2,show ds.getD j .non=ds[j] by simp [List.getD,e1],show es.getD j .non=es[j] by simp [List.getD,e2]]
   exact (ih ds[j] es[j] x' y' u' v' A.in1 (o1 _ (List.getElem_mem g1)) (o2 _ (List.getElem_mem g2)) rx ry ru rv hin).2.2
  cases kf I hd h1 r1 with
  | non =>
   cases kf I he h2 r2 with
   | non=>exact ⟨SeqAt.RcAt.none_none,SeqAt.RcNeAt.none_none,SeqAt.EqAt.same _⟩
   | bl b=>exact ⟨SeqAt.RcAt.none_bool b,SeqAt.RcNeAt.none_bool b,SeqAt.EqAt.none_bool b⟩
   | int i t=>exact ⟨SeqAt.RcAt.none_int i t,SeqAt.RcNeAt.none_int i t,SeqAt.EqAt.none_int i t⟩
   | str i t=>exact ⟨SeqAt.RcAt.none_str i t,SeqAt.RcNeAt.none_str i t,SeqAt.EqAt.none_str i t⟩
   | tup p _ _=>exact ⟨SeqAt.RcAt.none_tuple p hu',SeqAt.RcNeAt.none_tuple p hu',SeqAt.EqAt.none_tuple p hu'⟩
   | lst p _ _=>exact ⟨SeqAt.RcAt.none_list p hu',SeqAt.RcNeAt.none_list p hu',SeqAt.EqAt.none_list p hu'⟩
  | bl a =>
   cases kf I he h2 r2 with
   | non=>exact ⟨SeqAt.RcAt.bool_none a,SeqAt.RcNeAt.bool_none a,SeqAt.EqAt.bool_none a⟩
   | bl b=>exact ⟨SeqAt.RcAt.bool_bool a b,SeqAt.RcNeAt.bool_bool a b,SeqAt.EqAt.bool_bool a b⟩
   | int i t=>exact ⟨SeqAt.RcAt.bool_int a i t,SeqAt.RcNeAt.bool_int a i t,SeqAt.EqAt.bool_int a i t⟩
   | str i t=>exact ⟨SeqAt.RcAt.bool_str a i t,SeqAt.RcNeAt.bool_str a i t,SeqAt.EqAt.bool_str a i t⟩
   | tup p _ _=>exact ⟨SeqAt.RcAt.bool_tuple a p hu',SeqAt.RcNeAt.bool_tuple a p hu',SeqAt.EqAt.bool_tuple a p hu'⟩
   | lst p _ _=>exact ⟨SeqAt.RcAt.bool_list a p hu',SeqAt.RcNeAt.bool_list a p hu',SeqAt.EqAt.bool_list a p hu'⟩
  | int a t =>
   cases kf I he h2 r2 with
   | non=>exact ⟨SeqAt.RcAt.int_none a t,SeqAt.RcNeAt.int_none a t,SeqAt.EqAt.int_none a t⟩
   | bl b=>exact ⟨SeqAt.RcAt.int_bool a t b,SeqAt.RcNeAt.int_bool a t b,SeqAt.EqAt.int_bool a t b⟩
   | int i t'=>exact ⟨SeqAt.RcAt.int_int a t i t',SeqAt.RcNeAt.int_int a t i t',SeqAt.EqAt.int_int a t i t'⟩
   | str i t'=>exact ⟨SeqAt.RcAt.int_str a t i t',SeqAt.RcNeAt.int_str a t i t',SeqAt.EqAt.int_str a t i t'⟩
   | tup p _ _=>exact ⟨SeqAt.RcAt.int_tuple a t p hu',SeqAt.RcNeAt.int_tuple a t p hu',SeqAt.EqAt.int_tuple a t p hu'⟩
   | lst p _ _=>exact ⟨SeqAt.RcAt.int_list a t p hu',SeqAt.RcNeAt.int_list a t p hu',SeqAt.EqAt.int_list a t p hu'⟩
  | str a t =>
   cases kf I he h2 r2 with
   | non=>exact ⟨SeqAt.RcAt.str_none a t,SeqAt.RcNeAt.str_none a t,SeqAt.EqAt.str_none a t⟩
   | bl b=>exact ⟨SeqAt.RcAt.str_bool a t b,SeqAt.RcNeAt.str_bool a t b,SeqAt.EqAt.str_bool a t b⟩
   | int i t'=>exact ⟨SeqAt.RcAt.str_int a t i t',SeqAt.RcNeAt.str_int a t i t',SeqAt.EqAt.str_int a t i t'⟩
   | str i t'=>exact ⟨SeqAt.RcAt.str_str a t i t',SeqAt.RcNeAt.str_str a t i t',SeqAt.EqAt.str_str a t i t'⟩
   | tup p _ _=>exact ⟨SeqAt.RcAt.str_tuple a t p hu',SeqAt.RcNeAt.str_tuple a t p hu',SeqAt.EqAt.str_tuple a t p hu'⟩
   | lst p _ _=>exact ⟨SeqAt.RcAt.str_list a t p hu',SeqAt.RcNeAt.str_list a t p hu',SeqAt.EqAt.str_list a t p hu'⟩
  | @tup l ds xs its p r q =>
   cases kf I he h2 r2 with
   | non=>exact ⟨SeqAt.RcAt.tuple_none p hu',SeqAt.RcNeAt.tuple_none p hu',SeqAt.EqAt.tuple_none p hu'⟩
   | bl b=>exact ⟨SeqAt.RcAt.tuple_bool b p hu',SeqAt.RcNeAt.tuple_bool b p hu',SeqAt.EqAt.tuple_bool b p hu'⟩
   | int i t=>exact ⟨SeqAt.RcAt.tuple_int i t p hu',SeqAt.RcNeAt.tuple_int i t p hu',SeqAt.EqAt.tuple_int i t p hu'⟩
   | str i t=>exact ⟨SeqAt.RcAt.tuple_str i t p hu',SeqAt.RcNeAt.tuple_str i t p hu',SeqAt.EqAt.tuple_str i t p hu'⟩
   | lst p2 _ _=>exact ⟨SeqAt.RcAt.tuple_list p p2 hu',SeqAt.RcNeAt.tuple_list p p2 hu',SeqAt.EqAt.tuple_list p p2 hu'⟩
   | @tup b es ys its2 p2 r' q' =>
    have e1:its.toArray.size=ds.length:=by rw [zap,<- r.length,q.length]
    have e2:its2.toArray.size=es.length:=by rw [zap,<- r'.length,q'.length]
    have ek:eqD (.tup ds) (.tup es)=((List.range (min its.toArray.size its2.toArray.size)).all (λj=>eqD (ds.getD j .non) (es.getD j .non)) && its.toArray.size == its2.toArray.size):=by
     rw [e1,e2]
     exact qx ds es
    rw [ek]
    have hrc:=SeqAt.RcAt.tuples p p2 hu' (items hd he q q' r r')
    exact ⟨hrc,SeqAt.RcNeAt.tuples p p2 hu' (items hd he q q' r r'),refs rfl rfl ek.symm hrc⟩
  | @lst l ds xs its p r q =>
   cases kf I he h2 r2 with
   | non=>exact ⟨SeqAt.RcAt.list_none p hu',SeqAt.RcNeAt.list_none p hu',SeqAt.EqAt.list_none p hu'⟩
   | bl b=>exact ⟨SeqAt.RcAt.list_bool b p hu',SeqAt.RcNeAt.list_bool b p hu',SeqAt.EqAt.list_bool b p hu'⟩
   | int i t=>exact ⟨SeqAt.RcAt.list_int i t p hu',SeqAt.RcNeAt.list_int i t p hu',SeqAt.EqAt.list_int i t p hu'⟩
   | str i t=>exact ⟨SeqAt.RcAt.list_str i t p hu',SeqAt.RcNeAt.list_str i t p hu',SeqAt.EqAt.list_str i t p hu'⟩
   | tup p2 _ _=>exact ⟨SeqAt.RcAt.list_tuple p p2 hu',SeqAt.RcNeAt.list_tuple p p2 hu',SeqAt.EqAt.list_tuple p p2 hu'⟩
   | @lst b es ys its2 p2 r' q' =>
    have e1:its.toArray.size=ds.length:=by rw [zap,<- r.length,q.length]
    have e2:its2.toArray.size=es.length:=by rw [zap,<- r'.length,q'.length]
    by_cases hsz:its.toArray.size=its2.toArray.size
    ·have ek:eqD (.lst ds) (.lst es)=(List.range its.toArray.size).all (λj=>eqD (ds.getD j .non) (es.getD j .non)):=by
      show eqDs ds es=_
      rw [qx,<- e1,<- e2,<- hsz]
      simp
     rw [ek]
     have hrc:=SeqAt.RcAt.lists p p2 hsz hu' (items hd he q q' r r')
     exact ⟨hrc,SeqAt.RcNeAt.lists p p2 hsz hu' (items hd he q q' r r'),refs rfl rfl ek.symm hrc⟩
    ·have ek:eqD (.lst ds) (.lst es)=false:=by
      show eqDs ds es=_
      have hb:(its.toArray.size == its2.toArray.size)=false:=beq_eq_false_iff_ne.mpr hsz
      rw [qx,<- e1,<- e2,hb,Bool.and_false]
     rw [ek]
     have hne:(its.toArray.size != its2.toArray.size)=true:=by simpa using hsz
     have hrc:=SeqAt.RcAt.lists_lengths p p2 hne hu'
     exact ⟨hrc,SeqAt.RcNeAt.lists_lengths p p2 hne hu',refs rfl rfl ek.symm hrc⟩
def rEqD (K:W.Frag) (neg:Bool):R2:=λx y H Q=>∃ d e,Rep K H [] d x /\ Rep K H [] e y /\ okD 40 d /\ okD 40 e /\ Q (.bl (if neg then !eqD d e else eqD d e)) H
def M6 (hu:X.A.units + 64 < cLine):OpR X (compareOp .Eq) (rEqD X.K false):=by
 intro pn s σ H x y v u Q I rx ry h
 obtain ⟨d,e,h1,h2,o1,o2,q⟩:=h
 exact (W2 I 40 d e x y v u X.A o1 o2 h1 h2 rx ry (by omega)).1 X.prog X.w X.xe _ ⟨.bl _,H,I,rfl,q⟩
def Fd (hu:X.A.units + 64 < cLine):OpR X (compareOp .NotEq) (rEqD X.K true):=by
 intro pn s σ H x y v u Q I rx ry h
 obtain ⟨d,e,h1,h2,o1,o2,q⟩:=h
 exact (W2 I 40 d e x y v u X.A o1 o2 h1 h2 rx ry (by omega)).2.1 X.prog X.w X.xe _ ⟨.bl _,H,I,rfl,q⟩
def sEq:D->D->(EV->Prop)->Prop:=λx y φ=>okD 40 x /\ okD 40 y /\ φ (dv (.bl (eqD x y)))
def sNe:D->D->(EV->Prop)->Prop:=λx y φ=>okD 40 x /\ okD 40 y /\ φ (dv (.bl (!eqD x y)))
def Ow (hu:X.A.units + 64 < cLine) (ha:ED Γ X a ta) (hb:ED Γ X b tb):ED Γ X (.Compare a [.Eq] [b] pos) (d2 sEq ta tb) :=
 Vk (M6 hu) (λH O x y vx vy φ Q ho hx hy h k=>⟨x,y,hx.rep0,hy.rep0,h.1,h.2.1,k _ _ H (Same.refl H) (by exact rfl) h.2.2⟩) ha hb (ud _)
section
variable {es:List Expr} {te:TD} {t:TDs}
def Pu:rz X.K (λx y H Q=>rI IntMulOk (λi j=>.int (i * j)) x y H Q \/ rRep x y H Q) sMul:=by
 intro H O x y vx vy φ Q ho hx hy h k
 unfold sMul at h
 split at h
 ·exact .inl ⟨_,_,hx,hy,h.1,k _ _ H (Same.refl H) (by exact rfl) h.2⟩
 ·obtain ⟨h1,h2,h3,h4⟩:=h
  obtain ⟨a1,xs,rfl,q1,r1⟩:=hx
  refine .inr ⟨a1,_,xs,rfl,hy,q1,h1,h2,by rw [r1.length]; exact h3,λp hp=>?_⟩
  exact k _ _ _ (yc hp _) (j4 ho hp (r1.rep _)) h4
 ·exact h.elim
def Yl (ha:ED Γ X a ta) (hb:ED Γ X b tb):ED Γ X (.BinOp a .Mult b pos) (d2 sMul ta tb):=d7 (Kk.or Fa) Pu ha hb
def sNeg:D->(EV->Prop)->Prop:=λx φ=>match x with
 | .int i=>φ (dv (.int (-i)))
 | _=>False
def d1 (s:D->(EV->Prop)->Prop) (ta:TD):TD:=λρ φ=>ta ρ λx=>s x.d φ
def jt (ha:ED Γ X a ta):ED Γ X (.UnaryOp .USub a pos) (d1 sNeg ta):=λH₀=>impE (Dc Ha (ha H₀)) λσ H Q h=>by
 obtain ⟨ρ,o,R,φ,hφ,k⟩:=h
 refine ⟨ρ,o,R,_,hφ,λv1 r1 H1 s1 rv1 h1=>?_⟩
 obtain ⟨kd,d⟩:=r1
 have hv:=rv1.view
 cases d with
 | int i=>exact ⟨i,hv,k _ _ H1 s1 (by exact rfl) h1⟩
 | _=>exact h1.elim
def truD:D->Option Bool
 | .non=>some false
 | .bl b=>some b
 | .int i=>some (i != 0)
 | .str x=>if x.length <= sizeLine then some ((x.length:Int) != 0) else none
 | .lst ds=>some (!ds.isEmpty)
 | .scr ns=>some (!ns.isEmpty)
 | .tup ds=>some (!ds.isEmpty)
 | .dk _ ds=>some (!ds.isEmpty)
 | .ty _=>none
 | .ob _ _ _=>none
def k7 {K:W.Frag} {H:Hp} {O:List Addr} {ds:List D} {xs:List V} (r:Reps K H O ds xs):xs.isEmpty=ds.isEmpty:=by
 have:=r.length
 cases xs <;> cases ds <;> simp_all
def Qs {K:W.Frag} {H:Hp} {O:List Addr} {d:D} {v:V} {b:Bool} (h:View K H O d v) (e:truD d=some b):TruV K v H b:=by
 cases d with
 | non=>cases (show v=_ from h); cases e; rfl
 | bl i=>cases (show v=_ from h); cases e; rfl
 | int i=>cases (show v=_ from h); cases e; rfl
 | str x =>
  cases (show v=_ from h)
  have e':(if x.length <= sizeLine then some ((x.length:Int) != 0) else none)=some b:=e
  split at e'
  ·rename_i hz
   cases e'
   exact ⟨hz,rfl⟩
  ·cases e'
 | ty _=>cases e
 | ob _ _ _=>cases e
 | lst ds =>
  obtain ⟨a,xs,rfl,q,r⟩:=h
  cases e
  exact .inl ⟨xs,SqL.of q,by rw [k7 r]⟩
 | scr ns =>
  obtain ⟨a,rfl,q⟩:=h
  cases e
  exact .inl ⟨_,q.seq,by cases ns <;> rfl⟩
 | tup ds =>
  obtain ⟨a,xs,rfl,q,r⟩:=h
  cases e
  exact .inr (.inl ⟨xs,q.1,by rw [k7 r]⟩)
 | dk ks ds =>
  obtain ⟨a,xs,rfl,q,l,_,r⟩:=h
  cases e
  refine .inr (.inr ⟨_,q,?_⟩)
  have:=r.length
  cases ks <;> cases ds <;> cases xs <;> simp_all
def tTru (t:TD):TDb:=λρ φ=>t ρ λr=>match truD r.d with
 | some b=>φ b
 | none=>False
def xj (h:ED Γ X a ta) (he:∀ whole,isTrue a X.env whole=(do let v <- whole; standAt a.pos; holding [v] (truthy v)):=by intro _; rfl):ET Γ X a (tTru ta):=λH₀=>impT (Ph (h H₀) he) λσ H Q q=>by
 obtain ⟨ρ,o,R,φ,hφ,k⟩:=q
 refine ⟨ρ,o,R,_,hφ,λv1 r1 H1 s1 rv1 h1=>?_⟩
 cases e:truD r1.d with
 | none=>simp only [e] at h1
 | some b =>
  simp only [e] at h1
  exact ⟨b,Qs rv1.view e,k b H1 s1 h1⟩
def tBo (t:TD):TDb:=λρ φ=>t ρ λr=>match r.d with
 | .bl b=>φ b
 | _=>False
def rg {op:CmpOp} {rr:R2} {s:D->D->(EV->Prop)->Prop} (ho:OpR X (compareOp op) rr) (hl:rz X.K rr s) (ha:ED Γ X a ta) (hb:ED Γ X b tb) (hm:behindInMarks op b=false):ET Γ X (.Compare a [op] [b] pos) (tBo (d2 s ta tb)):=λH₀ =>
 impT (K3 ho (ha H₀) (hb H₀) hm) λσ H Q h=>by
  obtain ⟨ρ,o,R,φ,hφ,k⟩:=h
  refine O1 (ta:=ta) (tb:=tb) (H₀:=H₀.1) hl σ H _ ⟨ρ,o,R,_,hφ,λv r H' s1 rv h1=>?_⟩
  obtain ⟨kd,d⟩:=r
  cases d with
  | bl b=>exact ⟨b,rv.view,k b H' s1 h1⟩
  | _=>exact h1.elim
def En (ha:ED Γ X a ta) (hb:ED Γ X b tb):ET Γ X (.Compare a [.Lt] [b] pos) (tBo (d2 sLt ta tb)):=rg Dg (qp λ_ _ _ _=>rfl) ha hb (ud _)
def Oq (ha:ED Γ X a ta) (hb:ED Γ X b tb):ET Γ X (.Compare a [.Gt] [b] pos) (tBo (d2 sGt ta tb)):=rg Fg (qp λ_ _ _ _=>rfl) ha hb (ud _)
def Eo (ha:ED Γ X a ta) (hb:ED Γ X b tb):ET Γ X (.Compare a [.GtE] [b] pos) (tBo (d2 sGe ta tb)):=rg Di (qp λ_ _ _ _=>rfl) ha hb (ud _)
def xh (hu:X.A.units + 64 < cLine) (ha:ED Γ X a ta) (hb:ED Γ X b tb):ET Γ X (.Compare a [.Eq] [b] pos) (tBo (d2 sEq ta tb)) :=
 rg (M6 hu) (λH O x y vx vy φ Q ho hx hy h k=>⟨x,y,hx.rep0,hy.rep0,h.1,h.2.1,k _ _ H (Same.refl H) (by exact rfl) h.2.2⟩) ha hb (ud _)
def jq (hu:X.A.units + 64 < cLine) (ha:ED Γ X a ta) (hb:ED Γ X b tb):ET Γ X (.Compare a [.NotEq] [b] pos) (tBo (d2 sNe ta tb)) :=
 rg (Fd hu) (λH O x y vx vy φ Q ho hx hy h k=>⟨x,y,hx.rep0,hy.rep0,h.1,h.2.1,k _ _ H (Same.refl H) (by exact rfl) h.2.2⟩) ha hb (ud _)
def O9:D->Bool
 | .non=>true
 | _=>false
def sIs:D->D->(EV->Prop)->Prop:=λx y φ=>match y with
 | .non=>φ (dv (.bl (O9 x)))
 | _=>False
def Wn:D->D->(EV->Prop)->Prop:=λx y φ=>match y with
 | .non=>φ (dv (.bl (!O9 x)))
 | _=>False
def We {K:W.Frag} {H:Hp} {O:List Addr} {d:D} {v:V} (h:View K H O d v):decide (v=.non)=O9 d:=by
 cases d with
 | tup ds=>obtain ⟨a,xs,rfl,_⟩:=h; rfl
 | lst ds=>obtain ⟨a,xs,rfl,_⟩:=h; rfl
 | scr ns=>obtain ⟨a,rfl,_⟩:=h; rfl
 | ob _ _ _=>obtain ⟨a,dx,xs,rfl,_⟩:=h; rfl
 | dk ks ds=>obtain ⟨a,xs,rfl,_⟩:=h; rfl
 | _=>cases (show v=_ from h); rfl
def Ks {K:W.Frag}:rz K (λx y H Q=>y=.non /\ Q (.bl (decide (x=.non))) H) sIs:=by
 intro H O x y vx vy φ Q ho hx hy h k
 unfold sIs at h
 split at h
 ·refine ⟨hy,?_⟩
  rw [We hx]
  exact k _ _ H (Same.refl H) (by exact rfl) h
 ·exact h.elim
def Ua {K:W.Frag}:rz K (λx y H Q=>y=.non /\ Q (.bl (!decide (x=.non))) H) Wn:=by
 intro H O x y vx vy φ Q ho hx hy h k
 unfold Wn at h
 split at h
 ·refine ⟨hy,?_⟩
  rw [We hx]
  exact k _ _ H (Same.refl H) (by exact rfl) h
 ·exact h.elim
def Dt (ha:ED Γ X a ta) (hb:ED Γ X b tb):ET Γ X (.Compare a [.Is] [b] pos) (tBo (d2 sIs ta tb)):=rg Fe Ks ha hb (ud _)
def Vg (ha:ED Γ X a ta) (hb:ED Γ X b tb):ET Γ X (.Compare a [.IsNot] [b] pos) (tBo (d2 Wn ta tb)):=rg Ki Ua ha hb (ud _)
variable {tA tB':TDb} {rest:List Expr}
def bAnd (t u:TDb):TDb:=λρ φ=>t ρ λc=>(c=true->u ρ φ) /\ (c=false->φ false)
def bOr (t u:TDb):TDb:=λρ φ=>t ρ λc=>(c=true->φ true) /\ (c=false->u ρ φ)
def bNot (t:TDb):TDb:=λρ φ=>t ρ λc=>φ (!c)
def Ro (ha:ET Γ X a tA):EW Γ X (.BoolOp .And [a] pos) tA:=λH₀=>K1 (ha H₀)
def t9 (ha:ET Γ X a tA):EW Γ X (.BoolOp .Or [a] pos) tA:=λH₀=>Gh (ha H₀)
def Mn (ha:ET Γ X a tA) (hb:EW Γ X (.BoolOp .And (b :: rest) pos) tB'):EW Γ X (.BoolOp .And (a :: b :: rest) pos) (bAnd tA tB'):=λH₀=>impW (Gi (ha H₀) (hb H₀)) λσ H Q h=>by
 obtain ⟨ρ,o,R,φ,hφ,k⟩:=h
 refine ⟨ρ,o,R,_,hφ,λc H1 s1 h1=>?_⟩
 cases c with
 | true=>exact iteT ⟨ρ,o,R.to s1,φ,h1.1 rfl,λb H2 s2 q=>k b H2 (s1.trans s2) q⟩
 | false=>exact iteF (k false H1 s1 (h1.2 rfl))
def u1 (ha:ET Γ X a tA) (hb:EW Γ X (.BoolOp .Or (b :: rest) pos) tB'):EW Γ X (.BoolOp .Or (a :: b :: rest) pos) (bOr tA tB'):=λH₀=>impW (D8 (ha H₀) (hb H₀)) λσ H Q h=>by
 obtain ⟨ρ,o,R,φ,hφ,k⟩:=h
 refine ⟨ρ,o,R,_,hφ,λc H1 s1 h1=>?_⟩
 cases c with
 | true=>exact iteT (k true H1 s1 (h1.1 rfl))
 | false=>exact iteF ⟨ρ,o,R.to s1,φ,h1.2 rfl,λb H2 s2 q=>k b H2 (s1.trans s2) q⟩
def EW.et (h:EW Γ X a tA):ET Γ X a tA:=λH₀=>PW.pt (h H₀)
def v6 (ha:ET Γ X a tA):ET Γ X (.UnaryOp .Not a pos) (bNot tA):=λH₀=>impT (Gn (ha H₀)) λσ H Q h=>by
 obtain ⟨ρ,o,R,φ,hφ,k⟩:=h
 exact ⟨ρ,o,R,_,hφ,λc H1 s1 h1=>k _ H1 s1 h1⟩
def vAnd (ta tb:TD):TD:=λρ φ=>ta ρ λx=>match x.d with
 | .bl c=>(c=true->tb ρ φ) /\ (c=false->φ (dv (.bl false)))
 | _=>False
def vOr (ta tb:TD):TD:=λρ φ=>ta ρ λx=>match x.d with
 | .bl c=>(c=true->φ (dv (.bl true))) /\ (c=false->tb ρ φ)
 | _=>False
def vNot (ta:TD):TD:=λρ φ=>ta ρ λx=>match x.d with
 | .bl c=>φ (dv (.bl (!c)))
 | _=>False
def jr {op} (h:ED Γ X a ta):ED Γ X (.BoolOp op [a] pos) ta:=λH₀=>Gx (h H₀)
def Ym (ha:ED Γ X a ta) (hb:ED Γ X (.BoolOp .And (b :: rest) pos) tb):ED Γ X (.BoolOp .And (a :: b :: rest) pos) (vAnd ta tb):=λH₀=>impE (Gz (ha H₀) (hb H₀)) λσ H Q h=>by
 obtain ⟨ρ,o,R,φ,hφ,k⟩:=h
 refine ⟨ρ,o,R,_,hφ,λv r H1 s1 rv h1=>?_⟩
 obtain ⟨kd,d⟩:=r
 cases d with
 | bl c =>
  refine ⟨c,rv.view,?_⟩
  cases c with
  | true=>exact iteT ⟨ρ,o,R.to s1,φ,h1.1 rfl,λv2 r2 H2 s2 rv2 q=>k v2 r2 H2 (s1.trans s2) (rv2.start s1) q⟩
  | false=>exact iteF (k _ _ H1 s1 (by exact rfl) (h1.2 rfl))
 | _=>exact h1.elim
def Et (ha:ED Γ X a ta) (hb:ED Γ X (.BoolOp .Or (b :: rest) pos) tb):ED Γ X (.BoolOp .Or (a :: b :: rest) pos) (vOr ta tb):=λH₀=>impE (Dd (ha H₀) (hb H₀)) λσ H Q h=>by
 obtain ⟨ρ,o,R,φ,hφ,k⟩:=h
 refine ⟨ρ,o,R,_,hφ,λv r H1 s1 rv h1=>?_⟩
 obtain ⟨kd,d⟩:=r
 cases d with
 | bl c =>
  refine ⟨c,rv.view,?_⟩
  cases c with
  | true=>exact iteT (k _ _ H1 s1 (by exact rfl) (h1.1 rfl))
  | false=>exact iteF ⟨ρ,o,R.to s1,φ,h1.2 rfl,λv2 r2 H2 s2 rv2 q=>k v2 r2 H2 (s1.trans s2) (rv2.start s1) q⟩
 | _=>exact h1.elim
def Ru (ha:ED Γ X a ta):ED Γ X (.UnaryOp .Not a pos) (vNot ta):=λH₀=>impE (Gy (ha H₀)) λσ H Q h=>by
 obtain ⟨ρ,o,R,φ,hφ,k⟩:=h
 refine ⟨ρ,o,R,_,hφ,λv r H1 s1 rv h1=>?_⟩
 obtain ⟨kd,d⟩:=r
 cases d with
 | bl c=>exact ⟨c,rv.view,k _ _ H1 s1 (by exact rfl) h1⟩
 | _=>exact h1.elim
def vIf (t:TDb) (ta tb:TD):TD:=λρ φ=>t ρ λc=>(c=true->ta ρ φ) /\ (c=false->tb ρ φ)
def bw (hc:ET Γ X c tA) (ha:ED Γ X a ta) (hb:ED Γ X b tb):ED Γ X (.IfExp c a b pos) (vIf tA ta tb):=λH₀=>impE (Pn (hc H₀) (ha H₀) (hb H₀)) λσ H Q h=>by
 obtain ⟨ρ,o,R,φ,hφ,k⟩:=h
 refine ⟨ρ,o,R,_,hφ,λc H1 s1 h1=>?_⟩
 cases c with
 | true=>exact iteT ⟨ρ,o,R.to s1,φ,h1.1 rfl,λv2 r2 H2 s2 rv2 q=>k v2 r2 H2 (s1.trans s2) (rv2.start s1) q⟩
 | false=>exact iteF ⟨ρ,o,R.to s1,φ,h1.2 rfl,λv2 r2 H2 s2 rv2 q=>k v2 r2 H2 (s1.trans s2) (rv2.start s1) q⟩
def aNil:TDs:=λ_ φ=>φ []
def uu (te:TD) (t:TDs):TDs:=λρ φ=>te ρ λr=>t ρ λrs=>φ (r :: rs)
def za:EA Γ X [] aNil:=λH₀=>impA vi λσ H Q h=>by
 obtain ⟨ρ,o,R,φ,hφ,k⟩:=h
 exact k [] [] H (Same.refl H) (by exact rfl) hφ
def z0 (ha:ED Γ X e te) (hr:EA Γ X es t) (hs:starEach (e :: es) X.env=(false,eval e X.env) :: starEach es X.env:=by rfl):EA Γ X (e :: es) (uu te t):=λH₀=>impA (yx (ha H₀) (hr H₀) hs) λσ H Q h=>by
 obtain ⟨ρ,o,R,φ,hφ,k⟩:=h
 refine ⟨ρ,o,R,_,hφ,λv r H1 s1 rv h1=>⟨ρ,o,R.to s1,_,h1,λvs rs H2 s2 rvs h2=>?_⟩⟩
 exact k (v :: vs) (r :: rs) H2 (s1.trans s2) ⟨v,vs,rfl,rv.same s2,rvs.start s1⟩ h2
def j0:List EV->Bool
 | []=>true
 | r :: rs=>(match r.k with | .own=>false | _=>true) && j0 rs
def uy:∀ {rs:List EV},j0 rs=true->∀ r ∈ rs,r.k ≠ .own
 | [],_=>λr h=>nomatch h
 | ⟨k,d⟩ :: rs,h=>λr hr=>by
  rw [j0,Bool.and_eq_true] at h
  rcases zam.mp hr with rfl | hr
  ·intro z
   have z':k=.own:=z
   subst z'
   exact absurd h.1 (by simp)
  ·exact uy h.2 r hr
def dTup (t:TDs):TD:=λρ φ=>t ρ λrs=>j0 rs=true /\ Nat.ble rs.length 1000=true /\ φ (dv (.tup (rs.map EV.d)))
def dLst (t:TDs):TD:=λρ φ=>t ρ λrs=>j0 rs=true /\ Nat.ble rs.length 1000=true /\ φ (df (.lst (rs.map EV.d)))
def cu {n:Nat} (h:Nat.ble n 1000=true):n <= sizeLine:=zak (Nat.le_of_ble_eq_true h) (by decide)
def RVs.length {K:W.Frag} {H0 H:Hp} {O:List Addr}:∀ {rs:List EV} {vs:List V},RVs K H0 H O rs vs->vs.length=rs.length
 | [],_,h=>by cases h; rfl
 | r :: rs,vs,h=>by
  obtain ⟨v,ws,rfl,_,t⟩:=h
  simp [RVs.length t]
def zm {x1} (h:EA Γ X es t):ED Γ X (.Tuple es x1 pos) (dTup t):=λH₀=>impE (Wz (h H₀)) λσ H Q q=>by
 obtain ⟨ρ,o,R,φ,hφ,k⟩:=q
 refine ⟨ρ,o,R,_,hφ,λvs rs H1 s1 rvs h1=>⟨by rw [rvs.length]; exact cu h1.2.1,λp hp=>?_⟩⟩
 exact k _ _ _ (s1.trans (yc hp _)) (RV.start (Wo hp (rvs.reps (uy h1.1))) s1) h1.2.2
def yu (h:EA Γ X es t):ED Γ X (.List es pos) (dLst t):=λH₀=>impE (M4 (h H₀)) λσ H Q q=>by
 obtain ⟨ρ,o,R,φ,hφ,k⟩:=q
 refine ⟨ρ,o,R,_,hφ,λvs rs H1 s1 rvs h1=>⟨by rw [rvs.length]; exact cu h1.2.1,λp hp=>?_⟩⟩
 exact k _ _ _ (s1.trans (yc hp _)) (RV.start (j4 (λa e=>R.ofree (s1.free e)) hp (rvs.reps (uy h1.1))) s1) h1.2.2
def sIx1:D->D->(EV->Prop)->Prop:=λx y φ=>match x,y with
 | .lst ds,.int i=>match atI ds i with
  | some d=>φ (dv d)
  | none=>False
 | .tup ds,.int i=>match atI ds i with
  | some d=>φ (dv d)
  | none=>False
 | .scr ns,.int i=>match atI ns i with
  | some n=>φ (dv (.int n))
  | none=>False
 | .str z,.int i=>z.length <= sizeLine /\ match atI z.cps.toList i with
  | some c=>φ (dv (.str ⟨#[c]⟩))
  | none=>False
 | _,_=>False
def Vq {K:W.Frag} {H:Hp} {O:List Addr} {ds:List D} {xs:List V} {i:Int} {d:D} (r:Reps K H O ds xs) (h:atI ds i=some d):∃ v,atI xs i=some v /\ Rep K H O d v:=by
 unfold atI at h ⊢
 rw [r.length]
 cases e:ixN ds.length i with
 | none=>rw [e] at h; cases h
 | some j =>
  rw [e] at h
  exact r.get h
def Kr:rz X.K (rIx X.K) sIx1:=by
 intro H O x y vx vy φ Q ho hx hy h k
 unfold sIx1 at h
 split at h
 ·obtain ⟨a,xs,rfl,q,r⟩:=hx
  split at h
  ·rename_i d e
   obtain ⟨v,ev,rv⟩:=Vq r e
   exact .inl ⟨a,xs,_,v,rfl,hy,SqL.of q,ev,k _ _ H (Same.refl H) (RV.val rv) h⟩
  ·exact h.elim
 ·obtain ⟨a,xs,rfl,q,r⟩:=hx
  split at h
  ·rename_i d e
   obtain ⟨v,ev,rv⟩:=Vq r e
   exact .inr (.inl ⟨a,xs,_,v,rfl,hy,q.1,ev,k _ _ H (Same.refl H) (RV.val rv) h⟩)
  ·exact h.elim
 ·obtain ⟨a,rfl,q⟩:=hx
  split at h
  ·rename_i n e
   refine .inl ⟨a,_,_,.int n,rfl,hy,q.seq,?_,k _ _ H (Same.refl H) (by exact rfl) h⟩
   unfold atI at e ⊢
   rw [zLm]
   cases e2:ixN _ _ with
   | none=>rw [e2] at e; cases e
   | some j =>
    rw [e2] at e
    exact (zai ..).trans (congrArg (Option.map V.int) e)
  ·exact h.elim
 ·obtain ⟨hz,h⟩:=h
  split at h
  ·rename_i c e
   exact .inr (.inr ⟨_,_,c,hx,hy,hz,e,k _ _ H (Same.refl H) (by exact rfl) h⟩)
  ·exact h.elim
 ·exact h.elim
abbrev TDo:=DE->(Option Int->Prop)->Prop
def Dk (K:W.Frag) (H₀:Hp) (t:TDo):TO:=λσ H Q=>∃ ρ o,REnv K H₀ H σ ρ o /\ ∃ φ,t ρ φ /\ ∀ b H',Same H H'->φ b->Q b H'
def EO (G:Hp->Prop) (X:Cx) (e:Option Expr) (t:TDo):Prop:=∀ H₀:{H:Hp // G H},PO X e (Dk X.K H₀.1 t)
def Kp:TDo:=λ_ φ=>φ none
def Ko (t:TD):TDo:=λρ φ=>t ρ λr=>match r.d with
 | .int i=>φ (some i)
 | _=>False
def impO {e:Option Expr} {t t':TO} (h:PO X e t) (i:∀ σ H Q,t' σ H Q->t σ H Q):PO X e t':=λpn s σ H Q I q=>h pn s σ H Q I (i σ H Q q)
def wx:EO Γ X none Kp:=λH₀=>impO K7 λσ H Q h=>by
 obtain ⟨ρ,o,R,φ,hφ,k⟩:=h
 exact k none H (Same.refl H) hφ
def x8 (h:ED Γ X e te):EO Γ X (some e) (Ko te):=λH₀=>impO (K6 (h H₀)) λσ H Q q=>by
 obtain ⟨ρ,o,R,φ,hφ,k⟩:=q
 refine ⟨ρ,o,R,_,hφ,λv r H1 s1 rv h1=>?_⟩
 obtain ⟨kd,d⟩:=r
 cases d with
 | int i=>exact ⟨i,rv.view,k _ H1 s1 h1⟩
 | _=>exact h1.elim
def cutD (xs:List D) (lo hi:Option Int):List D:=(xs.drop (ZZ.sIx xs.length 0 lo)).take (ZZ.sIx xs.length xs.length hi - ZZ.sIx xs.length 0 lo)
def c9 {K:W.Frag} {H:Hp} {O:List Addr} {ds:List D} {xs:List V} (r:Reps K H O ds xs) (lo hi:Option Int):Reps K H O (cutD ds lo hi) (cutV xs lo hi):=by
 unfold cutD cutV
 rw [r.length]
 exact (r.drop _).take _
def sSl:D->Option Int->Option Int->(EV->Prop)->Prop:=λx lo hi φ=>match x with
 | .lst ds=>φ (df (.lst (cutD ds lo hi)))
 | .scr ns=>φ (df (.lst (cutD (ns.map D.int) lo hi)))
 | .tup ds=>¬ (ZZ.sIx ds.length 0 lo=0 /\ ZZ.sIx ds.length ds.length hi=ds.length) /\ φ (dv (.tup (cutD ds lo hi)))
 | _=>False
def dSl (te:TD) (tl th:TDo):TD:=λρ φ=>te ρ λx=>tl ρ λl=>th ρ λu=>sSl x.d l u φ
def x5 {lo hi:Option Expr} {tl th:TDo} {p2:Pos} (he:ED Γ X e te) (hl:EO Γ X lo tl) (hu:EO Γ X hi th):ED Γ X (.Subscript e (.Slice lo hi none p2) pos) (dSl te tl th):=λH₀ =>
 impE (Pl (Lf.or Hj) (he H₀) (hl H₀) (hu H₀)) λσ H Q q=>by
  obtain ⟨ρ,o,R,φ,hφ,k⟩:=q
  refine ⟨ρ,o,R,_,hφ,λv r H1 s1 rv h1=>⟨ρ,o,R.to s1,_,h1,λl H2 s2 h2=>⟨ρ,o,R.to (s1.trans s2),_,h2,λu H3 s3 h3=>?_⟩⟩⟩
  have s12:=s1.trans s2
  have s13:=s12.trans s3
  have vw:=(rv.same (s2.trans s3)).view
  obtain ⟨kd,d⟩:=r
  cases d with
  | lst ds =>
   obtain ⟨a,xs,rfl,q,r⟩:=vw
   refine .inl ⟨a,xs,rfl,SqL.of q,λp hp=>?_⟩
   exact k _ _ _ (s13.trans (yc hp _)) (RV.start (j4 (λa e=>R.ofree (s13.free e)) hp (c9 r l u)) s13) h3
  | scr ns =>
   obtain ⟨a,rfl,q⟩:=vw
   refine .inl ⟨a,_,rfl,q.seq,λp hp=>?_⟩
   exact k _ _ _ (s13.trans (yc hp _)) (RV.start (j4 (λa e=>R.ofree (s13.free e)) hp (c9 (Reps.ints ns) l u)) s13) h3
  | tup ds =>
   obtain ⟨a,xs,rfl,q,r⟩:=vw
   refine .inr ⟨a,xs,rfl,q.1,by rw [r.length]; exact h3.1,λp hp=>?_⟩
   exact k _ _ _ (s13.trans (yc hp _)) (RV.start (Wo hp (c9 r l u)) s13) h3.2
  | _=>exact h3.elim
end
def uc (r:EV):Prop:=match r.k with
 | .val=>zk r.d
 | .own=>False
 | .fre=>match r.d with
  | .lst ds=>zn ds
  | .dk _ ds=>zn ds
  | _=>False
 | .new=>True
def RV.lift {K:W.Frag} {H0 H:Hp} {O:List Addr} {r:EV} {v:V} (h:RV K H0 H [] r v) (p:uc r) (ho:∀ a,H0 a=none->a ∉ O):RV K H0 H O r v:=by
 obtain ⟨k,d⟩:=r
 cases k with
 | val=>exact Rep.pure _ _ p h
 | own=>exact p.elim
 | fre =>
  obtain ⟨a,e,m,n,c⟩:=h
  refine ⟨a,e,m,ho a m,?_⟩
  cases d with
  | lst ds=>obtain ⟨xs,q,r⟩:=c; exact ⟨xs,q,Reps.pure _ _ p r⟩
  | dk ks ds=>obtain ⟨xs,q,l,nd,r⟩:=c; exact ⟨xs,q,l,nd,Reps.pure _ _ p r⟩
  | _=>exact c.elim
 | new=>exact RepN.to (Same.refl H) (λa z=>⟨ho a z.2,z.2⟩) _ _ h
abbrev FT:=List D->(EV->Prop)->Prop
def spD (K:W.Frag) (n:Nat) (T:FT):Sp:=λvs H Q _=>∃ ds φ,ds.length=n /\ Reps K H [] ds vs /\ T ds φ /\ ∀ v r H',Same H H'->RV K H H' [] r v->uc r->φ r->Q v H'
structure FD (P:Program) (w:World) (K:W.Frag) (mg:Str->Option Value) (base:Heap) (k:Nat) (x:Str) (ps:List Str) (T:FT):Prop where
 ex:∃ f fd,FnOk P w K mg base CX0 k f fd ps (spD K ps.length T) /\ Binds K fd ps [] /\ W.keepIn K (.ref f)=true /\ mg x=some (.ref f)
def Q6 (n:Nat) (T:FT) (t:TDs):TD:=λρ φ=>t ρ λrs=>Nat.beq rs.length n=true /\ T (rs.map EV.d) φ
section
variable {x:Str} {ps:List Str} {T:FT} {k:Nat} {es:List Expr} {t:TDs} {p:Pos}
def Su {H₀:Hp}:∀ σ H Q,qq X.K H₀ (Q6 ps.length T t) σ H Q->Hi (spD X.K ps.length T) [] E0 (Kx X.K H₀ t) σ H Q:=λσ H Q q=>by
 obtain ⟨ρ,o,R,φ,hφ,kk⟩:=q
 refine ⟨ρ,o,R,_,hφ,λvs rs H1 s1 rvs h1=>?_⟩
 show spD X.K ps.length T (vs ++ []) H1 Q E0
 rw [List.append_nil]
 refine ⟨rs.map EV.d,φ,by rw [zLm]; exact Nat.eq_of_beq_eq_true h1.1,rvs.reps0,h1.2,λv r H2 s2 rv pr h2=>?_⟩
 exact kk v r H2 (s1.trans s2) (RV.start (rv.lift pr λa e=>R.ofree (s1.free e)) s1) h2
def ya (F:FD X.prog X.w X.K X.mg X.base k x ps T) (hr:Room k X.A) (ha:EA Γ X (e :: es) t) (hg:Gl X x:=by rfl) (hdb:(x == ("__debug__" : Str))=false:=by decide)
  (he:starEach (e :: es) X.env=(false,eval e X.env) :: starEach es X.env:=by rfl) (hpl:(backTo pos (starEach es X.env)).any (·.1)=false:=by rfl):ED Γ X (.Call (.Name x p) (e :: es) [] pos) (Q6 ps.length T t):=λH₀=>by
 obtain ⟨f,fd,ok,b,kp,m⟩:=F.ex
 exact impE (cg ok hr hg m kp b .nil ci (ha H₀) hdb he hpl) Su
def Jt (K:W.Frag) (H:Hp) (O:List Addr):List D->List V->Prop
 | [],vs=>vs=[]
 | d :: ds,vs=>∃ v ws,vs=v :: ws /\ View K H O d v /\ Jt K H O ds ws
def RVs.views {K:W.Frag} {H0 H:Hp} {O:List Addr}:∀ {rs:List EV} {vs:List V},RVs K H0 H O rs vs->Jt K H O (rs.map EV.d) vs
 | [],_,h=>h
 | r :: rs,vs,h=>by
  obtain ⟨v,ws,e,q,t⟩:=h
  exact ⟨v,ws,e,q.view,t.views⟩
def Qh (K:W.Frag) (r:List V->Hp->VK->Prop) (s:FT):Prop :=
 ∀ (H:Hp) (O:List Addr) (ds:List D) (vs:List V) (φ:EV->Prop) (Q:VK),(∀ a,H a=none->a ∉ O)->Jt K H O ds vs->s ds φ->(∀ v r H',Same H H'->RV K H H' O r v->φ r->Q v H')->r vs H Q
def dCB (s:FT) (t:TDs):TD:=λρ φ=>t ρ λrs=>s (rs.map EV.d) φ
def Ss {r:List V->Hp->VK->Prop} {s:FT} (hl:Qh X.K r s) {H₀:Hp}:∀ σ H Q,qq X.K H₀ (dCB s t) σ H Q->tCB r (Kx X.K H₀ t) σ H Q:=λσ H Q q=>by
 obtain ⟨ρ,o,R,φ,hφ,kk⟩:=q
 refine ⟨ρ,o,R,_,hφ,λvs rs H1 s1 rvs h1=>?_⟩
 exact hl H1 _ _ vs φ Q (λa e=>R.ofree (s1.free e)) rvs.views h1 λv r H2 s2 rv h2=>kk v r H2 (s1.trans s2) (rv.start s1) h2
def kn {id:String} {r:List V->Hp->VK->Prop} {s:FT} (hc:uv X (.builtin id) r) (hl:Qh X.K r s) (hm:X.mg x=none) (hv:bootBuiltins x=some (.builtin id)) (ha:EA Γ X (e :: es) t) (hg:Gl X x:=by rfl) (hn:x ≠ "__name__":=by decide) (hdb:(x == ("__debug__" : Str))=false:=by decide)
  (he:starEach (e :: es) X.env=(false,eval e X.env) :: starEach es X.env:=by rfl) (hpl:(backTo pos (starEach es X.env)).any (·.1)=false:=by rfl):ED Γ X (.Call (.Name x p) (e :: es) [] pos) (dCB s t):=λH₀ =>
 impE (Po hc hg hm hv (ha H₀) hn hdb he hpl) (Ss hl)
def rm {T:String} {r:List V->Hp->VK->Prop} {s:FT} (hc:uv X (.type T) r) (hl:Qh X.K r s) (hm:X.mg x=none) (hv:bootBuiltins x=some (.type T)) (ha:EA Γ X (e :: es) t) (hg:Gl X x:=by rfl) (hn:x ≠ "__name__":=by decide) (hdb:(x == ("__debug__" : Str))=false:=by decide)
  (he:starEach (e :: es) X.env=(false,eval e X.env) :: starEach es X.env:=by rfl) (hpl:(backTo pos (starEach es X.env)).any (·.1)=false:=by rfl):ED Γ X (.Call (.Name x p) (e :: es) [] pos) (dCB s t):=λH₀ =>
 impE (Sa hc hg hm hv (ha H₀) hn hdb he hpl) (Ss hl)
def sLen:FT:=λds φ=>match ds with
 | [.lst l]=>φ (dv (.int l.length))
 | [.tup l]=>φ (dv (.int l.length))
 | [.scr l]=>φ (dv (.int l.length))
 | [.str z]=>z.length <= sizeLine /\ φ (dv (.int z.length))
 | _=>False
def Pw:Qh X.K (λxs H Q=>(∃ p ys,xs=[.ref p] /\ (SqL X.K H p ys \/ SqT X.K H p ys) /\ Q (.int ys.length) H) \/ ∃ z,xs=[.str z] /\ z.length <= sizeLine /\ Q (.int z.length) H) sLen:=by
 intro H O ds vs φ Q ho hv h k
 unfold sLen at h
 split at h
 ·obtain ⟨v,ws,rfl,⟨a,xs,rfl,q,r⟩,rfl⟩:=hv
  refine .inl ⟨a,xs,rfl,.inl (SqL.of q),?_⟩
  rw [r.length]
  exact k _ _ H (Same.refl H) (by exact rfl) h
 ·obtain ⟨v,ws,rfl,⟨a,xs,rfl,q,r⟩,rfl⟩:=hv
  refine .inl ⟨a,xs,rfl,.inr q.1,?_⟩
  rw [r.length]
  exact k _ _ H (Same.refl H) (by exact rfl) h
 ·obtain ⟨v,ws,rfl,⟨a,rfl,q⟩,rfl⟩:=hv
  refine .inl ⟨a,_,rfl,.inl q.seq,?_⟩
  rw [zLm]
  exact k _ _ H (Same.refl H) (by exact rfl) h
 ·obtain ⟨v,ws,rfl,hz,rfl⟩:=hv
  cases (show v=_ from hz)
  exact .inr ⟨_,rfl,h.1,k _ _ H (Same.refl H) (by exact rfl) h.2⟩
 ·exact h.elim
def wj (hm:X.mg "len" = none) (ha:EA Γ X (e :: es) t) (hg:Gl X "len":=by rfl) (he:starEach (e :: es) X.env=(false,eval e X.env) :: starEach es X.env:=by rfl) (hpl:(backTo pos (starEach es X.env)).any (·.1)=false:=by rfl):ED Γ X (.Call (.Name "len" p) (e :: es) [] pos) (dCB sLen t) :=
 kn (Yp.or Yo) Pw hm PySem.boot_len ha hg (by decide) (by decide) he hpl
end
def EV.sto (r:EV):EV:=⟨match r.k with
 | .fre=>.own
 | .new=>.val
 | k=>k,r.d⟩
def EV.ret (r:EV):EV:=⟨match r.k with
 | .own=>.fre
 | k=>k,r.d⟩
def setS:DE->Nat->EV->DE
 | [],_,_=>[]
 | _ :: r,0,v=>some v :: r
 | x :: r,i + 1,v=>x :: setS r i v
def xb:∀ (ρ:DE) (i:Nat) (v:EV),setS ρ i v=ρ.set i (some v)
 | [],_,_=>rfl
 | _ :: _,0,_=>rfl
 | x :: r,i + 1,v=>by rw [setS,xb r i v,List.set_cons_succ]
def Con1.grow {K:W.Frag} {H H':Hp} {O O':List Addr} {d:D} {a:Addr} (h:Con1 K H O d a) (s:∀ u,H a=some u->H' a=some u) (g:Grow O O' H H'):Con1 K H' O' d a:=by
 cases d with
 | lst ds=>obtain ⟨xs,q,r⟩:=h; exact ⟨xs,s _ q,Reps.grow g _ _ r⟩
 | dk ks ds=>obtain ⟨xs,q,l,n,r⟩:=h; exact ⟨xs,s _ q,l,n,Reps.grow g _ _ r⟩
 | _=>exact h.elim
def Con1.mtb {K:W.Frag} {H:Hp} {O:List Addr} {d:D} {a:Addr} (h:Con1 K H O d a):(∃ u,H a=some u) /\ (∀ xs,H a ≠ some (.tup xs)) /\ ∀ ob u,H a ≠ some (.frz ob u):=by
 cases d with
 | lst ds=>obtain ⟨xs,q,r⟩:=h; exact ⟨⟨_,q⟩,(λxs z=>by rw [q] at z; cases z),(λob u z=>by rw [q] at z; cases z)⟩
 | dk ks ds=>obtain ⟨xs,q,r⟩:=h; exact ⟨⟨_,q⟩,(λxs z=>by rw [q] at z; cases z),(λob u z=>by rw [q] at z; cases z)⟩
 | _=>exact h.elim
def REnv.setV (R:REnv K H₀ H σ ρ o) (i:Nat) {d:D} {v:V} (h:Rep K H (o.map Prod.snd) d v):REnv K H₀ H (σ.set i (some v)) (setS ρ i (dv d)) o where
 same:=R.same
 fresh:=R.fresh
 trk:=R.trk
 mtb:=R.mtb
 nda:=R.nda
 len:=by rw [xb,List.length_set,List.length_set]; exact R.len
 slots:=λj r e=>by
  rw [xb] at e
  by_cases hj:j=i
  ·subst hj
   have hl:j < ρ.length:=by
    rcases Nat.lt_or_ge j ρ.length with z | z
    ·exact z
    ·rw [List.getElem?_eq_none (by rw [List.length_set]; exact z)] at e
     cases e
   rw [List.getElem?_set_self hl] at e
   cases e
   exact ⟨v,List.getElem?_set_self (by rw [R.len]; exact hl),.inl ⟨rfl,h⟩⟩
  ·rw [List.getElem?_set_ne (Ne.symm hj)] at e
   obtain ⟨w,ew,q⟩:=R.slots j r e
   exact ⟨w,by rw [List.getElem?_set_ne (Ne.symm hj)]; exact ew,q⟩
def REnv.setO (R:REnv K H₀ H σ ρ o) (s:Same H H') (i:Nat) {d:D} {a:Addr} (ha:H a=none) (c:Con1 K H' (a :: o.map Prod.snd) d a) :
  REnv K H₀ H' (σ.set i (some (.ref a))) (setS ρ i (dO d)) ((i,a) :: o) /\ Grow (o.map Prod.snd) (((i,a) :: o).map Prod.snd) H H':=by
 have g:Grow (o.map Prod.snd) (((i,a) :: o).map Prod.snd) H H':=by
  refine ⟨λb u h n=>⟨s b u h,λz=>?_⟩,λb xs h=>s b _ h,λb ob u h=>s b _ h⟩
  rw [List.map_cons] at z
  rcases zam.mp z with z | z
  ·exact zr h ha z
  ·exact n z
 refine ⟨?_,g⟩
 have R':=R.to s
 exact {
  same:=R'.same
  fresh:=λp hp=>by
   rcases zam.mp hp with rfl | hp
   ·exact R.same.free ha
   ·exact R.fresh p hp
  trk:=λp hp=>by
   rcases zam.mp hp with rfl | hp
   ·exact c.mtb.1
   ·exact R'.trk p hp
  mtb:=λp hp=>by
   rcases zam.mp hp with rfl | hp
   ·exact c.mtb.2
   ·exact R'.mtb p hp
  nda:=by
   rw [List.map_cons,List.nodup_cons]
   exact ⟨λz=>R.ofree ha z,R.nda⟩
  len:=by rw [xb,List.length_set,List.length_set]; exact R.len
  slots:=λj r e=>by
   rw [xb] at e
   by_cases hj:j=i
   ·subst hj
    have hl:j < ρ.length:=by
     rcases Nat.lt_or_ge j ρ.length with z | z
     ·exact z
     ·rw [List.getElem?_eq_none (by rw [List.length_set]; exact z)] at e
      cases e
    rw [List.getElem?_set_self hl] at e
    cases e
    exact ⟨_,List.getElem?_set_self (by rw [R.len]; exact hl),.inr ⟨rfl,a,rfl,zao ..,c⟩⟩
   ·rw [List.getElem?_set_ne (Ne.symm hj)] at e
    obtain ⟨w,ew,q⟩:=R.slots j r e
    refine ⟨w,by rw [List.getElem?_set_ne (Ne.symm hj)]; exact ew,?_⟩
    rcases q with ⟨k,q⟩ | ⟨k,a',e1,m,c'⟩
    ·exact .inl ⟨k,Rep.grow g _ _ q⟩
    ·exact .inr ⟨k,a',e1,zal _ m,c'.grow (λu q=>s _ _ q) g⟩ }
def REnv.put (R:REnv K H₀ H σ ρ o) (s:Same H H') (i:Nat) {r:EV} {v:V} (h:RV K H H' (o.map Prod.snd) r v) (hk:r.k ≠ .own) :
  ∃ o',REnv K H₀ H' (σ.set i (some v)) (setS ρ i r.sto) o' /\ Grow (o.map Prod.snd) (o'.map Prod.snd) H H':=by
 obtain ⟨k,d⟩:=r
 cases k with
 | val=>exact ⟨_,(R.to s).setV i h,Grow.same s⟩
 | own=>exact absurd rfl hk
 | fre =>
  obtain ⟨a,rfl,m,n,c⟩:=h
  exact ⟨_,R.setO s i m c⟩
 | new=>exact ⟨_,(R.to s).setV i (RepN.rep (λa z=>z.1) _ _ h),Grow.same s⟩
def qt:∀ {o:List (Nat × Addr)},(o.map Prod.snd).Nodup->∀ {p q:Nat × Addr},p ∈ o->q ∈ o->p.2=q.2->p=q
 | [],_,_,_,h,_,_=>nomatch h
 | x :: o,nd,p,q,hp,hq,e=>by
  rw [List.map_cons,List.nodup_cons] at nd
  rcases zam.mp hp with h1 | hp
  ·rcases zam.mp hq with h2 | hq
   ·rw [h1,h2]
   ·exact absurd (zah.mpr ⟨q,hq,by rw [<- e,h1]⟩) nd.1
  ·rcases zam.mp hq with h2 | hq
   ·exact absurd (zah.mpr ⟨p,hp,by rw [e,h2]⟩) nd.1
   ·exact qt nd.2 hp hq e
def REnv.chg (R:REnv K H₀ H σ ρ o) {i:Nat} {a:Addr} {d d':D} {ho:HO} (hs:ρ[i]?=some (some (dO d))) (hσ:σ[i]?=some (some (.ref a))) (hm:(i,a) ∈ o) (hho:(∀ xs,ho ≠ .tup xs) /\ ∀ ob u,ho ≠ .frz ob u)
  (c:(∀ ds xs,Reps K H (o.map Prod.snd) ds xs->Reps K (upd H a ho) (o.map Prod.snd) ds xs)->Con1 K (upd H a ho) (o.map Prod.snd) d' a) :
  REnv K H₀ (upd H a ho) σ (setS ρ i (dO d')) o /\ Grow (o.map Prod.snd) (o.map Prod.snd) H (upd H a ho):=by
 have ha:a ∈ o.map Prod.snd:=zah.mpr ⟨_,hm,rfl⟩
 obtain ⟨m1,m2⟩:=R.mtb _ hm
 have g:Grow (o.map Prod.snd) (o.map Prod.snd) H (upd H a ho) :=
  ⟨λb u h n=>⟨by rw [y7 (show b ≠ a from λz=>n (by rw [z]; exact ha))]; exact h,n⟩,λb xs h=>by rw [y7 (show b ≠ a from λz=>m1 xs (by rw [<- z]; exact h))]; exact h,λb ob u h=>by rw [y7 (show b ≠ a from λz=>m2 ob u (by rw [<- z]; exact h))]; exact h⟩
 refine ⟨?_,g⟩
 exact {
  same:=λb u h=>by
   have:b ≠ a:=λz=>by
    have:=R.fresh _ hm
    rw [<- z,h] at this
    cases this
   rw [y7 this]
   exact R.same b u h
  fresh:=R.fresh
  trk:=λp hp=>by
   by_cases e:p.2=a
   ·exact ⟨ho,by rw [e]; exact zy⟩
   ·rw [y7 e]
    exact R.trk p hp
  mtb:=λp hp=>by
   by_cases e:p.2=a
   ·rw [e,zy]
    exact ⟨λxs z=>hho.1 xs (Option.some.inj z),λob u z=>hho.2 ob u (Option.some.inj z)⟩
   ·rw [y7 e]
    exact R.mtb p hp
  nda:=R.nda
  len:=by rw [xb,List.length_set]; exact R.len
  slots:=λj r e=>by
   rw [xb] at e
   by_cases hj:j=i
   ·subst hj
    have hl:j < ρ.length:=(zag.mp hs).1
    rw [List.getElem?_set_self hl] at e
    cases e
    obtain ⟨v,ev,q⟩:=R.slots j _ hs
    rcases q with ⟨k,_⟩ | ⟨_,a',e1,m',_⟩
    ·cases k
    ·have haa:a'=a:=by
      rw [hσ] at ev
      cases ev
      cases e1
      rfl
     subst haa
     exact ⟨v,ev,.inr ⟨rfl,a',e1,hm,c λds xs q=>Reps.grow g _ _ q⟩⟩
   ·rw [List.getElem?_set_ne (Ne.symm hj)] at e
    obtain ⟨w,ew,q⟩:=R.slots j r e
    refine ⟨w,ew,?_⟩
    rcases q with ⟨k,q⟩ | ⟨k,a',e1,m',c'⟩
    ·exact .inl ⟨k,Rep.grow g _ _ q⟩
    ·refine .inr ⟨k,a',e1,m',c'.grow (λu q=>?_) g⟩
     have hne:a' ≠ a:=λz=>by
      exact hj (congrArg Prod.fst (qt R.nda m' hm z))
     rw [y7 hne]
     exact q }
section
variable {st:Stmt} {rest:List Stmt} {t u:TDS} {te:TD} {tc:TDb}
def sNil:TDS:=λρ Z=>Z.nx ρ
def sSeq (t u:TDS):TDS:=λρ Z=>t ρ { Z with nx:=λρ'=>u ρ' Z }
def yn:SDs Γ X [] sNil:=λH₀=>jk j9 λD σ H h=>by
 obtain ⟨ρ,o,R,Z,hZ,k1,_⟩:=h
 exact k1 ρ σ H o Grow.refl R hZ
def zf (h1:SD Γ X st t) (h2:SDs Γ X rest u):SDs Γ X (st :: rest) (sSeq t u):=λH₀=>jk (xu (h1 H₀) (h2 H₀)) λD σ H h=>by
 obtain ⟨ρ,o,R,Z,hZ,k1,k2,k3,k4⟩:=h
 refine ⟨ρ,o,R,_,hZ,λρ' σ' H' o' g R' q=>?_,k2,k3,k4⟩
 exact ⟨ρ',o',R',Z,q,λρ2 σ2 H2 o2 g2 R2 q2=>k1 ρ2 σ2 H2 o2 (g.trans g2) R2 q2,λρ2 σ2 H2 o2 g2 R2 q2=>k2 ρ2 σ2 H2 o2 (g.trans g2) R2 q2,λρ2 σ2 H2 o2 g2 R2 q2=>k3 ρ2 σ2 H2 o2 (g.trans g2) R2 q2,k4⟩
def zu (h1:SD Γ X st t):SDs Γ X [st] t:=λH₀=>qk (h1 H₀)
def X5:SD Γ X (.Continue pos) (λρ Z=>Z.ct ρ):=λH₀=>impS X7 λD σ H h=>by
 obtain ⟨ρ,o,R,Z,hZ,_,_,k3,_⟩:=h
 exact k3 ρ σ H o Grow.refl R hZ
def dz:SD Γ X st (λ_ _=>False):=λH₀=>impS Pi λD σ H h=>by
 obtain ⟨_,_,_,_,hZ,_⟩:=h
 exact hZ.elim
def sRet (te:TD):TDS:=λρ Z=>te ρ λr=>Z.rt r.ret
def RV.ret {K:W.Frag} {H₀ H H':Hp} {σ:St} {ρ:DE} {o:List (Nat × Addr)} (R:REnv K H₀ H σ ρ o) {r:EV} {v:V} (h:RV K H H' (o.map Prod.snd) r v):RV K H₀ H' [] r.ret v:=by
 obtain ⟨k,d⟩:=r
 cases k with
 | val=>exact Rep.sub (O':=[]) (λ_ z=>absurd z (by simp)) _ _ h
 | own =>
  obtain ⟨a,e,m,c⟩:=h
  obtain ⟨p,hp,ep⟩:=zah.mp m
  subst ep
  exact ⟨p.2,e,R.fresh p hp,by simp,c.sub λb hb=>by
   have:b=p.2:=by simpa using hb
   rw [this]
   exact m⟩
 | fre =>
  obtain ⟨a,e,m,n,c⟩:=h
  exact ⟨a,e,R.same.free m,by simp,c.sub λb hb=>by
   have:b=a:=by simpa using hb
   rw [this]
   exact zao ..⟩
 | new=>exact RepN.to (Same.refl H') (λa z=>⟨by simp,R.same.free z.2⟩) _ _ h
def yg (he:ED Γ X e te):SD Γ X (.Return (some e) pos) (sRet te):=λH₀=>impS (Zm (he H₀)) λD σ H h=>by
 obtain ⟨ρ,o,R,Z,hZ,k1,k2,k3,k4⟩:=h
 refine ⟨ρ,o,R,_,hZ,λv r H1 s1 rv h1=>?_⟩
 exact k4 v r.ret H1 (R.same.trans s1) (RV.ret R rv) h1
def sIf (tc:TDb) (t u:TDS):TDS:=λρ Z=>tc ρ λc=>(c=true->t ρ Z) /\ (c=false->u ρ Z)
def xm {c:Expr} {a b:List Stmt} (hc:ET Γ X c tc) (ha:SDs Γ X a t) (hb:SDs Γ X b u):SD Γ X (.If c a b pos) (sIf tc t u):=λH₀=>impS (Tx (hc H₀) (ha H₀) (hb H₀)) λD σ H h=>by
 obtain ⟨ρ,o,R,Z,hZ,k1,k2,k3,k4⟩:=h
 refine ⟨ρ,o,R,_,hZ,λc H1 s1 h1=>?_⟩
 have g:Grow (o.map Prod.snd) (o.map Prod.snd) H H1:=Grow.same s1
 have kk:∀ {v:TDS},v ρ Z->O0 X.K H₀.1 v D σ H1:=λhv=>⟨ρ,o,R.to s1,Z,hv,λρ2 σ2 H2 o2 g2 R2 q2=>k1 ρ2 σ2 H2 o2 (g.trans g2) R2 q2,λρ2 σ2 H2 o2 g2 R2 q2=>k2 ρ2 σ2 H2 o2 (g.trans g2) R2 q2,λρ2 σ2 H2 o2 g2 R2 q2=>k3 ρ2 σ2 H2 o2 (g.trans g2) R2 q2,k4⟩
 cases c with
 | true=>exact iteT (kk (h1.1 rfl))
 | false=>exact iteF (kk (h1.2 rfl))
def sCut (t:TDS):TDS:=λρ Z=>∃ J:DE->Prop,t ρ { Z with nx:=J } /\ ∀ ρ',J ρ'->Z.nx ρ'
def yd (h:SD Γ X st t):SD Γ X st (sCut t):=λH₀=>impS (h H₀) λD σ H h=>by
 obtain ⟨ρ,o,R,Z,⟨J,hZ,hJ⟩,k1,k2,k3,k4⟩:=h
 exact ⟨ρ,o,R,_,hZ,λρ2 σ2 H2 o2 g2 R2 q2=>k1 ρ2 σ2 H2 o2 g2 R2 (hJ ρ2 q2),k2,k3,k4⟩
def Hr (te:TD):TDS:=λρ Z=>te ρ λ_=>Z.nx ρ
def Ll (he:ED Γ X e te) (hs:swapsWith e none pos.line X.env=pure false:=by rfl):SD Γ X (.Expr e pos) (Hr te):=λH₀=>impS (ww (he H₀) hs) λD σ H h=>by
 obtain ⟨ρ,o,R,Z,hZ,k1,k2,k3,k4⟩:=h
 exact ⟨ρ,o,R,_,hZ,λv r H1 s1 rv h1=>k1 ρ σ H1 o (Grow.same s1) (R.to s1) h1⟩
def sSet (i:Nat) (te:TD):TDS:=λρ Z=>te ρ λr=>(match r.k with | .own=>False | _=>True) /\ Z.nx (setS ρ i r.sto)
def vv {r:EV} (h:match r.k with | .own=>False | _=>True):r.k ≠ .own:=by
 obtain ⟨k,d⟩:=r
 cases k with
 | own=>exact h.elim
 | val=>exact λz=>nomatch z
 | fre=>exact λz=>nomatch z
 | new=>exact λz=>nomatch z
def y0 (i:Nat) {x:Str} {pos':Pos} (hN:X.N.Nodup) (he:ED Γ X e te) (hi:X.N[i]?=some x:=by rfl) (hx:Loc X.env.scope x:=by first | exact Or.inl rfl | exact Or.inr rfl) (hs:swapsWith e (some (.Name x pos')) pos.line X.env=pure false:=by rfl)
  (hf:X.fn x=true \/ X.env.scope.names.lookup x=some .local:=by first | exact .inl rfl | exact .inr rfl | assumption):SD Γ X (.Assign [.Name x pos'] e pos) (sSet i te):=λH₀=>impS (su hN hi hx (he H₀) hs hf) λD σ H h=>by
 obtain ⟨ρ,o,R,Z,hZ,k1,k2,k3,k4⟩:=h
 refine ⟨ρ,o,R,_,hZ,λv r H1 s1 rv h1=>?_⟩
 obtain ⟨o',R',g⟩:=R.put s1 i rv (vv h1.1)
 exact k1 _ _ H1 o' g R' h1.2
abbrev TGD:=D->DE->(DE->Prop)->Prop
def gp (K:W.Frag) (g2:TG) (g:TGD):Prop:=∀ (H₀ H:Hp) (σ:St) (ρ:DE) (o:List (Nat × Addr)) (d:D) (v:V) (ψ:DE->Prop) (Q:St->Hp->Prop),REnv K H₀ H σ ρ o->Rep K H (o.map Prod.snd) d v->g d ρ ψ ->
 (∀ ρ' σ',REnv K H₀ H σ' ρ' o->ψ ρ'->Q σ' H)->g2 v σ H Q
def gN (i:Nat):TGD:=λd ρ ψ=>ψ (setS ρ i (dv d))
def yp {K:W.Frag} (i:Nat):gp K (se i) (gN i):=λH₀ H σ ρ o d v ψ Q R h hg k=>k _ _ (R.setV i h) hg
def gT2 (i j:Nat):TGD:=λd ρ ψ=>match d with
 | .tup [a,b]=>ψ (setS (setS ρ i (dv a)) j (dv b))
 | _=>False
def bh {K:W.Frag} (i j:Nat):gp K (gTup K 2 (gf (se i) (gf (se j) gNil))) (gT2 i j):=λH₀ H σ ρ o d v ψ Q R h hg k=>by
 unfold gT2 at hg
 split at hg
 ·rename_i a b
  obtain ⟨p,xs,rfl,q,r⟩:=h
  obtain ⟨v1,r1,rfl,h1,v2,r2,rfl,h2,rfl⟩:=r
  refine ⟨p,_,rfl,q.1,rfl,v1,_,rfl,v2,_,rfl,rfl,?_⟩
  have R1:=R.setV i h1
  have R2:=R1.setV j h2
  exact k _ _ R2 hg
 ·exact hg.elim
def sUn (te:TD) (g:TGD):TDS:=λρ Z=>te ρ λr=>(match r.k with | .own=>False | _=>True) /\ g r.d ρ Z.nx
def Lj {tg:Expr} {g2:TG} {g:TGD} (he:ED Γ X e te) (hg:PG X tg g2) (hl:gp X.K g2 g) (hs:swapsWithSole [tg] e pos.line X.env=pure false:=by rfl) (hw:swappedStores [tg] e X.env=pure none:=by rfl)
  (h1:(assignEach [tg] X.env).map (·.2)=[assign tg X.env]:=by rfl):SD Γ X (.Assign [tg] e pos) (sUn te g):=λH₀=>impS (Wy (he H₀) hg hs hw h1) λD σ H h=>by
 obtain ⟨ρ,o,R,Z,hZ,k1,k2,k3,k4⟩:=h
 refine ⟨ρ,o,R,_,hZ,λv r H1 s1 rv h1=>?_⟩
 exact hl H₀.1 H1 σ ρ o r.d v _ _ (R.to s1) (rv.solid (vv h1.1)) h1.2 λρ' σ' R' q=>k1 ρ' σ' H1 o (Grow.same s1) R' q
def sWh (tc:TDb) (tb:TDS):TDS:=λρ Z=>∃ (P:DE->Prop) (μ:DE->Nat),P ρ /\ ∀ ρ,P ρ->tc ρ λc =>
 (c=true->tb ρ { Z with nx:=λρ'=>P ρ' /\ μ ρ' < μ ρ,ct:=λρ'=>P ρ' /\ μ ρ' < μ ρ,bk:=Z.nx }) /\ (c=false->Z.nx ρ)
def Wl {c:Expr} {body:List Stmt} {tb:TDS} (hc:ET Γ X c tc) (hb:SDs Γ X body tb) (hp:PassesOwn (model X.prog X.w) X.A X.env X.xe:=by exact PassesOwn.never):SD Γ X (.While c body [] pos) (sWh tc tb):=λH₀=>impS (Wx hp (hc H₀) (hb H₀)) λD σ H h=>by
 obtain ⟨ρ,o,R,Z,⟨P,μ,hP,turn⟩,k1,k2,k3,k4⟩:=h
 refine ⟨λm σ' H'=>∃ ρ' o',Grow (o.map Prod.snd) (o'.map Prod.snd) H H' /\ REnv X.K H₀ H' σ' ρ' o' /\ P ρ' /\ μ ρ'=m,⟨_,ρ,o,Grow.refl,R,hP,rfl⟩,?_⟩
 rintro m σ1 H1 ⟨ρ1,o1,g1,R1,p1,rfl⟩
 refine ⟨ρ1,o1,R1,_,turn ρ1 p1,λc H2 s2 h2=>?_⟩
 have g2:=g1.trans (Grow.same (O:=o1.map Prod.snd) s2)
 cases c with
 | true =>
  refine iteT ⟨λσ' H'=>∃ ρ' o',Grow (o.map Prod.snd) (o'.map Prod.snd) H H' /\ REnv X.K H₀ H' σ' ρ' o' /\ P ρ' /\ μ ρ' < μ ρ1,λσ' H' ⟨ρ',o',g,R',p,l⟩=>⟨_,l,ρ',o',g,R',p,rfl⟩,?_⟩
  exact ⟨ρ1,o1,R1.to s2,_,h2.1 rfl,λρ' σ' H' o' g R' q=>⟨ρ',o',g2.trans g,R',q.1,q.2⟩,λρ' σ' H' o' g R' q=>k1 ρ' σ' H' o' (g2.trans g) R' q,λρ' σ' H' o' g R' q=>⟨ρ',o',g2.trans g,R',q.1,q.2⟩,k4⟩
 | false=>exact iteF (k1 ρ1 σ1 H2 o1 g2 (R1.to s2) (h2.2 rfl))
structure ItD (K:W.Frag) (J:It) (ds:List D) (P:Hp->List Addr->Prop):Prop where
 go:∀ (H:Hp) (O:List Addr) (i:Nat) (d:D),P H O->ds[i]?=some d->J.go i H /\ ∀ x H',J.yld i H x H'->Same H H' /\ Rep K H' O d x
 stop:∀ (H:Hp) (O:List Addr),P H O->J.stop ds.length H
 keep:∀ (O O':List Addr) (H H':Hp),P H O->Grow O O' H H'->P H' O'
abbrev TID:=DE->(List D->Prop)->Prop
def Kv (K:W.Frag) (H₀:Hp) (t:TID):TI:=λσ H R=>∃ ρ o,REnv K H₀ H σ ρ o /\ ∃ φ,t ρ φ /\ ∀ J ds P H',Same H H'->ItD K J ds P->P H' (o.map Prod.snd)->φ ds->R J H'
def EI (G:Hp->Prop) (X:Cx) (tg iter:Expr) (t:TID):Prop:=∀ H₀:{H:Hp // G H},PI X tg iter (Kv X.K H₀.1 t)
def sFor (ti:TID) (g:TGD) (tb:TDS):TDS:=λρ Z=>ti ρ λds=>∃ P:Nat->DE->Prop,P 0 ρ /\ (∀ i d ρ,ds[i]?=some d->P i ρ->g d ρ λρ'=>tb ρ' { Z with nx:=P (i + 1),ct:=P (i + 1),bk:=Z.nx }) /\ ∀ ρ,P ds.length ρ->Z.nx ρ
def sr {tg iter:Expr} {body:List Stmt} {ti:TID} {g2:TG} {g:TGD} {tb:TDS} (hi:EI Γ X tg iter ti) (hg:PG X tg g2) (hl:gp X.K g2 g) (hb:SDs Γ X body tb) (hc:X.calm=true:=by rfl) (hp:PassesOwn (model X.prog X.w) X.A X.env X.xe:=by exact PassesOwn.never)
  (hs:∀ x,foldedSetIterable iter X.env x=pure x:=by intro _; rfl):SD Γ X (.For tg iter body [] pos) (sFor ti g tb):=λH₀=>impS (Nx hp hc (hi H₀) hg (hb H₀) hs) λD σ H h=>by
 obtain ⟨ρ,o,R,Z,hZ,k1,k2,k3,k4⟩:=h
 refine ⟨ρ,o,R,_,hZ,λJ ds PJ H1 s1 I hP ⟨P,p0,turn,fin⟩=>?_⟩
 refine ⟨λi m σ' H'=>m=ds.length - i /\ i <= ds.length /\ ∃ ρ' o',Grow (o.map Prod.snd) (o'.map Prod.snd) H1 H' /\ REnv X.K H₀ H' σ' ρ' o' /\ P i ρ',⟨_,rfl,Nat.zero_le _,ρ,o,Grow.refl,R.to s1,p0⟩,?_⟩
 rintro i m σ' H' ⟨rfl,hi',ρ',o',g',R',p'⟩
 have hP':=I.keep _ _ _ _ hP g'
 have gg:Grow (o.map Prod.snd) (o'.map Prod.snd) H H':=(Grow.same s1).trans g'
 by_cases hlt:i < ds.length
 ·have ed:ds[i]?=some ds[i]:=by simp [hlt]
  obtain ⟨j1,j2⟩:=I.go H' _ i _ hP' ed
  refine .inr ⟨j1,λσ2 H2=>∃ ρ2 o2,Grow (o.map Prod.snd) (o2.map Prod.snd) H1 H2 /\ REnv X.K H₀ H2 σ2 ρ2 o2 /\ P (i + 1) ρ2,λσ2 H2 ⟨ρ2,o2,g2,R2,p2⟩=>⟨_,(by omega:ds.length - (i + 1) < ds.length - i),rfl,hlt,ρ2,o2,g2,R2,p2⟩,λx H2 y=>?_⟩
  obtain ⟨s2,rp⟩:=j2 x H2 y
  refine hl H₀.1 H2 σ' ρ' o' _ x _ _ (R'.to s2) rp (turn i _ ρ' ed p') λρ3 σ3 R3 q3=>?_
  have g13:Grow (o.map Prod.snd) (o'.map Prod.snd) H1 H2:=g'.trans (Grow.same s2)
  have gg3:Grow (o.map Prod.snd) (o'.map Prod.snd) H H2:=gg.trans (Grow.same s2)
  exact ⟨ρ3,o',R3,_,q3,λρ4 σ4 H4 o4 g4 R4 q4=>⟨ρ4,o4,g13.trans g4,R4,q4⟩,λρ4 σ4 H4 o4 g4 R4 q4=>k1 ρ4 σ4 H4 o4 (gg3.trans g4) R4 q4,λρ4 σ4 H4 o4 g4 R4 q4=>⟨ρ4,o4,g13.trans g4,R4,q4⟩,k4⟩
 ·have e:i=ds.length:=by omega
  subst e
  exact .inl ⟨I.stop H' _ hP',k1 ρ' σ' H' o' gg R' (fin ρ' p')⟩
end
section
variable {tg:Expr} {te:TD} {t:TDs}
def impI {iter:Expr} {t t':TI} (h:PI X tg iter t) (i:∀ σ H R,t' σ H R->t σ H R):PI X tg iter t':=λpn s σ H R I q=>h pn s σ H R I (i σ H R q)
def PV (X:Cx) (tg:Expr) (r:V->Hp->(It->Hp->Prop)->Prop):Prop :=
 ∀ (pn:List (Addr × Obj)) (s:Shared) (σ:St) (H:Hp) (x:V) (v:Value) (R:It->Hp->Prop),Inv X pn σ H s->RelV x v->r x H R->wpAny (model X.prog X.w) X.A (pyIter v) (PIE X pn σ tg R) X.xe s
def D9 {l:Expr} {tl:TE} {r:V->Hp->(It->Hp->Prop)->Prop} (hl:PE X l tl) (hv:PV X tg r):PI X tg l (λσ H R=>tl σ H λx H1=>r x H1 R):=λpn s σ H R I h =>
 thn (hl pn s σ H _ I h) λv s1 ⟨x,H1,I1,r1,q1⟩=>hv pn s1 σ H1 x v R I1 r1 q1
def K2:PV X tg (λx H R=>∃ a,x=.ref a /\ (∃ xs,SqL X.K H a xs) /\ R (Itl X.K a) H):=by
 intro pn s1 σ H1 x v R I1 r1 q1
 obtain ⟨a,e,⟨xs,hq⟩,q⟩:=q1
 subst e
 cases r1
 obtain ⟨its,rv,p,hz⟩:=I1.list hq
 refine wpAny_pyIter_list p.isList ?_
 refine ⟨s1.heap.objs.size,[s1.heap.objs.size],_,_,H1,rfl,I1.kept (t':=s1.toks) λb o e=>zac _ e,Uv a _,⟨_,zad _ rfl,rfl,rfl⟩,λb hb=>?_,q⟩
 have e:b=s1.heap.objs.size:=by simpa using hb
 subst e
 exact I1.fpOk (zaj _) (I1.hok.fresh (zaj _))
def Gj:PV X tg (λx H R=>∃ a,x=.ref a /\ (∃ xs,SqT X.K H a xs) /\ R (Itt X.K a) H):=by
 intro pn s1 σ H1 x v R I1 r1 q1
 obtain ⟨a,e,⟨xs,hq⟩,q⟩:=q1
 subst e
 cases r1
 obtain ⟨its,rv,p,hz⟩:=I1.tuple hq
 refine wpAny_pyIter_tuple (show s1.heap.IsTuple a its.toArray from p) ?_
 refine ⟨s1.heap.objs.size,[s1.heap.objs.size],_,_,H1,rfl,I1.kept (t':=s1.toks) λb o e=>zac _ e,Vw a _,⟨_,zad _ rfl,rfl,rfl⟩,λb hb=>?_,q⟩
 have e:b=s1.heap.objs.size:=by simpa using hb
 subst e
 exact I1.fpOk (zaj _) (I1.hok.fresh (zaj _))
def Gk:PV X tg (λx H R=>∃ z,x=.str z /\ R (Itv z.cps.size (Jv z)) H):=by
 intro pn s1 σ H1 x v R I1 r1 q1
 obtain ⟨z,e,q⟩:=q1
 subst e
 obtain ⟨t,rfl⟩:=r1
 have lay:∀ (T:String),(∀ A:Around,A.handled=none->Walks X.prog X.w A s1.heap.objs.size [s1.heap.objs.size] [s1.heap.objs.size] z.cps.size (SignAt z) (λi h=>h.IsStrIter s1.heap.objs.size T z t i)) ->
   (∀ (A:Around) (i:Nat) (s:Shared) (Q:Value->Shared->Prop) (E:Value->Shared->Prop),s.heap.IsStrIter s1.heap.objs.size T z t i->Q (.ref s1.heap.objs.size) s->wpAny (model X.prog X.w) A (pyIter (.ref s1.heap.objs.size)) Q E s) ->
   ["enumerate", "zip", "dict_itemiterator", "dict_reverseitemiterator", "odict_iterator", "itertools.zip_longest", "itertools.pairwise"].contains T=false ->
   PIE X pn σ tg R (.ref s1.heap.objs.size) { s1 with heap:=s1.heap.push { cls:=.type T,data:=.fields #[.str z t,.int 0 0] } }:=λT W hs hT=>by
  have I2:Inv X pn σ H1 { s1 with heap:=s1.heap.push { cls:=.type T,data:=.fields #[.str z t,.int 0 0] } }:=I1.kept (t':=s1.toks) λb u e=>zac _ e
  refine ⟨s1.heap.objs.size,[s1.heap.objs.size],_,_,H1,rfl,I2,Qr W hs hT,⟨_,zad _ rfl,rfl,rfl⟩,λb hb=>?_,q⟩
  have e:b=s1.heap.objs.size:=by simpa using hb
  subst e
  exact I1.fpOk (zaj _) I1.fresh
 cases ha:z.cps.all (· < 128)
 ·exact wpAny_pyIter_wide ha (lay "str_iterator" (λA hA=>Walks.strWide hA _ z t) (λA i s Q E st q=>wpAny_pyIter_striter_wide st q) (by decide))
 ·exact wpAny_pyIter_ascii ha (lay "str_ascii_iterator" (λA hA=>Walks.strAscii hA _ z t) (λA i s Q E st q=>wpAny_pyIter_striter_ascii st q) (by decide))
def Mb:D->Option (List D)
 | .lst ds=>some ds
 | .tup ds=>some ds
 | .scr ns=>some (ns.map D.int)
 | .str z=>some (z.cps.toList.map λc=>D.str ⟨#[c]⟩)
 | _=>none
def iSeq (te:TD):TID:=λρ φ=>te ρ λr=>(match r.k with | .own=>False | _=>True) /\ match Mb r.d with
 | some ds=>φ ds
 | none=>False
def Eb {K:W.Frag} {a:Addr} {ds:List D}:ItD K (Itl K a) ds (λH O=>∃ xs,H a=some (.lst xs) /\ a ∉ O /\ Reps K H O ds xs) where
 go:=λH O i d ⟨xs,q,n,r⟩ e=>by
  obtain ⟨v,ev,rv⟩:=r.get e
  refine ⟨⟨xs,v,SqL.of q,ev⟩,λx H' y=>?_⟩
  obtain ⟨e1,y⟩:=y
  subst e1
  have:=y xs (SqL.of q)
  rw [ev] at this
  cases this
  exact ⟨Same.refl _,rv⟩
 stop:=λH O ⟨xs,q,n,r⟩=>⟨xs,SqL.of q,by rw [r.length]; exact zaj _⟩
 keep:=λO O' H H' ⟨xs,q,n,r⟩ g=>⟨xs,(g.keep _ _ q n).1,(g.keep _ _ q n).2,Reps.grow g _ _ r⟩
def E7 {K:W.Frag} {a:Addr} {ds:List D}:ItD K (Itt K a) ds (λH O=>∃ xs,SqT K H a xs /\ Reps K H O ds xs) where
 go:=λH O i d ⟨xs,q,r⟩ e=>by
  obtain ⟨v,ev,rv⟩:=r.get e
  refine ⟨⟨xs,v,q,ev⟩,λx H' y=>?_⟩
  obtain ⟨e1,y⟩:=y
  subst e1
  have:=y xs q
  rw [ev] at this
  cases this
  exact ⟨Same.refl _,rv⟩
 stop:=λH O ⟨xs,q,r⟩=>⟨xs,q,by rw [r.length]; exact zaj _⟩
 keep:=λO O' H H' ⟨xs,q,r⟩ g=>⟨xs,dw g q,Reps.grow g _ _ r⟩
def E9 {K:W.Frag} {a:Addr} {ns:List Int}:ItD K (Itl K a) (ns.map D.int) (λH _=>Scr K H a ns) where
 go:=λH O i d q e=>by
  rw [zai] at e
  cases en:ns[i]? with
  | none=>rw [en] at e; cases e
  | some n =>
   rw [en] at e
   cases e
   have ev:(ns.map V.int)[i]?=some (.int n):=by rw [zai,en]; rfl
   refine ⟨⟨_,_,q.seq,ev⟩,λx H' y=>?_⟩
   obtain ⟨e1,y⟩:=y
   subst e1
   have:=y _ q.seq
   rw [ev] at this
   cases this
   exact ⟨Same.refl _,rfl⟩
 stop:=λH O q=>⟨_,q.seq,by rw [zLm,zLm]; exact zaj _⟩
 keep:=λO O' H H' q g=>kj g q
def E8 {K:W.Frag} {z:Str}:ItD K (Itv z.cps.size (Jv z)) (z.cps.toList.map λc=>D.str ⟨#[c]⟩) (λ_ _=>True) where
 go:=λH O i d _ e=>by
  rw [zai] at e
  cases en:z.cps.toList[i]? with
  | none=>rw [en] at e; cases e
  | some n =>
   rw [en] at e
   cases e
   have hl:=(zag.mp en).1
   refine ⟨(show i < z.cps.size by simpa using hl),λx H' y=>?_⟩
   obtain ⟨e1,c,hc,ex⟩:=y
   subst e1 ex
   have:z.cps.toList[i]?=some c:=by rw [Array.getElem?_toList]; exact hc
   rw [en] at this
   cases this
   exact ⟨Same.refl _,rfl⟩
 stop:=λH O _=>by show _=_; simp
 keep:=λ_ _ _ _ _ _=>trivial
def rngD (lo:Int) (n:Nat):List D:=(List.range n).map λ(i:Nat)=>D.int (lo + (i:Int))
def Ea {K:W.Frag} {lo:Int} {n:Nat}:ItD K (Itr lo n) (rngD lo n) (λ_ _=>True) where
 go:=λH O i d _ e=>by
  unfold rngD at e
  rw [zai] at e
  cases en:(List.range n)[i]? with
  | none=>rw [en] at e; cases e
  | some m =>
   rw [en] at e
   cases e
   have hl:=(zag.mp en).1
   rw [List.length_range] at hl
   have:m=i:=by
    rw [List.getElem?_range hl] at en
    exact (Option.some.inj en).symm
   subst this
   refine ⟨hl,λx H' y=>?_⟩
   obtain ⟨e1,ex⟩:=y
   subst e1 ex
   exact ⟨Same.refl _,rfl⟩
 stop:=λH O _=>by show n <= _; unfold rngD; simp
 keep:=λ_ _ _ _ _ _=>trivial
def PV.or {r r':V->Hp->(It->Hp->Prop)->Prop} (h:PV X tg r) (h':PV X tg r'):PV X tg (λx H R=>r x H R \/ r' x H R):=λpn s σ H x v R I rx q=>q.elim (h pn s σ H x v R I rx) (h' pn s σ H x v R I rx)
def v7 (he:ED Γ X e te):EI Γ X tg e (iSeq te):=λH₀=>impI (D9 (he H₀) (K2.or (Gj.or Gk))) λσ H R q=>by
 obtain ⟨ρ,o,RE,φ,hφ,k⟩:=q
 refine ⟨ρ,o,RE,_,hφ,λv r H1 s1 rv h1=>?_⟩
 obtain ⟨h0,h1⟩:=h1
 have rp:=rv.solid (vv h0)
 obtain ⟨kd,d⟩:=r
 cases d with
 | lst ds =>
  obtain ⟨a,xs,rfl,q,n,r⟩:=rp
  exact .inl ⟨a,rfl,⟨xs,SqL.of q⟩,k _ _ _ H1 s1 Eb ⟨xs,q,n,r⟩ h1⟩
 | tup ds =>
  obtain ⟨a,xs,rfl,q,r⟩:=rp
  exact .inr (.inl ⟨a,rfl,⟨xs,q.1⟩,k _ _ _ H1 s1 E7 ⟨xs,q.1,r⟩ h1⟩)
 | scr ns =>
  obtain ⟨a,rfl,q⟩:=rp
  exact .inl ⟨a,rfl,⟨_,q.seq⟩,k _ _ _ H1 s1 E9 q h1⟩
 | str z =>
  cases (show v=_ from rp)
  exact .inr (.inr ⟨z,rfl,k _ _ _ H1 s1 E8 trivial h1⟩)
 | _=>exact h1.elim
def iR1 (t:TDs):TID:=λρ φ=>t ρ λrs=>match rs with
 | [⟨_,.int j⟩]=>-(2 ^ 62) <= j /\ j < 2 ^ 62 /\ φ (rngD 0 j.toNat)
 | _=>False
def we {a:Expr} {p:Pos} (hm:X.mg "range" = none) (ha:EA Γ X [a] t) (hg:Gl X "range":=by rfl) (hs:starEach [a] X.env=[(false,eval a X.env)]:=by rfl):EI Γ X tg (.Call (.Name "range" p) [a] [] pos) (iR1 t):=λH₀=>impI (Zo hg hm (ha H₀) hs) λσ H R q=>by
 obtain ⟨ρ,o,RE,φ,hφ,k⟩:=q
 refine ⟨ρ,o,RE,_,hφ,λvs rs H1 s1 rvs h1=>?_⟩
 split at h1
 ·rename_i kd j
  obtain ⟨v,ws,rfl,rv,rfl⟩:=rvs
  cases (show v=_ from rv.view)
  exact ⟨j,rfl,h1.1,h1.2.1,k _ _ _ H1 s1 Ea trivial h1.2.2⟩
 ·exact h1.elim
end
section
variable {scope:Scope} {T F:List Str} {js:List Nat} {tg iter elt:Expr} {ifs:List Expr} {ti:TID} {g2:TG} {g:TGD} {tc:TDb} {te:TD}
def ρ0 (n:Nat) (js:List Nat) (ρ:DE):DE:=List.replicate n none ++ js.map λj=>slot ρ j
def ixO (n:Nat) (js:List Nat) (j:Nat):Nat:=if j ∈ js then n + js.idxOf j else n + js.length + 1 + j
def fi {K:W.Frag} {H₀ H H':Hp} {σ:St} {ρ:DE} {o:List (Nat × Addr)} {n:Nat} {js:List Nat} {D:Addr} {ys:List V} (R:REnv K H₀ H σ ρ o) (nd:js.Nodup) (hD:H D=none) (s:Same H H') (hD':H' D=some (.lst ys)) (Tn:List Str) (hT:Tn.length=n) :
  REnv K H₀ H' (st0 Tn js σ) (ρ0 n js ρ) ((n + js.length,D) :: o.map λp=>(ixO n js p.1,p.2)):=by
 have hO:((n + js.length,D) :: o.map λp=>(ixO n js p.1,p.2)).map Prod.snd=D :: o.map Prod.snd:=by
  rw [List.map_cons,List.map_map]
  rfl
 have g:Grow (o.map Prod.snd) (D :: o.map Prod.snd) H H':=⟨λb u h nb=>⟨s b u h,λz=>(zam.mp z).elim (λe=>zr h hD e) nb⟩,λb xs h=>s b _ h,λb ob u h=>s b _ h⟩
 have R':=R.to s
 exact {
  same:=R'.same
  fresh:=λp hp=>by
   rcases zam.mp hp with rfl | hp
   ·exact R.same.free hD
   ·obtain ⟨q,hq,rfl⟩:=zah.mp hp
    exact R.fresh q hq
  trk:=λp hp=>by
   rcases zam.mp hp with rfl | hp
   ·exact ⟨_,hD'⟩
   ·obtain ⟨q,hq,rfl⟩:=zah.mp hp
    exact R'.trk q hq
  mtb:=λp hp=>by
   rcases zam.mp hp with rfl | hp
   ·exact ⟨(λxs z=>by rw [hD'] at z; cases z),(λob u z=>by rw [hD'] at z; cases z)⟩
   ·obtain ⟨q,hq,rfl⟩:=zah.mp hp
    exact R'.mtb q hq
  nda:=by
   rw [hO,List.nodup_cons]
   exact ⟨R.ofree hD,R.nda⟩
  len:=by
   unfold st0 ρ0
   simp [hT]
  slots:=λi r e=>by
   rw [hO]
   unfold ρ0 at e
   have hi:n <= i:=by
    rcases Nat.lt_or_ge i n with z | z
    ·rw [List.getElem?_append_left (by simpa using z),List.getElem?_replicate] at e
     split at e <;> cases e
    ·exact z
   rw [List.getElem?_append_right (by simpa using hi),List.length_replicate,zai] at e
   cases ej:js[i - n]? with
   | none=>rw [ej] at e; cases e
   | some j =>
    rw [ej] at e
    have e':slot ρ j=some r:=Option.some.inj e
    obtain ⟨v,ev,q⟩:=R.slots j r (yo e')
    refine ⟨v,?_,?_⟩
    ·unfold st0
     rw [List.getElem?_append_right (by simpa [hT] using hi),List.length_replicate,zai,hT,ej]
     show some ((σ[j]?).join)=_
     rw [ev]
     rfl
    ·rcases q with ⟨k,q⟩ | ⟨k,a,e1,m,c⟩
     ·exact .inl ⟨k,Rep.grow g _ _ q⟩
     ·refine .inr ⟨k,a,e1,zal _ (zah.mpr ⟨_,m,?_⟩),c.grow (λu q=>s _ _ q) g⟩
      have hmem:j ∈ js:=zan ej
      have hidx:js.idxOf j=i - n:=by
       have h1:=(zag.mp ej)
       have h2:=List.getElem_idxOf (List.idxOf_lt_length_iff.mpr hmem)
       exact (List.getElem_inj nd).mp (h2.trans h1.2.symm)
      show (ixO n js j,a)=(i,a)
      unfold ixO
      rw [if_pos hmem,hidx]
      congr 1
      omega }
def bYes:TDb:=λ_ φ=>φ true
def N1 (ti:TID) (n:Nat) (js:List Nat) (g:TGD) (tc:TDb) (te:TD):TD:=λρ φ=>ti ρ λds=>∃ f:D->Option D,ds.length <= 100000 /\
 (∀ d ∈ ds,g d (ρ0 n js ρ) λρ'=>tc ρ' λc=>(c=true->te ρ' λr=>(match r.k with | .own=>False | _=>True) /\ f d=some r.d) /\ (c=false->f d=none)) /\ φ (df (.lst (ds.filterMap f)))
def EIf (G:Hp->Prop) (X:Cx) (ifs:List Expr) (t:TDb):Prop:=∀ H₀:{H:Hp // G H},PIf X ifs (Zt X.K H₀.1 t)
def xy:EIf Γ X [] bYes:=λH₀ pn s σ H Q I h=>by
 obtain ⟨ρ,o,R,φ,hφ,k⟩:=h
 exact K9 pn s σ H Q I (k true H (Same.refl H) hφ)
def Rr {c:Expr} (h:ET Γ X c tc):EIf Γ X [c] tc:=λH₀=>K8 (h H₀)
def Zs {H₀:Hp} (nd:js.Nodup) (hl:gp X.K g2 g):∀ σ H Q,qq X.K H₀ (N1 ti T.length js g tc te) σ H Q->Qy (Kv X.K H₀ ti) T js g2 (Zt X.K H₀ tc) (qq X.K H₀ te) σ H Q:=λσ H Q q=>by
  obtain ⟨ρ,o,R,φ,hφ,k⟩:=q
  refine ⟨ρ,o,R,_,hφ,λJ ds P H1 s1 I hP ⟨f,hlen,turn,fin⟩ Da hDa=>?_⟩
  have R1:=R.to s1
  have gD:∀ {H':Hp},Same H1 H'->Grow (o.map Prod.snd) (Da :: o.map Prod.snd) H1 H':=λs=>⟨λb u h nb=>⟨s b u h,λz=>(zam.mp z).elim (λe=>zr h hDa e) nb⟩,λb xs h=>s b _ h,λb ob u h=>s b _ h⟩
  refine ⟨λi m ys H'=>m=ds.length - i /\ i <= ds.length /\ Same H1 H' /\ H' Da=some (.lst ys) /\ Reps X.K H' (Da :: o.map Prod.snd) ((ds.take i).filterMap f) ys,
   ⟨_,rfl,Nat.zero_le _,yc hDa _,zy,rfl⟩,?_⟩
  rintro i m ys H' ⟨rfl,hi',s2,hD',rp⟩
  refine ⟨hD',?_⟩
  have hP':=I.keep _ _ _ _ hP (gD s2)
  by_cases hlt:i < ds.length
  ·have ed:ds[i]?=some ds[i]:=by simp [hlt]
   obtain ⟨j1,j2⟩:=I.go H' _ i _ hP' ed
   refine .inr ⟨j1,λzs H2=>Same H1 H2 /\ H2 Da=some (.lst zs) /\ Reps X.K H2 (Da :: o.map Prod.snd) ((ds.take (i + 1)).filterMap f) zs,λzs H2 ⟨a1,a2,a3⟩=>⟨_,(by omega:ds.length - (i + 1) < ds.length - i),rfl,hlt,a1,a2,a3⟩,λx H2 y=>?_⟩
   obtain ⟨s3,rx⟩:=j2 x H2 y
   have s13:=s2.trans s3
   have hD2:=s3 _ _ hD'
   have RB:=fi (n:=T.length) R1 nd hDa s13 hD2 T rfl
   have hO:((T.length + js.length,Da) :: o.map λp=>(ixO T.length js p.1,p.2)).map Prod.snd=Da :: o.map Prod.snd:=by
    rw [List.map_cons,List.map_map]
    rfl
   have tk:(ds.take (i + 1)).filterMap f=(ds.take i).filterMap f ++ (f ds[i]).toList:=by
    rw [List.take_succ,ed,List.filterMap_append]
    cases e:f ds[i] <;> simp [e]
   have rpl:ys.length <= 100000:=by
    rw [rp.length]
    refine zak (List.length_filterMap_le _ _) ?_
    rw [List.length_take]
    omega
   refine hl H₀ H2 (st0 T js σ) (ρ0 T.length js ρ) _ _ x _ _ RB (by rw [hO]; exact rx) (turn _ (List.getElem_mem hlt)) λρ' σ' R' q'=>?_
   refine ⟨ρ',_,R',_,q',λc H3 s4 h4=>?_⟩
   have hD3:=s4 _ _ hD2
   cases c with
   | false =>
    refine iteF ⟨s13.trans s4,hD3,?_⟩
    rw [tk,h4.2 rfl]
    simpa using Reps.grow (Grow.same (s3.trans s4)) _ _ rp
   | true =>
    refine iteT ⟨ρ',_,R'.to s4,_,h4.1 rfl,λv r H4 s5 rv h5=>?_⟩
    have hD4:=s5 _ _ hD3
    have rd:=rv.solid (vv h5.1)
    rw [hO] at rd
    have ne:∀ b u,H1 b=some u->b ≠ Da:=λb u h=>zr h hDa
    have gu:Grow (Da :: o.map Prod.snd) (Da :: o.map Prod.snd) H4 (upd H4 Da (.lst (ys ++ [v]))) :=
     ⟨λb u h n=>⟨by rw [y7 (λz=>n (zam.mpr (.inl z)))]; exact h,n⟩,λb xs h=>by rw [y7 (λz=>by rw [z,hD4] at h; cases h)]; exact h,λb ob u h=>by rw [y7 (λz=>by rw [z,hD4] at h; cases h)]; exact h⟩
    refine ⟨hD4,Nat.lt_of_le_of_lt rpl (by decide),⟨λb u h=>?_,zy,?_⟩⟩
    ·rw [y7 (ne b u h)]
     exact s5 _ _ (s4 _ _ (s13 b u h))
    ·rw [tk,h5.2]
     exact Reps.grow gu _ _ ((Reps.grow (Grow.same (s3.trans (s4.trans s5))) _ _ rp).append (Reps.one rd))
  ·have e:i=ds.length:=by omega
   subst e
   rw [List.take_length] at rp
   refine .inl ⟨I.stop H' _ hP',?_⟩
   exact k (.ref Da) (df (.lst (ds.filterMap f))) H' (s1.trans s2) ⟨Da,rfl,s1.free hDa,R.ofree (s1.free hDa),ys,hD',rp⟩ fin
def wf (hi:EI Γ X tg iter ti) (S:y9 X.env.scope scope T F) (hjs:Paired (λx j=>X.N[j]?=some x) F js) (nd:js.Nodup)
  (hg:∀ cl C fp s H,PG (yz X (T ++ F) scope cl C fp s H) tg g2) (hk:Z6 T.length g2) (hl:gp X.K g2 g)
  (ht:∀ cl C fp s H,EIf Γ (yz X (T ++ F) scope cl C fp s H) ifs tc) (he:∀ cl C fp s H,ED Γ (yz X (T ++ F) scope cl C fp s H) elt te)
  (hc:X.calm=true:=by rfl) (hs:∀ x,foldedSetIterable iter X.env x=pure x:=by intro _; rfl):ED Γ X (.ListComp elt [⟨tg,iter,ifs,0⟩] scope pos) (N1 ti T.length js g tc te):=λH₀ =>
 impE (S9 (tc:=Zt X.K H₀.1 tc) (te:=qq X.K H₀.1 te) hc (hi H₀) S hjs hg hk (λcl C fp s H=>ht cl C fp s H H₀) (λcl C fp s H=>he cl C fp s H H₀) hs) (Zs nd hl)
def qe (i:Nat) {y:Str} {py spos:Pos} (hN:X.N.Nodup) (hi:EI Γ X tg iter ti) (S:y9 X.env.scope scope T F) (hjs:Paired (λx j=>X.N[j]?=some x) F js) (nd:js.Nodup)
  (hg:∀ cl C fp s H,PG (yz X (T ++ F) scope cl C fp s H) tg g2) (hk:Z6 T.length g2) (hl:gp X.K g2 g)
  (ht:∀ cl C fp s H,EIf Γ (yz X (T ++ F) scope cl C fp s H) ifs tc) (he:∀ cl C fp s H,ED Γ (yz X (T ++ F) scope cl C fp s H) elt te)
  (hc:X.calm=true:=by rfl) (hs:∀ x,foldedSetIterable iter X.env x=pure x:=by intro _; rfl) (hy:X.N[i]?=some y:=by rfl) (hlo:X.env.scope.names.lookup y=some .local:=by rfl) (hsw:swapsWith (.ListComp elt [⟨tg,iter,ifs,0⟩] scope pos) (some (.Name y py)) spos.line X.env=pure true:=by rfl):SD Γ X (.Assign [.Name y py] (.ListComp elt [⟨tg,iter,ifs,0⟩] scope pos) spos) (sSet i (N1 ti T.length js g tc te)):=λH₀ =>
 impS (U0 (tc:=Zt X.K H₀.1 tc) (te:=qq X.K H₀.1 te) hc hN hy (.inl hlo) (hi H₀) S hjs hg hk (λcl C fp s H=>ht cl C fp s H H₀) (λcl C fp s H=>he cl C fp s H H₀) hsw hs (.inr hlo)) λD σ H h=>by
  obtain ⟨ρ,o,R,Z,hZ,k1,k2,k3,k4⟩:=h
  refine Zs nd hl σ H _ ⟨ρ,o,R,_,hZ,λv r H1 s1 rv h1=>?_⟩
  obtain ⟨o',R',g'⟩:=R.put s1 i rv (vv h1.1)
  exact k1 _ _ H1 o' g' R' h1.2
end
section
variable {x:Str} {es:List Expr} {t:TDs} {p:Pos}
structure Kit (K:W.Frag):Prop where
 ne:∀ q ∈ ([("NoneType", "int"),("NoneType", "bool"),("NoneType", "str"),("NoneType", "tuple"),("NoneType", "list"),("NoneType", "dict"),("bool", "str"),("bool", "tuple"),("bool", "list"),("bool", "dict"),
  ("int", "bool"),("int", "str"),("int", "tuple"),("int", "list"),("int", "dict"),("str", "int"),("str", "bool"),("str", "tuple"),("str", "list"),("str", "dict"),
  ("tuple", "int"),("tuple", "bool"),("tuple", "str"),("tuple", "list"),("tuple", "dict"),("list", "int"),("list", "bool"),("list", "str"),("list", "tuple"),("list", "dict"),
  ("dict", "int"),("dict", "bool"),("dict", "str"),("dict", "tuple"),("dict", "list")]:List (String × String)),W.kitOne K (.type q.1) (.type q.2)=some false
 bi:W.kitOne K (.type "bool") (.type "int")=some true
def Sw {K:W.Frag}:Kit K:=by
 constructor
 ·intro q hq
  simp only [zam,List.not_mem_nil,or_false] at hq
  rcases hq with rfl | rfl | rfl | rfl | rfl | rfl | rfl | rfl | rfl | rfl | rfl | rfl | rfl | rfl | rfl | rfl | rfl | rfl | rfl | rfl | rfl | rfl | rfl | rfl | rfl | rfl | rfl | rfl | rfl | rfl | rfl | rfl | rfl | rfl | rfl <;> kernel_rfl
 ·kernel_rfl
def O5 {K:W.Frag} {T:String}:W.kitOne K (.type T) (.type T)=some true:=by
 unfold W.kitOne
 rw [if_pos (by simp)]
def jy:bootBuiltins "int" = some (.type "int"):=by decide +kernel
def u7:bootBuiltins "bool" = some (.type "bool"):=by decide +kernel
def xt:bootBuiltins "tuple" = some (.type "tuple"):=by decide +kernel
def t8:bootBuiltins "list" = some (.type "list"):=by decide +kernel
def boot_dict':bootBuiltins "dict" = some (.type "dict"):=by decide +kernel
def kh:bootBuiltins "isinstance" = some (.builtin "isinstance"):=by decide +kernel
def Fx {K:W.Frag} (a T:String) (h:(a,T) ∈ ([("NoneType", "int"),("NoneType", "bool"),("NoneType", "str"),("NoneType", "tuple"),("NoneType", "list"),("NoneType", "dict"),("bool", "str"),("bool", "tuple"),("bool", "list"),("bool", "dict"),
  ("int", "bool"),("int", "str"),("int", "tuple"),("int", "list"),("int", "dict"),("str", "int"),("str", "bool"),("str", "tuple"),("str", "list"),("str", "dict"),
  ("tuple", "int"),("tuple", "bool"),("tuple", "str"),("tuple", "list"),("tuple", "dict"),("list", "int"),("list", "bool"),("list", "str"),("list", "tuple"),("list", "dict"),
  ("dict", "int"),("dict", "bool"),("dict", "str"),("dict", "tuple"),("dict", "list")]:List (String × String))):W.kitOne K (.type a) (.type T)=some false:=Sw.ne (a,T) h
def Nc:D->String
 | .non=>"NoneType"
 | .bl _=>"bool"
 | .int _=>"int"
 | .str _=>"str"
 | .tup _=>"tuple"
 | .lst _=>"list"
 | .dk _ _=>"dict"
 | .ty _=>"type"
 | .scr _=>"list"
 | .ob _ _ _=>"exc"
def O6:List (String × String):=[("NoneType", "int"),("NoneType", "bool"),("NoneType", "str"),("NoneType", "tuple"),("NoneType", "list"),("NoneType", "dict"),("bool", "str"),("bool", "tuple"),("bool", "list"),("bool", "dict"),
  ("int", "bool"),("int", "str"),("int", "tuple"),("int", "list"),("int", "dict"),("str", "int"),("str", "bool"),("str", "tuple"),("str", "list"),("str", "dict"),
  ("tuple", "int"),("tuple", "bool"),("tuple", "str"),("tuple", "list"),("tuple", "dict"),("list", "int"),("list", "bool"),("list", "str"),("list", "tuple"),("list", "dict"),
  ("dict", "int"),("dict", "bool"),("dict", "str"),("dict", "tuple"),("dict", "list")]
def isN (a T:String):Option Bool:=if a=T then some true else if a = "bool" /\ T = "int" then some true else if (a,T) ∈ O6 then some false else none
def isT (d:D) (T:String):Option Bool:=match d with
 | .ty _=>none
 | .scr _=>none
 | .ob _ _ _=>none
 | d=>isN (Nc d) T
def J5 {K:W.Frag} {a T:String} {b:Bool} (h:isN a T=some b):W.kitOne K (.type a) (.type T)=some b:=by
 unfold isN at h
 split at h
 ·rename_i q
  cases h
  subst q
  exact O5
 ·split at h
  ·rename_i q
   cases h
   obtain ⟨rfl,rfl⟩:=q
   exact Sw.bi
  ·split at h
   ·rename_i q
    cases h
    exact Fx a T q
   ·cases h
def J4 {K:W.Frag} {d:D} {T:String} {b:Bool} (h:isT d T=some b):W.kitOne K (.type (Nc d)) (.type T)=some b:=by
 cases d with
 | ty _=>cases h
 | scr _=>cases h
 | ob _ _ _=>cases h
 | _=>exact J5 h
def Xj:isT .non "int" = some false:=(by decide:isN "NoneType" "int" = some false)
def Y0:isT .non "bool" = some false:=(by decide:isN "NoneType" "bool" = some false)
def cx:isT .non "tuple" = some false:=(by decide:isN "NoneType" "tuple" = some false)
def Ue (b:Bool):isT (.bl b) "int" = some true:=(by decide:isN "bool" "int" = some true)
def Xp (b:Bool):isT (.bl b) "bool" = some true:=(by decide:isN "bool" "bool" = some true)
def Y5 (b:Bool):isT (.bl b) "tuple" = some false:=(by decide:isN "bool" "tuple" = some false)
def Xm (i:Int):isT (.int i) "int" = some true:=(by decide:isN "int" "int" = some true)
def Y3 (i:Int):isT (.int i) "bool" = some false:=(by decide:isN "int" "bool" = some false)
def Xl (i:Int):isT (.int i) "str" = some false:=(by decide:isN "int" "str" = some false)
def cz (i:Int):isT (.int i) "tuple" = some false:=(by decide:isN "int" "tuple" = some false)
def Xi (x:Str):isT (.str x) "int" = some false:=(by decide:isN "str" "int" = some false)
def Zz (x:Str):isT (.str x) "bool" = some false:=(by decide:isN "str" "bool" = some false)
def Xh (x:Str):isT (.str x) "str" = some true:=(by decide:isN "str" "str" = some true)
def cw (x:Str):isT (.str x) "tuple" = some false:=(by decide:isN "str" "tuple" = some false)
def Xg (l:List D):isT (.tup l) "int" = some false:=(by decide:isN "tuple" "int" = some false)
def Zy (l:List D):isT (.tup l) "bool" = some false:=(by decide:isN "tuple" "bool" = some false)
def cv (l:List D):isT (.tup l) "tuple" = some true:=(by decide:isN "tuple" "tuple" = some true)
def Zx (l:List D):isT (.tup l) "list" = some false:=(by decide:isN "tuple" "list" = some false)
def Xk (l:List D):isT (.lst l) "int" = some false:=(by decide:isN "list" "int" = some false)
def Y2 (l:List D):isT (.lst l) "bool" = some false:=(by decide:isN "list" "bool" = some false)
def cy (l:List D):isT (.lst l) "tuple" = some false:=(by decide:isN "list" "tuple" = some false)
def Y1 (l:List D):isT (.lst l) "list" = some true:=(by decide:isN "list" "list" = some true)
def Ud (k:List Key) (l:List D):isT (.dk k l) "int" = some false:=(by decide:isN "dict" "int" = some false)
def Xo (k:List Key) (l:List D):isT (.dk k l) "bool" = some false:=(by decide:isN "dict" "bool" = some false)
def Y4 (k:List Key) (l:List D):isT (.dk k l) "tuple" = some false:=(by decide:isN "dict" "tuple" = some false)
def Xn (k:List Key) (l:List D):isT (.dk k l) "dict" = some true:=(by decide:isN "dict" "dict" = some true)
def N4:uv X (.builtin "isinstance") (λxs H Q=>∃ d x T b,xs=[x,.ty T] /\ Rep X.K H [] d x /\ isT d T=some b /\ Q (.bl b) H):=by
 intro pn s σ H xs us Q I r h
 obtain ⟨d,x,T,b,rfl,rp,e,q⟩:=h
 obtain ⟨u,v,rfl,ru,rv⟩:=Qm r
 cases rv
 have ek:=J4 (K:=X.K) e
 have fin:∀ tk,EP X pn σ Q (.bool b) { s with toks:=tk }:=λtk=>⟨.bl b,H,I.tok tk,rfl,q⟩
 cases d with
 | non=>cases (show x=_ from rp); exact u0 I ru .non ek fin
 | bl c=>cases (show x=_ from rp); exact u0 I ru (.bl c) ek fin
 | int c=>cases (show x=_ from rp); exact u0 I ru (.int c) ek fin
 | str c=>cases (show x=_ from rp); exact u0 I ru (.str c) ek fin
 | ty _=>cases e
 | scr _=>cases e
 | ob _ _ _=>cases e
 | lst ds=>obtain ⟨a,xs,rfl,q1,_⟩:=rp; exact u0 I ru (.lst q1) ek fin
 | dk ks ds=>obtain ⟨a,xs,rfl,q1,_⟩:=rp; exact u0 I ru (.dK q1) ek fin
 | tup ds =>
  obtain ⟨a,xs,rfl,q1,_⟩:=rp
  cases (show u=Value.ref a from ru)
  obtain ⟨its,_,p,_⟩:=I.tuple q1.1
  obtain ⟨o,h1,h2,_⟩:=p
  exact W.kia_one W.kitx_tuple I.kIn ⟨o,h1,h2⟩ ek (λz=>nomatch z) fin
def sIsI:FT:=λds φ=>match ds with
 | [d,.ty T]=>match isT d T with
  | some b=>φ (dv (.bl b))
  | none=>False
 | _=>False
def ym (hm:X.mg "isinstance" = none) (ha:EA Γ X (e :: es) t) (hg:Gl X "isinstance":=by rfl) (he:starEach (e :: es) X.env=(false,eval e X.env) :: starEach es X.env:=by rfl) (hpl:(backTo pos (starEach es X.env)).any (·.1)=false:=by rfl):ED Γ X (.Call (.Name "isinstance" p) (e :: es) [] pos) (dCB sIsI t) :=
 kn N4 (λH O ds vs φ Q ho hv h k=>by
  unfold sIsI at h
  split at h
  ·split at h
   ·rename_i d T b eb
    obtain ⟨v,ws,rfl,h1,v2,ws2,rfl,h2,rfl⟩:=hv
    cases (show v2=_ from h2)
    exact ⟨_,v,_,_,rfl,h1.rep0,eb,k _ _ H (Same.refl H) (by exact rfl) h⟩
   ·exact h.elim
  ·exact h.elim) hm kh ha hg (by decide) (by decide) he hpl
def sTupC:FT:=λds φ=>match ds with
 | [.lst l]=>φ (dv (.tup l))
 | [.tup l]=>φ (dv (.tup l))
 | _=>False
def rj (hm:X.mg "tuple" = none) (ha:EA Γ X (e :: es) t) (hg:Gl X "tuple":=by rfl) (he:starEach (e :: es) X.env=(false,eval e X.env) :: starEach es X.env:=by rfl) (hpl:(backTo pos (starEach es X.env)).any (·.1)=false:=by rfl):ED Γ X (.Call (.Name "tuple" p) (e :: es) [] pos) (dCB sTupC t) :=
 rm Z1 (λH O ds vs φ Q ho hv h k=>by
  unfold sTupC at h
  split at h
  ·obtain ⟨v,ws,rfl,⟨a,xs,rfl,q,r⟩,rfl⟩:=hv
   exact ⟨a,xs,rfl,.inl ⟨SqL.of q,λl hl=>k _ _ _ (yc hl _) (Wo hl r) h⟩⟩
  ·obtain ⟨v,ws,rfl,⟨a,xs,rfl,q,r⟩,rfl⟩:=hv
   exact ⟨a,xs,rfl,.inr ⟨q.1,k (.ref a) (dv (.tup _)) H (Same.refl H) ⟨a,xs,rfl,q,r⟩ h⟩⟩
  ·exact h.elim) hm xt ha hg (by decide) (by decide) he hpl
def sListC:FT:=λds φ=>match ds with
 | [.lst l]=>φ (df (.lst l))
 | [.tup l]=>φ (df (.lst l))
 | _=>False
def Ou (hm:X.mg "list" = none) (ha:EA Γ X (e :: es) t) (hg:Gl X "list":=by rfl) (he:starEach (e :: es) X.env=(false,eval e X.env) :: starEach es X.env:=by rfl) (hpl:(backTo pos (starEach es X.env)).any (·.1)=false:=by rfl):ED Γ X (.Call (.Name "list" p) (e :: es) [] pos) (dCB sListC t) :=
 rm Yn (λH O ds vs φ Q ho hv h k=>by
  unfold sListC at h
  split at h
  ·obtain ⟨v,ws,rfl,⟨a,xs,rfl,q,r⟩,rfl⟩:=hv
   exact ⟨a,xs,rfl,.inl (SqL.of q),λl hl=>k _ _ _ (yc hl _) (j4 ho hl r) h⟩
  ·obtain ⟨v,ws,rfl,⟨a,xs,rfl,q,r⟩,rfl⟩:=hv
   exact ⟨a,xs,rfl,.inr q.1,λl hl=>k _ _ _ (yc hl _) (j4 ho hl r) h⟩
  ·exact h.elim) hm t8 ha hg (by decide) (by decide) he hpl
def sIntC:FT:=λds φ=>match ds with
 | [.bl b]=>φ (dv (.int (if b then 1 else 0)))
 | [.int i]=>φ (dv (.int i))
 | _=>False
def ju (hm:X.mg "int" = none) (ha:EA Γ X (e :: es) t) (hg:Gl X "int":=by rfl) (he:starEach (e :: es) X.env=(false,eval e X.env) :: starEach es X.env:=by rfl) (hpl:(backTo pos (starEach es X.env)).any (·.1)=false:=by rfl):ED Γ X (.Call (.Name "int" p) (e :: es) [] pos) (dCB sIntC t) :=
 rm Qc (λH O ds vs φ Q ho hv h k=>by
  unfold sIntC at h
  split at h
  ·obtain ⟨v,ws,rfl,h1,rfl⟩:=hv
   cases (show v=_ from h1)
   exact .inr ⟨_,rfl,k _ _ H (Same.refl H) (by exact rfl) h⟩
  ·obtain ⟨v,ws,rfl,h1,rfl⟩:=hv
   cases (show v=_ from h1)
   exact .inl ⟨_,rfl,k _ _ H (Same.refl H) (by exact rfl) h⟩
  ·exact h.elim) hm jy ha hg (by decide) (by decide) he hpl
end
variable {x:Str} {te:TD} {apos np cpos:Pos}
def sApp (i:Nat) (te:TD):TDS:=λρ Z=>match slot ρ i with
 | some ⟨.own,.lst ds⟩=>te ρ λr=>(match r.k with | .own=>False | _=>True) /\ ds.length <= 100000 /\ Z.nx (setS ρ i (dO (.lst (ds ++ [r.d]))))
 | _=>False
def j3 (i:Nat) (he:ED Γ X e te) (hN:X.N[i]?=some x:=by rfl) (hv:Vis X.env.scope x:=by walk_at "o") (hd:(x == ("__debug__" : Str))=false:=by decide)
  (hcd:(x == ("__classdict__" : Str))=false:=by decide)
  (hp:∀ {ta tb:TE},PE X (.Name x np) ta->PE X e tb->PS X (.Expr (.Call (.Attribute (.Name x np) "append" apos) [e] [] cpos) pos) (dt (tBM X.K "list" j8 ta (X1 tb tNil))):=by
   intro ta tb h1 h2
   exact ww (X8 PySem.F.plainAttrs_list PySem.F.slot_list_append PySem.F.type_list_append ul h1 (yx h2 vi))) :
  SD Γ X (.Expr (.Call (.Attribute (.Name x np) "append" apos) [e] [] cpos) pos) (sApp i te):=λH₀=>impS (hp (wq hN hv hd hcd) (he H₀)) λD σ H h=>by
 obtain ⟨ρ,o,R,Z,hZ,k1,k2,k3,k4⟩:=h
 unfold sApp at hZ
 split at hZ
 ·rename_i ds es
  obtain ⟨v0,ev0,q0⟩:=R.slots i _ (yo es)
  rcases q0 with ⟨k,_⟩ | ⟨_,a,rfl,m,c⟩
  ·cases k
  obtain ⟨xs,hx,rx⟩:=c
  refine ⟨.ref a,ev0,.inl ⟨rfl,xs,SqL.of hx⟩,?_⟩
  refine ⟨ρ,o,R,_,hZ,λv r H1 s1 rv h1=>?_⟩
  obtain ⟨h0,hl,hn⟩:=h1
  have hx1:=s1 _ _ hx
  have R1:=R.to s1
  have rx1:=Reps.grow (Grow.same s1) _ _ rx
  refine ⟨a,xs,v,rfl,rfl,hx1,?_,?_⟩
  ·rw [rx.length]
   exact Nat.lt_of_le_of_lt hl (by decide)
  ·obtain ⟨R2,g2⟩:=R1.chg (d':=.lst (ds ++ [r.d])) (ho:=.lst (xs ++ [v])) (yo es) ev0 m ⟨λ_ z=>(by cases z),λ_ _ z=>(by cases z)⟩ λgr=>⟨xs ++ [v],zy,gr _ _ (rx1.append (Reps.one (rv.solid (vv h0))))⟩
   exact k1 _ σ _ o ((Grow.same s1).trans g2) R2 hn
 ·exact hZ.elim
def wc (n:Nat) (ds:List D):DE:=ds.map (λd=>some (dv d)) ++ List.replicate (n - ds.length) none
def Rj {x qual:Str} {st:Stmt} {f:Addr} {fd:FuncData} {N ps:List Str} {k:Nat} {T:FT} (F:Fun K x qual st f fd) (S:zw N ps (ze st))
  (qY:∀ (qZ:Value) (A:Around) (outer:List Env) (s:Shared) (H:Hp) (E:XK) (ds:List D) (φ:EV->Prop),Room k (A.deeper (envOfC qual (ze st) s.heap.objs.size f qZ))->ds.length=ps.length->T ds φ ->
   ∃ t,SDs (λ_=>True) (cxOf CX0 P w K mg base N qual (ze st) f qZ A outer s H E).nox (yq st) t /\ t (wc N.length ds) { nx:=λ_=>φ (dv .non),rt:=λr=>uc r /\ φ r }):FnOk P w K mg base CX0 (k + 1) f fd ps (spD K ps.length T):=by
 refine F.ok S (λvs H Q E h=>?_) (λqZ A outer s H vs Q E hr h=>?_)
 ·obtain ⟨ds,φ,hl,r,_⟩:=h
  rw [r.length,hl]
 ·obtain ⟨ds,φ,hl,r,hT,kk⟩:=h
  obtain ⟨t,ht,hq⟩:=qY qZ A outer s H E ds φ hr hl hT
  have rl:=r.length
  refine ⟨O0 K H t,ht ⟨H,trivial⟩,wc N.length ds,[],⟨Same.refl H,(λ_ z=>absurd z (by simp)),(λ_ z=>absurd z (by simp)),(λ_ z=>absurd z (by simp)),List.nodup_nil,λi r' e=>?_,?_⟩,_,hq,λρ' σ' H' o' g R' q=>?_,λ_ _ _ _ _ _ q=>q.elim,λ_ _ _ _ _ _ q=>q.elim,λv r' H' s' rv q=>kk v r' H' s' rv q.1 q.2⟩
  ·unfold wc at e
   rcases Nat.lt_or_ge i ds.length with hi | hi
   ·rw [List.getElem?_append_left (by simpa using hi),zai] at e
    have ed:ds[i]?=some ds[i]:=by simp [hi]
    rw [ed] at e
    have e':some (dv ds[i])=some r':=Option.some.inj e
    cases e'
    obtain ⟨v,ev,rv⟩:=r.get ed
    refine ⟨v,?_,.inl ⟨rfl,rv⟩⟩
    unfold ZZ.start
    rw [List.getElem?_append_left (by rw [zLm,rl]; exact hi),zai,ev]
    rfl
   ·rw [List.getElem?_append_right (by simpa using hi),List.getElem?_replicate] at e
    split at e <;> cases e
  ·unfold ZZ.start wc
   simp [rl]
  ·exact kk .non (dv .non) H' R'.same rfl trivial q
def ub {x qual:Str} {st:Stmt} {f:Addr} {fd:FuncData} {N ps:List Str} {k:Nat} {T:FT} (F:Fun K x qual st f fd) (S:zw N ps (ze st)) (b:Binds K fd ps []) (m:mg x=some (.ref f))
  (qY:∀ (qZ:Value) (A:Around) (outer:List Env) (s:Shared) (H:Hp) (E:XK) (ds:List D) (φ:EV->Prop),Room k (A.deeper (envOfC qual (ze st) s.heap.objs.size f qZ))->ds.length=ps.length->T ds φ ->
   ∃ t,SDs (λ_=>True) (cxOf CX0 P w K mg base N qual (ze st) f qZ A outer s H E).nox (yq st) t /\ t (wc N.length ds) { nx:=λ_=>φ (dv .non),rt:=λr=>uc r /\ φ r }):FD P w K mg base (k + 1) x ps T:=⟨f,fd,Rj F S qY,b,F.kp,m⟩
def lawT:FT:=λds φ=>∃ ns:List Int,ds=[.scr ns] /\ ns.length <= 63 /\ φ (dv (.bl true))
def walkD {l:W.OpenLaw} {q:Program} {loose:List Str} {XP:(Str->Option Value)->Heap->Prop} {YP:World->Heap->Prop} {d:DefRec} {K:Params->W.Frag} {x:Str} {k:Nat} (hn:l.most=some 63) (hdf:d.params.defaults=[]) (hr:Room k callerA)
  (hY:∀ (w:World) (h:Heap),YP w h->(K w.params).In h)
  (F:∀ (w:World) (mg:Str->Option Value) (fa:Addr) (h:Heap),(K w.params).In h->h.Ns mainGlobals mg->mg d.name=some (.ref fa) ->
   ∃ fd:FuncData,(∀ (s:Shared) (u:Value),BindsTo s fd ⟨[u],[]⟩ [(x,u)]) /\ ∀ base:Heap,(K w.params).In base->base.Ns mainGlobals mg->FnOk l.prog w (K w.params) mg base CX0 k fa fd [x] (spD (K w.params) 1 lawT)) :
  W.WalkO q loose XP YP l.row.toRowW d [] (λf vs=>PySem.call f vs) :=
 ZZ.walk_of (n:=63) (k:=k) (x:=x) (CX:=λ_=>CX0) (sp:=λw=>spD (K w.params) 1 lawT) hn (by decide) hdf hr hY F (λw H a ns hl ho hS=>by
  refine ⟨[.scr ns],λr=>r=dv (.bl true),rfl,⟨.ref a,[],rfl,⟨a,rfl,?_⟩,rfl⟩,⟨ns,rfl,hl,rfl⟩,λv r H' s rv p e=>by subst e; exact rv⟩
  rcases hS with (h | ⟨o,h⟩) | h
  ·rcases ho a with z | ⟨o,xs,z⟩
   ·rw [z] at h; cases h
   ·rw [z] at h; cases h
  ·exact .inl ⟨o,h⟩
  ·exact .inr h) λ_ _ _ _ _ z=>z
def U4 {it l:Addr} {i:Nat} {xs:Array Value} {x:Value} {Q:Value->Shared->Prop} (hi:s.heap.IsTupleIter it l i) (hl:s.heap.IsTuple l xs) (hx:xs[i]?=some x)
  (hQ:∀ g,g.IsTupleIter it l (i + 1)->Heap.SameBut it s.heap g->Q x { s with heap:=g }):wpAny (model P w) A (Builtin.SmallTypes.nextOf (.ref it)) Q E s:=by
 obtain ⟨o,ho,hc,hd⟩:=id hi
 obtain ⟨ol,hol,_,nl,hdl⟩:=hl
 unfold Builtin.SmallTypes.nextOf
 refine zaa (wpAny_callSpecial?_slot (name:=Str.ofString "__next__") hi.typeIs F.slot_tuple_iterator_next (wpAny_call_entry F.slot_tuple_iterator_next hi.typeIs F.entry_tuple_iterator_next ?_ (F.args_tuple_iterator_next_1 _)))
 show wpAny _ _ (field (.ref it) 0 >>= _) _ _ s
 refine zaa (wpAny_field ho hd (x:=.ref l) rfl ?_)
 show wpAny _ _ (if (Value.ref l == Value.none)=true then _ else _) _ _ s
 rw [if_neg (show ¬ ((Value.ref l == Value.none)=true) from Bool.false_ne_true)]
 show wpAny _ _ (field (.ref it) 1 >>= _) _ _ s
 refine zaa (wpAny_field ho hd (x:=.int i 0) rfl ?_)
 show wpAny _ _ (seqItems? (.ref l) >>= _) _ _ s
 refine zaa (wpAny_seqItems hol hdl ?_)
 simp only [Int.toNat_natCast,hx]
 refine zaa (wpAny_setField ho hd (by simp) (zab ⟨x,rfl,zab (hQ _ ⟨_,Heap.get?_update_self _ ho (Obj.isFreed_of_fields (Obj.data_mapFields hd _)),(Obj.cls_mapFields ..).trans hc,?_⟩ (Heap.SameBut.update ..))⟩))
 rw [Obj.data_mapFields hd]
 simp [rawInt]
def Sl {it l:Addr} {i:Nat} {xs:Array Value} {Q:Value->Shared->Prop} (hh:A.handled=none) (hi:s.heap.IsTupleIter it l i) (hl:s.heap.IsTuple l xs) (hx:xs[i]?=none)
  (hE:∀ g e,Heap.ExtBut it s.heap g->(∃ o,g.get? e=some o /\ o.cls=.type "StopIteration")->E (.ref e) { s with heap:=g }):wpAny (model P w) A (Builtin.SmallTypes.nextOf (.ref it)) Q E s:=by
 obtain ⟨o,ho,hc,hd⟩:=id hi
 obtain ⟨ol,hol,_,nl,hdl⟩:=hl
 unfold Builtin.SmallTypes.nextOf
 refine zaa (wpAny_callSpecial?_slot (name:=Str.ofString "__next__") hi.typeIs F.slot_tuple_iterator_next (wpAny_call_entry F.slot_tuple_iterator_next hi.typeIs F.entry_tuple_iterator_next ?_ (F.args_tuple_iterator_next_1 _)))
 show wpAny _ _ (field (.ref it) 0 >>= _) _ _ s
 refine zaa (wpAny_field ho hd (x:=.ref l) rfl ?_)
 show wpAny _ _ (if (Value.ref l == Value.none)=true then _ else _) _ _ s
 rw [if_neg (show ¬ ((Value.ref l == Value.none)=true) from Bool.false_ne_true)]
 show wpAny _ _ (field (.ref it) 1 >>= _) _ _ s
 refine zaa (wpAny_field ho hd (x:=.int i 0) rfl ?_)
 show wpAny _ _ (seqItems? (.ref l) >>= _) _ _ s
 refine zaa (wpAny_seqItems hol hdl ?_)
 simp only [Int.toNat_natCast,hx]
 refine zaa (wpAny_rule (zaa (wpAny_setField ho hd (by simp) ?_)))
 show wpAny _ _ (newExc (.type "StopIteration") [] >>= _) _ _ _
 refine zaa ?_
 simp only [newExc,newTuple]
 refine zaa (wpAny_newObj_type ?_ (by size_fits))
 refine zaa (m:=firstArgMember _ _) (wpAny_of_eq (a:=Value.none) (by first | rfl | (simp only [firstArgMember]; rfl)) ?_)
 refine wpAny_newObj_type ?_ (by size_fits)
 simp only [raiseNew]
 refine zaa (wpAny_handled ?_)
 first | rw [show A.in1.handled=none from hh] | rw [hh]
 exact zaa (zab (wpAny_throw (hE _ _ (((Heap.SameBut.update ..).extBut.push _).push _) ⟨_,zad _ rfl,rfl⟩)))
def SqAt (b:Bool) (h:Heap) (l:Addr) (xs:Array Value):Prop:=match b with
 | true=>h.IsTuple l xs
 | false=>h.IsList l xs
def ItAt (b:Bool) (h:Heap) (it l:Addr) (i:Nat):Prop:=match b with
 | true=>h.IsTupleIter it l i
 | false=>h.IsListIter it l i
def SqAt.at {b:Bool} {h g:Heap} {l:Addr} {xs:Array Value} (x:SqAt b h l xs) (k:∀ o,h.get? l=some o->g.get? l=some o):SqAt b g l xs:=by
 cases b with
 | true=>exact Heap.IsTuple.at (show h.IsTuple l xs from x) k
 | false=>exact Heap.IsList.at (show h.IsList l xs from x) k
def ItAt.at {b:Bool} {h g:Heap} {it l:Addr} {i:Nat} (x:ItAt b h it l i) (k:∀ o,h.get? it=some o->g.get? it=some o):ItAt b g it l i:=by
 cases b with
 | true=>exact Heap.IsTupleIter.at (show h.IsTupleIter it l i from x) k
 | false=>exact Heap.IsListIter.at (show h.IsListIter it l i from x) k
def vz {b:Bool} {it l:Addr} {i:Nat} {xs:Array Value} {x:Value} {Q:Value->Shared->Prop} (hi:ItAt b s.heap it l i) (hl:SqAt b s.heap l xs) (hx:xs[i]?=some x)
  (hQ:∀ g,ItAt b g it l (i + 1)->Heap.SameBut it s.heap g->Q x { s with heap:=g }):wpAny (model P w) A (Builtin.SmallTypes.nextOf (.ref it)) Q E s:=by
 cases b with
 | true=>exact U4 hi hl hx hQ
 | false=>exact wpAny_nextOf_list_item hi hl hx hQ
def ja {b:Bool} {it l:Addr} {i:Nat} {xs:Array Value} {Q:Value->Shared->Prop} (hh:A.handled=none) (hi:ItAt b s.heap it l i) (hl:SqAt b s.heap l xs) (hx:xs[i]?=none)
  (hE:∀ g e,Heap.ExtBut it s.heap g->(∃ o,g.get? e=some o /\ o.cls=.type "StopIteration")->E (.ref e) { s with heap:=g }):wpAny (model P w) A (Builtin.SmallTypes.nextOf (.ref it)) Q E s:=by
 cases b with
 | true=>exact Sl hh hi hl hx hE
 | false=>exact wpAny_nextOf_list_end hh hi hl hx hE
structure ZAt (b1 b2:Bool) (g:Heap) (z ti to i1 i2 l1 l2:Addr) (f:Value) (k:Nat):Prop where
 zz:IsZip g z ti to f
 its:IsPair g ti (.ref i1) (.ref i2)
 out:∃ a b,IsPair g to a b
 one:ItAt b1 g i1 l1 k
 two:ItAt b2 g i2 l2 k
structure ZNe (z ti to i1 i2:Addr):Prop where
 ab:ti ≠ z
 ac:to ≠ z
 ad:i1 ≠ z
 ae:i2 ≠ z
 bc:ti ≠ to
 bd:ti ≠ i1
 be:ti ≠ i2
 cd:to ≠ i1
 ce:to ≠ i2
 de:i1 ≠ i2
def ZOff (z to i1 i2 c:Addr):Prop:=c ≠ z /\ c ≠ to /\ c ≠ i1 /\ c ≠ i2
def Qj {b1 b2:Bool} {z ti to i1 i2 l1 l2:Addr} {k:Nat} {xs ys:Array Value} {x y:Value} {Q:Value->Shared->Prop} (D:ZNe z ti to i1 i2) (d1:ZOff z to i1 i2 l1) (d2:ZOff z to i1 i2 l2) (Z:ZAt b1 b2 s.heap z ti to i1 i2 l1 l2 .none k)
  (t1:SqAt b1 s.heap l1 xs) (t2:SqAt b2 s.heap l2 ys) (hx:xs[k]?=some x) (hy:ys[k]?=some y)
  (hQ:∀ g,ZAt b1 b2 g z ti to i1 i2 l1 l2 (rawInt s.heap.objs.size) (k + 1)->IsPair g s.heap.objs.size x y->(∀ c o,ZOff z to i1 i2 c->s.heap.get? c=some o->g.get? c=some o)->Q (.ref s.heap.objs.size) { s with heap:=g }) :
  wpAny (model P w) A (Builtin.«zip.__next__» ⟨[.ref z],[]⟩) (λfin s'=>∃ v,fin=.done (.ret v) /\ Q v s') E s:=by
 obtain ⟨hz,hti,⟨a,b,hto⟩,h1,h2⟩:=Z
 show wpAny _ _ (field (.ref z) 2 >>= _) _ _ _
 refine zaa (wpAny_field hz rfl (x:=.bool false) rfl ?_)
 show wpAny _ _ (field (.ref z) 3 >>= _) _ _ _
 refine zaa (wpAny_field hz rfl (x:=.ref ti) rfl ?_)
 refine zaa (wpAny_seqItems hti rfl ?_)
 show wpAny _ _ (Builtin.SmallTypes.ownedTupleIsFree (.ref z) >>= _) _ _ _
 refine zaa ?_
 unfold Builtin.SmallTypes.ownedTupleIsFree
 refine zaa (wpAny_field hz rfl (x:=.none) rfl (zab ?_))
 simp only [if_true]
 refine zaa (wpAny_rule ?_)
 refine zaa (wpAny_field hz rfl (x:=.ref to) rfl ?_)
 refine zaa (wpAny_setField_rec hz (by simp) λg1 z1 s1=>?_)
 replace z1:IsZip g1 z ti to .ellipsis:=z1
 refine zaa ?_
 simp only [List.zipIdx_cons,List.zipIdx_nil,List.forIn_cons,List.forIn_nil]
 refine zaa (zaa (wpAny_onRaise ?_))
 show wpAny _ _ (Builtin.SmallTypes.nextOf (.ref i1) >>= _) _ _ _
 refine zaa (vz (h1.at λo e=>s1.extBut _ o D.ad e) (t1.at λo e=>s1.extBut _ o d1.1 e) hx λg2 p2 s2=>zab ?_)
 have to2:IsPair g2 to a b:=s2.extBut _ _ D.cd (s1.extBut _ _ D.ac hto)
 refine zaa (wpAny_seqItems to2 rfl (zaa (wpAny_updateSeq_pair to2 λg3 to3 s3=>?_)))
 replace to3:IsPair g3 to x b:=to3
 refine zaa (wpAny_letGo (zab (zaa (zaa (wpAny_onRaise ?_)))))
 show wpAny _ _ (Builtin.SmallTypes.nextOf (.ref i2) >>= _) _ _ _
 refine zaa (vz (h2.at λo e=>s3.extBut _ o D.ce.symm (s2.extBut _ o D.de.symm (s1.extBut _ o D.ae e))) (t2.at λo e=>s3.extBut _ o d2.2.1 (s2.extBut _ o d2.2.2.1 (s1.extBut _ o d2.1 e))) hy λg4 p4 s4=>zab ?_)
 have to4:IsPair g4 to x b:=s4.extBut _ _ D.ce to3
 refine zaa (wpAny_seqItems to4 rfl (zaa (wpAny_updateSeq_pair to4 λg5 to5 s5=>?_)))
 replace to5:IsPair g5 to x y:=to5
 refine zaa (wpAny_letGo (zab (zab (zaa (wpAny_seqItems to5 rfl (zaa (wpAny_newTuple ?_)))))))
 have sz:g5.objs.size=s.heap.objs.size:=by rw [s5.1,s4.1,s3.1,s2.1,s1.1]
 have z5:IsZip g5 z ti to .ellipsis:=s5.extBut _ _ D.ac.symm (s4.extBut _ _ D.ae.symm (s3.extBut _ _ D.ac.symm (s2.extBut _ _ D.ad.symm z1)))
 have kp5:∀ c o,ZOff z to i1 i2 c->s.heap.get? c=some o->g5.get? c=some o:=λc o q e=>s5.extBut _ _ q.2.1 (s4.extBut _ _ q.2.2.2 (s3.extBut _ _ q.2.1 (s2.extBut _ _ q.2.2.1 (s1.extBut _ _ q.1 e))))
 have q1:ItAt b1 g5 i1 l1 (k + 1):=p2.at λo e=>s5.extBut _ o D.cd.symm (s4.extBut _ o D.de (s3.extBut _ o D.cd.symm e))
 have q2:ItAt b2 g5 i2 l2 (k + 1):=p4.at λo e=>s5.extBut _ o D.ce.symm e
 have lz:z < g5.objs.size:=zae z5
 show wpAny _ _ (Builtin.SmallTypes.ownedTupleHandOut (.ref z) (.ref g5.objs.size) >>= _) _ _ _
 refine zaa ?_
 unfold Builtin.SmallTypes.ownedTupleHandOut
 have z6:IsZip (g5.push { cls:=.type "tuple", data:=.seq #[x,y] }) z ti to .ellipsis:=zac _ z5
 refine zaa (wpAny_setField_rec z6 (by simp) λg7 z7 s7=>?_)
 replace z7:IsZip g7 z ti to (rawInt g5.objs.size):=z7
 refine wpAny_setField_rec z7 (by simp) λg8 z8 s8=>?_
 replace z8:IsZip g8 z ti to (rawInt g5.objs.size):=z8
 have up:∀ c o,c ≠ z->g5.get? c=some o->g8.get? c=some o:=λc o c1 e=>s8.extBut _ _ c1 (s7.extBut _ _ c1 (zac _ e))
 have pr:IsPair g8 g5.objs.size x y:=s8.extBut _ _ (Nat.ne_of_gt lz) (s7.extBut _ _ (Nat.ne_of_gt lz) (zad _ rfl))
 rw [sz] at z8 pr
 refine zab ⟨_,rfl,?_⟩
 show Q (.ref g5.objs.size) _
 rw [sz]
 exact hQ g8 ⟨z8,up _ _ D.ab (kp5 _ _ ⟨D.ab,D.bc,D.bd,D.be⟩ hti),⟨_,_,up _ _ D.ac to5⟩,q1.at λo e=>up _ o D.ad e,q2.at λo e=>up _ o D.ae e⟩ pr λc o q e=>up c o q.1 (kp5 c o q e)
def L4 {b1 b2:Bool} {z ti to i1 i2 l1 l2:Addr} {k:Nat} {xs ys:Array Value} {Q:Fin->Shared->Prop} (hh:A.handled=none) (D:ZNe z ti to i1 i2) (d1:ZOff z to i1 i2 l1) (d2:ZOff z to i1 i2 l2) (Z:ZAt b1 b2 s.heap z ti to i1 i2 l1 l2 .none k)
  (t1:SqAt b1 s.heap l1 xs) (t2:SqAt b2 s.heap l2 ys) (hend:xs[k]?=none \/ ys[k]?=none)
  (hE:∀ g e,(∀ c o,ZOff z to i1 i2 c->s.heap.get? c=some o->g.get? c=some o)->(∃ o,g.get? e=some o /\ o.cls=.type "StopIteration")->E (.ref e) { s with heap:=g }) :
  wpAny (model P w) A (Builtin.«zip.__next__» ⟨[.ref z],[]⟩) Q E s:=by
 obtain ⟨hz,hti,⟨a,b,hto⟩,h1,h2⟩:=Z
 show wpAny _ _ (field (.ref z) 2 >>= _) _ _ _
 refine zaa (wpAny_field hz rfl (x:=.bool false) rfl ?_)
 show wpAny _ _ (field (.ref z) 3 >>= _) _ _ _
 refine zaa (wpAny_field hz rfl (x:=.ref ti) rfl ?_)
 refine zaa (wpAny_seqItems hti rfl ?_)
 show wpAny _ _ (Builtin.SmallTypes.ownedTupleIsFree (.ref z) >>= _) _ _ _
 refine zaa ?_
 unfold Builtin.SmallTypes.ownedTupleIsFree
 refine zaa (wpAny_field hz rfl (x:=.none) rfl (zab ?_))
 simp only [if_true]
 refine zaa (wpAny_rule ?_)
 refine zaa (wpAny_field hz rfl (x:=.ref to) rfl ?_)
 refine zaa (wpAny_setField_rec hz (by simp) λg1 z1 s1=>?_)
 replace z1:IsZip g1 z ti to .ellipsis:=z1
 refine zaa ?_
 simp only [List.zipIdx_cons,List.zipIdx_nil,List.forIn_cons,List.forIn_nil]
 refine zaa (zaa (wpAny_onRaise ?_))
 show wpAny _ _ (Builtin.SmallTypes.nextOf (.ref i1) >>= _) _ _ _
 cases hx:xs[k]? with
 | none =>
  refine zaa (ja hh (h1.at λo e=>s1.extBut _ o D.ad e) (t1.at λo e=>s1.extBut _ o d1.1 e) hx λg2 e s2 he=>?_)
  obtain ⟨oe,hoe,hce⟩:=he
  have z2:IsZip g2 z ti to .ellipsis:=s2 _ _ D.ad.symm z1
  have ez:e ≠ z:=λx=>by subst x; rw [z2] at hoe; cases hoe; simp at hce
  exact wpAny_setField_rec z2 (by simp) λg3 _ s3=>hE g3 e (λc o q x=>s3.extBut _ _ q.1 (s2 _ _ q.2.2.1 (s1.extBut _ _ q.1 x))) ⟨oe,s3.extBut _ _ ez hoe,hce⟩
 | some x =>
  have hy:ys[k]?=none:=by rcases hend with h | h; rw [hx] at h; cases h; exact h
  refine zaa (vz (h1.at λo e=>s1.extBut _ o D.ad e) (t1.at λo e=>s1.extBut _ o d1.1 e) hx λg2 p2 s2=>zab ?_)
  have to2:IsPair g2 to a b:=s2.extBut _ _ D.cd (s1.extBut _ _ D.ac hto)
  refine zaa (wpAny_seqItems to2 rfl (zaa (wpAny_updateSeq_pair to2 λg3 to3 s3=>?_)))
  refine zaa (wpAny_letGo (zab (zaa (zaa (wpAny_onRaise ?_)))))
  show wpAny _ _ (Builtin.SmallTypes.nextOf (.ref i2) >>= _) _ _ _
  refine zaa (ja hh (h2.at λo e=>s3.extBut _ o D.ce.symm (s2.extBut _ o D.de.symm (s1.extBut _ o D.ae e))) (t2.at λo e=>s3.extBut _ o d2.2.1 (s2.extBut _ o d2.2.2.1 (s1.extBut _ o d2.1 e))) hy λg4 e s4 he=>?_)
  obtain ⟨oe,hoe,hce⟩:=he
  have z4:IsZip g4 z ti to .ellipsis:=s4 _ _ D.ae.symm (s3.extBut _ _ D.ac.symm (s2.extBut _ _ D.ad.symm z1))
  have ez:e ≠ z:=λx=>by subst x; rw [z4] at hoe; cases hoe; simp at hce
  exact wpAny_setField_rec z4 (by simp) λg5 _ s5=>hE g5 e (λc o q x=>s5.extBut _ _ q.1 (s4 _ _ q.2.2.2 (s3.extBut _ _ q.2.1 (s2.extBut _ _ q.2.2.1 (s1.extBut _ _ q.1 x))))) ⟨oe,s5.extBut _ _ ez hoe,hce⟩
def Zp {b1 b2:Bool} {z ti to i1 i2 l1 l2:Addr} {k:Nat} {xs ys:Array Value} {x y:Value} {Q:Option Value->Shared->Prop} (D:ZNe z ti to i1 i2) (d1:ZOff z to i1 i2 l1) (d2:ZOff z to i1 i2 l2) (Z:ZAt b1 b2 s.heap z ti to i1 i2 l1 l2 .none k)
  (t1:SqAt b1 s.heap l1 xs) (t2:SqAt b2 s.heap l2 ys) (hx:xs[k]?=some x) (hy:ys[k]?=some y)
  (hQ:∀ g,ZAt b1 b2 g z ti to i1 i2 l1 l2 (rawInt s.heap.objs.size) (k + 1)->IsPair g s.heap.objs.size x y->(∀ c o,ZOff z to i1 i2 c->s.heap.get? c=some o->g.get? c=some o)->Q (some (.ref s.heap.objs.size)) { s with heap:=g }) :
  wpAny (model P w) A (pyNext (.ref z)) Q E s:=by
 have ty:s.TypeIs (.ref z) "zip":=⟨_,Z.zz,rfl⟩
 unfold pyNext
 exact zaa (wpAny_attempt (wpAny_callSpecial?_slot (name:=Str.ofString "__next__") ty F.slot_zip_next (wpAny_call_entry F.slot_zip_next ty F.entry_zip_next (Qj D d1 d2 Z t1 t2 hx hy λg a b c=>zab (hQ g a b c)) (F.args_zip_next_1 _))))
def V3 {b1 b2:Bool} {z ti to i1 i2 l1 l2:Addr} {k:Nat} {xs ys:Array Value} {Q:Option Value->Shared->Prop} (hh:A.handled=none) (D:ZNe z ti to i1 i2) (d1:ZOff z to i1 i2 l1) (d2:ZOff z to i1 i2 l2) (Z:ZAt b1 b2 s.heap z ti to i1 i2 l1 l2 .none k)
  (t1:SqAt b1 s.heap l1 xs) (t2:SqAt b2 s.heap l2 ys) (hend:xs[k]?=none \/ ys[k]?=none)
  (hQ:∀ g,(∀ c o,ZOff z to i1 i2 c->s.heap.get? c=some o->g.get? c=some o)->Q none { s with heap:=g }):wpAny (model P w) A (pyNext (.ref z)) Q E s:=by
 have ty:s.TypeIs (.ref z) "zip":=⟨_,Z.zz,rfl⟩
 unfold pyNext
 refine zaa (wpAny_attempt (wpAny_callSpecial?_slot (name:=Str.ofString "__next__") ty F.slot_zip_next (wpAny_call_entry F.slot_zip_next ty F.entry_zip_next (L4 hh D d1 d2 Z t1 t2 hend λg e kp he=>?_) (F.args_zip_next_1 _))))
 obtain ⟨o,ho,hc⟩:=he
 refine zaa (wpAny_isInstance (T:="StopIteration") (b:=true) ⟨o,ho,hc⟩ isSubtype_stop ?_)
 exact zab (hQ _ kp)
def Mc (b:Bool):String:=match b with
 | true=>"tuple_iterator"
 | false=>"list_iterator"
abbrev zh1 (b1:Bool) (h:Heap) (l1:Addr):Heap:=h.push { cls:=.type (Mc b1),data:=.fields #[.ref l1,.int 0 0] }
abbrev zh2 (b1 b2:Bool) (h:Heap) (l1 l2:Addr):Heap:=(zh1 b1 h l1).push { cls:=.type (Mc b2),data:=.fields #[.ref l2,.int 0 0] }
abbrev zh3 (b1 b2:Bool) (h:Heap) (l1 l2:Addr):Heap:=(zh2 b1 b2 h l1 l2).push { cls:=.type "tuple", data:=.seq #[.ref h.objs.size,.ref (zh1 b1 h l1).objs.size] }
abbrev zh4 (b1 b2:Bool) (h:Heap) (l1 l2:Addr):Heap:=(zh3 b1 b2 h l1 l2).push { cls:=.type "tuple", data:=.seq #[.none,.none] }
abbrev zh5 (b1 b2:Bool) (h:Heap) (l1 l2:Addr):Heap:=(zh4 b1 b2 h l1 l2).push { cls:=.type "zip", data:=.fields #[.none,.bool false,.bool false,.ref (zh2 b1 b2 h l1 l2).objs.size,.ref (zh3 b1 b2 h l1 l2).objs.size] }
def L0 (b1 b2:Bool) (l1 l2:Addr) (xs ys:Array Value) :
  Meets (Builtin.«zip.__new__» ⟨[.type "zip", .ref l1,.ref l2],[]⟩) (λ_ R s=>SqAt b1 s.heap l1 xs /\ SqAt b2 s.heap l2 ys /\ R (.ok (.ret (.ref (zh4 b1 b2 s.heap l1 l2).objs.size))) { s with heap:=zh5 b1 b2 s.heap l1 l2 }) :=
 .of_wp λprog w A R s h=>by
  obtain ⟨hp,g,d,tk,os⟩:=s
  obtain ⟨a1,a2,h⟩:=h
  have hsub:=sub_zip
  cases b1 <;> cases b2
  ·have b1:Heap.IsList (Shared.heap ⟨hp,g,d,tk,os⟩) l1 xs:=a1
   have b2:Heap.IsList (Shared.heap ⟨hp.push { cls:=.type "list_iterator", data:=.fields #[.ref l1,.int 0 0] },g,d,tk,os⟩) l2 ys:=Heap.IsList.push a2 _
   wp_walk using wpAny_pyIter_list b1,wpAny_pyIter_list b2
   exact ⟨_,rfl,h⟩
  ·have b1:Heap.IsList (Shared.heap ⟨hp,g,d,tk,os⟩) l1 xs:=a1
   have b2:Heap.IsTuple (Shared.heap ⟨hp.push { cls:=.type "list_iterator", data:=.fields #[.ref l1,.int 0 0] },g,d,tk,os⟩) l2 ys:=Heap.IsTuple.push a2 _
   wp_walk using wpAny_pyIter_list b1,wpAny_pyIter_tuple b2
   exact ⟨_,rfl,h⟩
  ·have b1:Heap.IsTuple (Shared.heap ⟨hp,g,d,tk,os⟩) l1 xs:=a1
   have b2:Heap.IsList (Shared.heap ⟨hp.push { cls:=.type "tuple_iterator", data:=.fields #[.ref l1,.int 0 0] },g,d,tk,os⟩) l2 ys:=Heap.IsList.push a2 _
   wp_walk using wpAny_pyIter_tuple b1,wpAny_pyIter_list b2
   exact ⟨_,rfl,h⟩
  ·have b1:Heap.IsTuple (Shared.heap ⟨hp,g,d,tk,os⟩) l1 xs:=a1
   have b2:Heap.IsTuple (Shared.heap ⟨hp.push { cls:=.type "tuple_iterator", data:=.fields #[.ref l1,.int 0 0] },g,d,tk,os⟩) l2 ys:=Heap.IsTuple.push a2 _
   wp_walk using wpAny_pyIter_tuple b1,wpAny_pyIter_tuple b2
   exact ⟨_,rfl,h⟩
def Wd {b1 b2:Bool} {l1 l2:Addr} {xs ys:Array Value} {Q:Value->Shared->Prop} (t1:SqAt b1 s.heap l1 xs) (t2:SqAt b2 s.heap l2 ys)
  (h:∀ g,ZAt b1 b2 g (s.heap.objs.size + 4) (s.heap.objs.size + 2) (s.heap.objs.size + 3) s.heap.objs.size (s.heap.objs.size + 1) l1 l2 .none 0->(∀ c o,s.heap.get? c=some o->g.get? c=some o)->Q (.ref (s.heap.objs.size + 4)) { s with heap:=g }) :
  wpAny (model P w) A (call (.type "zip") [.ref l1,.ref l2]) Q E s:=by
 refine callType_new F.called_zip (by decide) (F.typeCall_zip_2 _ _) (F.newCall_zip_2 _ _) (λobj=>F.args_object_init_3 obj _ _) F.entry_zip_new (L0 b1 b2 l1 l2 xs ys) ⟨t1,t2,?_⟩
 have n1:(zh1 b1 s.heap l1).objs.size=s.heap.objs.size + 1:=Heap.size_push ..
 have n2:(zh2 b1 b2 s.heap l1 l2).objs.size=s.heap.objs.size + 2:=by rw [Heap.size_push,n1]
 have n3:(zh3 b1 b2 s.heap l1 l2).objs.size=s.heap.objs.size + 3:=by rw [Heap.size_push,n2]
 have n4:(zh4 b1 b2 s.heap l1 l2).objs.size=s.heap.objs.size + 4:=by rw [Heap.size_push,n3]
 have g5:(zh5 b1 b2 s.heap l1 l2).get? (zh4 b1 b2 s.heap l1 l2).objs.size=some _:=zad _ rfl
 have g4:(zh5 b1 b2 s.heap l1 l2).get? (zh3 b1 b2 s.heap l1 l2).objs.size=some _:=zac _ (zad _ rfl)
 have g3:(zh5 b1 b2 s.heap l1 l2).get? (zh2 b1 b2 s.heap l1 l2).objs.size=some _:=zac _ (zac _ (zad _ rfl))
 have g2:(zh5 b1 b2 s.heap l1 l2).get? (zh1 b1 s.heap l1).objs.size=some _:=zac _ (zac _ (zac _ (zad _ rfl)))
 have g1:(zh5 b1 b2 s.heap l1 l2).get? s.heap.objs.size=some _:=zac _ (zac _ (zac _ (zac _ (zad _ rfl))))
 show _ /\ _
 rw [n2,n3,n4] at g5
 rw [n1,n2] at g3
 rw [n3] at g4
 rw [n1] at g2
 rw [n4]
 exact ⟨⟨_,g5,rfl⟩,h _ ⟨g5,g3,⟨_,_,g4⟩,(by cases b1 <;> exact ⟨_,g1,rfl,rfl⟩),(by cases b2 <;> exact ⟨_,g2,rfl,rfl⟩)⟩ λc o e=>zac _ (zac _ (zac _ (zac _ (zac _ e))))⟩
def ItAt.there {b:Bool} {h:Heap} {it l:Addr} {i:Nat} (x:ItAt b h it l i):∃ o,h.get? it=some o /\ ∀ v,o.data ≠ .cell v:=by
 cases b with
 | true =>
  obtain ⟨o,e,c,d⟩:=(show h.IsTupleIter it l i from x)
  exact ⟨o,e,λv q=>by rw [d] at q; cases q⟩
 | false =>
  obtain ⟨o,e,c,d⟩:=(show h.IsListIter it l i from x)
  exact ⟨o,e,λv q=>by rw [d] at q; cases q⟩
def SqK (b:Bool) (K:W.Frag) (H:Hp) (l:Addr) (xs:List V):Prop:=match b with
 | true=>SqT K H l xs
 | false=>SqL K H l xs
def Ze {b:Bool} {X:Cx} {pn:List (Addr × Obj)} {σ:St} {H:Hp} {s:Shared} {l:Addr} {xs:List V} (I:Inv X pn σ H s) (h:SqK b X.K H l xs):∃ its,Vals xs its /\ SqAt b s.heap l its.toArray:=by
 cases b with
 | true =>
  obtain ⟨its,r,p,_⟩:=I.tuple h
  exact ⟨its,r,(show s.heap.IsTuple l its.toArray from p)⟩
 | false =>
  obtain ⟨its,r,p,_⟩:=I.list h
  exact ⟨its,r,p.isList⟩
def Nn {b:Bool} {X:Cx} {pn:List (Addr × Obj)} {σ:St} {H:Hp} {s:Shared} {l:Addr} {xs ys:List V} (I:Inv X pn σ H s) (h:SqK b X.K H l xs) (h':SqK b X.K H l ys):xs=ys:=by
 cases b with
 | true=>exact I.tuple_inj h h'
 | false=>exact I.list_inj h h'
def v5 {b:Bool} {X:Cx} {pn:List (Addr × Obj)} {σ:St} {H:Hp} {s:Shared} {l c:Addr} {xs:List V} (I:Inv X pn σ H s) (h:SqK b X.K H l xs) (f:FpOk X pn H c):l ≠ c:=by
 have kc:∀ {o:Obj},X.K.lookup l=some o->l ≠ c:=λ{o} lk z=>by
  subst z
  have e:=I.ok.mod.kin _ _ lk
  rcases f.2.2.2.1 with q | q
  ·exact I.ok.noex _ _ e q
  ·exact absurd (Nat.lt_of_lt_of_le (zae e) I.ok.bsz) (Nat.not_lt.mpr q)
 cases b with
 | true =>
  rcases h with (h | ⟨o,h⟩) | ⟨o,its,n,lk,_⟩
  ·exact zr h f.1
  ·exact zr h f.1
  ·exact kc lk
 | false =>
  rcases h with (h | ⟨o,h⟩) | ⟨o,its,n,lk,_⟩
  ·exact zr h f.1
  ·exact zr h f.1
  ·exact kc lk
def Itz (b1 b2:Bool) (K:W.Frag) (l1 l2:Addr):It :=
 ⟨λi H=>∃ xs ys x y,SqK b1 K H l1 xs /\ SqK b2 K H l2 ys /\ xs[i]?=some x /\ ys[i]?=some y,
  λi H v H'=>∃ T x y,H T=none /\ v=.ref T /\ (∀ xs,SqK b1 K H l1 xs->xs[i]?=some x) /\ (∀ ys,SqK b2 K H l2 ys->ys[i]?=some y) /\ H'=upd H T (.tup [x,y]),
  λi H=>∃ xs ys,SqK b1 K H l1 xs /\ SqK b2 K H l2 ys /\ (xs.length <= i \/ ys.length <= i)⟩
def Qq {P:Program} {w:World} {K:W.Frag} {es:List Expr} {kk:Nat} {tp:Pos} {b1 b2:Bool} {z ti to i1 i2 l1 l2:Addr} (D:ZNe z ti to i1 i2) :
  Turn P w K (.Tuple es kk tp) (Itz b1 b2 K l1 l2) [z,ti,to,i1,i2] z (λi h=>ZAt b1 b2 h z ti to i1 i2 l1 l2 .none i) where
 mem:=by simp
 obj:=λi h Z b hb=>by
  obtain ⟨hz,hti,⟨u,v,hto⟩,h1,h2⟩:=Z
  obtain ⟨o1,e1,d1⟩:=h1.there
  obtain ⟨o2,e2,d2⟩:=h2.there
  simp only [zam,List.not_mem_nil,or_false] at hb
  rcases hb with rfl | rfl | rfl | rfl | rfl
  ·exact ⟨_,hz,λv q=>(by cases q)⟩
  ·exact ⟨_,hti,λv q=>(by cases q)⟩
  ·exact ⟨_,hto,λv q=>(by cases q)⟩
  ·exact ⟨o1,e1,λv q=>d1 v q⟩
  ·exact ⟨o2,e2,λv q=>d2 v q⟩
 keep:=λi h h' Z k=>by
  obtain ⟨hz,hti,⟨u,v,hto⟩,h1,h2⟩:=Z
  exact ⟨k z (by simp) _ hz,k ti (by simp) _ hti,⟨u,v,k to (by simp) _ hto⟩,h1.at λo e=>k i1 (by simp) o e,h2.at λo e=>k i2 (by simp) o e⟩
 item:=by
  intro X hP hw hK hc i pn s σ H E I hf Z hg
  subst hP hw hK
  obtain ⟨xs,ys,x,y,e1,e2,hx,hy⟩:=hg
  obtain ⟨its1,r1,g1⟩:=Ze I e1
  obtain ⟨its2,r2,g2⟩:=Ze I e2
  obtain ⟨u,hu,ru⟩:=r1.get hx
  obtain ⟨v,hv,rv⟩:=r2.get hy
  have fz:=hf z (by simp)
  have fto:=hf to (by simp)
  have f1:=hf i1 (by simp)
  have f2:=hf i2 (by simp)
  have off:∀ b ho,H b=some ho->ZOff z to i1 i2 b:=λb ho e=>⟨zr e fz.1,zr e fto.1,zr e f1.1,zr e f2.1⟩
  refine Zp D ⟨v5 I e1 fz,v5 I e1 fto,v5 I e1 f1,v5 I e1 f2⟩ ⟨v5 I e2 fz,v5 I e2 fto,v5 I e2 f1,v5 I e2 f2⟩ Z g1 g2 (x:=u) (y:=v) (by simpa using hu) (by simpa using hv) λg Z2 pr kp=>?_
  have hn:H s.heap.objs.size=none:=I.fresh
  have hout:∀ b,b ∉ [z,to,i1,i2]->ZOff z to i1 i2 b:=λb hb=>by
   simp only [zam,List.not_mem_nil,or_false,not_or] at hb
   exact hb
  have un:Un (frs X.stack) [z,to,i1,i2] H (upd H s.heap.objs.size (.tup [x,y])) s.heap g :=
   ⟨λb o q _ _ hx=>kp b o (hout b hx) q,λb o q _ _ hx=>⟨o.slots,kp b o (hout b hx) q⟩,λb o q n _=>by rw [y7 (Nat.ne_of_lt (zae q))]; exact n,λb o q hx=>⟨o,kp b o (hout b hx) q⟩,
    λb zs q=>by rw [y7 (zr q hn)]; exact q,λb o zs q=>by rw [y7 (zr q hn)]; exact q,λb ps q=>⟨#[],by rw [y7 (zr q hn),q]; simp⟩⟩
  have hok:HOk X.prog X.w (upd H s.heap.objs.size (.tup [x,y])) g:=λb o e=>by
   by_cases hb:b=s.heap.objs.size
   ·subst hb
    rw [zy] at e
    cases e
    refine ⟨by simp only [zLc,zLn]; rw [sizeLine_eq]; decide,[u,v],.cons ru (.cons rv .nil),⟨_,pr,rfl,_,rfl⟩,_,pr,rfl⟩
   ·rw [y7 hb] at e
    refine (I.hok b o e).stay (λc ob hc q=>kp c ob ?_ q) (λc q=>by rw [y7 (zr q hn)]; exact q) λc zs q=>by rw [y7 (zr q hn)]; exact q
    rcases hc with rfl | hc
    ·exact off _ _ e
    ·exact off _ _ hc
  have I2:Inv X pn σ (upd H s.heap.objs.size (.tup [x,y])) { s with heap:=g }:=I.call' (s':={ s with heap:=g }) (ch:=[z,to,i1,i2]) rfl un hok I.bare λb hb=>by
   have hb':b ∈ [z,ti,to,i1,i2]:=by
    simp only [zam,List.not_mem_nil,or_false] at hb ⊢
    rcases hb with rfl | rfl | rfl | rfl <;> simp
   have q:=hf b hb'
   exact ⟨q.2.2.2.1,q.2.1,q.2.2.2.2.1,q.2.2.2.2.2⟩
  have none5:∀ b ∈ [z,ti,to,i1,i2],upd H s.heap.objs.size (.tup [x,y]) b=none:=λb hb=>by
   have lb:b < s.heap.objs.size:=by
    obtain ⟨hz,hti,⟨u,v,hto⟩,h1,h2⟩:=Z
    obtain ⟨_,q1,_⟩:=h1.there
    obtain ⟨_,q2,_⟩:=h2.there
    simp only [zam,List.not_mem_nil,or_false] at hb
    rcases hb with rfl | rfl | rfl | rfl | rfl
    ·exact zae hz
    ·exact zae hti
    ·exact zae hto
    ·exact zae q1
    ·exact zae q2
   rw [y7 (Nat.ne_of_lt lb)]
   exact (hf b hb).1
  refine ⟨_,rfl,wpAny_letOwnedTupleGo_zip Z2.zz λg2 z3 sb=>?_⟩
  refine ⟨.ref s.heap.objs.size,_,I2.turned (t':=s.toks) (λb o hb e=>sb.extBut b o hb e) (none5 z (by simp)) fz.2.1 fz.2.2.2.1 fz.2.2.2.2.1 fz.2.2.2.2.2,rfl,⟨_,x,y,hn,rfl,(λzs q=>by rw [<- Nn I e1 q]; exact hx),(λzs q=>by rw [<- Nn I e2 q]; exact hy),rfl⟩,?_,none5⟩
  obtain ⟨_,hti,⟨u2,v2,hto⟩,h1,h2⟩:=Z2
  exact ⟨z3,sb.extBut _ _ D.ab hti,⟨u2,v2,sb.extBut _ _ D.ac hto⟩,h1.at λo e=>sb.extBut _ o D.ad e,h2.at λo e=>sb.extBut _ o D.ae e⟩
 done:=by
  intro X hP hw hK hc i pn s σ H E I hf Z hg
  subst hP hw hK
  obtain ⟨xs,ys,e1,e2,hend⟩:=hg
  obtain ⟨its1,r1,g1⟩:=Ze I e1
  obtain ⟨its2,r2,g2⟩:=Ze I e2
  have fz:=hf z (by simp)
  have fto:=hf to (by simp)
  have f1:=hf i1 (by simp)
  have f2:=hf i2 (by simp)
  have off:∀ b ho,H b=some ho->ZOff z to i1 i2 b:=λb ho e=>⟨zr e fz.1,zr e fto.1,zr e f1.1,zr e f2.1⟩
  have l1':=r1.length
  have l2':=r2.length
  refine V3 (I.ok.hd hc) D ⟨v5 I e1 fz,v5 I e1 fto,v5 I e1 f1,v5 I e1 f2⟩ ⟨v5 I e2 fz,v5 I e2 fto,v5 I e2 f1,v5 I e2 f2⟩ Z g1 g2 ?_ λg kp=>?_
  ·rcases hend with q | q
   ·exact .inl (by simp; omega)
   ·exact .inr (by simp; omega)
  ·refine ⟨rfl,?_⟩
   have hout:∀ b,b ∉ [z,to,i1,i2]->ZOff z to i1 i2 b:=λb hb=>by
    simp only [zam,List.not_mem_nil,or_false,not_or] at hb
    exact hb
   have un:Un (frs X.stack) [z,to,i1,i2] H H s.heap g :=
    ⟨λb o q _ _ hx=>kp b o (hout b hx) q,λb o q _ _ hx=>⟨o.slots,kp b o (hout b hx) q⟩,λb o q n _=>n,λb o q hx=>⟨o,kp b o (hout b hx) q⟩,
     λb zs q=>q,λb o zs q=>q,λb ps q=>⟨#[],by rw [q]; simp⟩⟩
   refine I.call' (s':={ s with heap:=g }) (ch:=[z,to,i1,i2]) rfl un (λb o e=>(I.hok b o e).stay (λc ob hc q=>kp c ob ?_ q) (λc q=>q) λc zs q=>q) I.bare λb hb=>?_
   ·rcases hc with rfl | hc
    ·exact off _ _ e
    ·exact off _ _ hc
   ·have hb':b ∈ [z,ti,to,i1,i2]:=by
     simp only [zam,List.not_mem_nil,or_false] at hb ⊢
     rcases hb with rfl | rfl | rfl | rfl <;> simp
    have q:=hf b hb'
    exact ⟨q.2.2.2.1,q.2.1,q.2.2.2.2.1,q.2.2.2.2.2⟩
 self:=λ_ _ _ _ _ Z h=>wpAny_pyIter_zip Z.zz h
def Yr:bootBuiltins "zip" = some (.type "zip"):=by kernel_rfl
def iZip (K:W.Frag) (ta:TA):TI:=λσ H R=>ta σ H λvs H1=>∃ b1 b2 l1 l2 xs ys,vs=[.ref l1,.ref l2] /\ SqK b1 K H1 l1 xs /\ SqK b2 K H1 l2 ys /\ R (Itz b1 b2 K l1 l2) H1
def Gs {X:Cx} {es:List Expr} {kk:Nat} {tp:Pos} {a b:Expr} {ta:TA} {p pos:Pos} (hg:Gl X "zip") (hm:X.mg "zip" = none) (ha:PA X [a,b] ta)
  (he:starEach [a,b] X.env=(false,eval a X.env) :: starEach [b] X.env:=by rfl) (hpl:(backTo pos (starEach [b] X.env)).any (·.1)=false:=by rfl):PI X (.Tuple es kk tp) (.Call (.Name "zip" p) [a,b] [] pos) (iZip X.K ta):=by
 intro pn s σ H R I h
 refine wpAny_Call_Name_kw (k5 I hg hm Yr ?_ (by decide) (by decide))
 refine PyProof.Rows.callWith_type1 (thn (ha pos pn s σ H _ I h) λus s1 ⟨vs,H1,I1,r1,b1,b2,l1,l2,xs,ys,e,e1,e2,q⟩=>?_) he hpl
 subst e
 obtain ⟨u,v,rfl,ru,rv⟩:=Qm r1
 cases ru
 cases rv
 obtain ⟨its1,r1,g1⟩:=Ze I1 e1
 obtain ⟨its2,r2,g2⟩:=Ze I1 e2
 refine Wd (xs:=its1.toArray) (ys:=its2.toArray) g1 g2 λg Z kp=>wpAny_pyIter_zip Z.zz ?_
 have D:ZNe (s1.heap.objs.size + 4) (s1.heap.objs.size + 2) (s1.heap.objs.size + 3) s1.heap.objs.size (s1.heap.objs.size + 1):=by
  constructor <;> (intro z; exact absurd (show (_:Nat)=_ from z) (by omega))
 refine ⟨_,_,_,_,H1,rfl,I1.kept (t':=s1.toks) kp,Qq D,Z,λb hb=>?_,q⟩
 have lb:s1.heap.objs.size <= b:=by
  simp only [zam,List.not_mem_nil,or_false] at hb
  rcases hb with rfl | rfl | rfl | rfl | rfl
  ·exact Nat.le_add_right _ _
  ·exact Nat.le_add_right _ _
  ·exact Nat.le_add_right _ _
  ·exact zaj _
  ·exact Nat.le_add_right _ _
 exact I1.fpOk lb (I1.hok.fresh lb)
structure FlyB (P:Program) (w:World) (outer:List Env) (H:Hp) (h:Heap) (H':Hp) (B:Heap) (h':Heap):Prop where
 un:Un (frs outer) [] H H' h h'
 hok:HOk P w H' h'
 cov:∀ b o,h'.get? b=some o->b ∉ frs outer->(H' b ≠ none \/ ∃ o0,h.get? b=some o0)->B.get? b=some o
def CX1 (P:Program) (w:World):CXT:=λouter H s E e s'=>∃ (a C:Addr) (t:Value) (H':Hp) (B:Heap),e=.ref a /\ s'.os=s.os /\ AllBare s'.gens /\ FlyB P w outer H s.heap H' B s'.heap /\
 Heap.FlyingW B outer a (.ref C) t s'.heap /\ E (.ref C) none H'
def sg (t b:Int):Int:=if b < 0 then -(Int.gcd t b:Int) else Int.gcd t b
def rt (t b:Int):Int × Int:=(t.fdiv (sg t b),b.fdiv (sg t b))
open PySem.Builtin.Int (intBits)
def fdOk {i j:Int} {m:Nat} (h:j ≠ 0) (hb:intBits j <= m) (hm:m <= 8999:=by omega):FdOk i j:=by
 refine ⟨h,?_⟩
 unfold intBits at hb
 rw [if_neg (by simpa using h)] at hb
 omega
def zg {n:Nat} {i:Int}:okD n (.int i)=True:=by cases n <;> rfl
def Sj {n:Nat} {i:Bool}:okD n (.bl i)=True:=by cases n <;> rfl
def tx {n:Nat} {i:Str}:okD n (.str i)=True:=by cases n <;> rfl
def X9 {n:Nat}:okD n .non=True:=by cases n <;> rfl
def vo {n:Nat} {ds:List D} (h:0 < n):okD n (.tup ds)=∀ x ∈ ds,okD (n - 1) x:=by
 cases n with
 | zero=>omega
 | succ n=>rfl
def tz {n:Nat} {ds:List D} (h:0 < n):okD n (.lst ds)=∀ x ∈ ds,okD (n - 1) x:=by
 cases n with
 | zero=>omega
 | succ n=>rfl
def W4 {a b:Int}:eqD (.int a) (.int b)=(a == b):=rfl
def Jf {a b:Str}:eqD (.str a) (.str b)=(a == b):=rfl
def Rq {a b:Bool}:eqD (.bl a) (.bl b)=(a == b):=rfl
def w1 (g:Int->(EV->Prop)->Prop):FT:=λds φ=>match ds with
 | [.int a]=>g a φ
 | _=>False
def r2 (g:Int->Int->Int->Int->(EV->Prop)->Prop):FT:=λds φ=>match ds with
 | [.tup [.int a,.int b],.tup [.int c,.int d]]=>g a b c d φ
 | _=>False
structure Sm (a b c d:Int):Prop where
 a:intBits a <= 3000
 b:intBits b <= 3000
 c:intBits c <= 3000
 d:intBits d <= 3000
abbrev eR (t b:Int):EV:=dv (.tup [.int (rt t b).1,.int (rt t b).2])
def La:FT:=r2 λa b c d φ=>Sm a b c d /\ b * c ≠ 0 /\ φ (eR (a * d) (b * c))
def C5 {α:Type} {x:α} {l:List α}:atI (x :: l) 0=some x:=by
 rw [show (0:Int)=((0:Nat):Int) from rfl]
 exact Z4 rfl
def C4 {α:Type} {x y:α} {l:List α}:atI (x :: y :: l) 1=some y:=by
 rw [show (1:Int)=((1:Nat):Int) from rfl]
 exact Z4 rfl
def C3 {α:Type} {x y z:α} {l:List α}:atI (x :: y :: z :: l) 2=some z:=by
 rw [show (2:Int)=((2:Nat):Int) from rfl]
 exact Z4 rfl
variable {κ:Type} [DecidableEq κ]
def valV (kvs:List (κ × V)) (k:κ):Option V:=(kvs.find? λkv=>decide (kv.1=k)).map (·.2)
def putK (kvs:List (κ × V)) (k:κ) (v:V):List (κ × V) :=
 if (kvs.any λkv=>decide (kv.1=k))=true then kvs.map (λkv=>if kv.1=k then (kv.1,v) else kv) else kvs ++ [(k,v)]
def dj {p:κ × V} {r:List (κ × V)} {k:κ} (e:p.1=k):valV (p :: r) k=some p.2:=by simp [valV,List.find?_cons,e]
def dq {p:κ × V} {r:List (κ × V)} {k:κ} (e:¬ p.1=k):valV (p :: r) k=valV r k:=by simp [valV,List.find?_cons,e]
def RelO.isSome_eq {o:Option V} {u:Option Value} (r:RelO o u):o.isSome=u.isSome:=by
 cases o with
 | none=>cases u with
  | none=>rfl
  | some _=>exact (show False from r).elim
 | some _=>cases u with
  | none=>exact (show False from r).elim
  | some _=>rfl
def RelO.getD {o:Option V} {u:Option Value} {d:V} {d':Value} (r:RelO o u) (rd:RelV d d'):RelV (o.getD d) (u.getD d'):=by
 cases o with
 | none=>cases u with
  | none=>exact rd
  | some _=>exact (show False from r).elim
 | some _=>cases u with
  | none=>exact (show False from r).elim
  | some _=>exact r
def KV.val {kvs:List (κ × V)} {vs:List (κ × Value)} (r:KV kvs vs) (k:κ):RelO (valV kvs k) (valueAt vs k):=by
 unfold KV at r
 induction r with
 | nil=>exact True.intro
 | @cons p q ps qs h t ih =>
  obtain ⟨h1,h2⟩:=h
  by_cases e:p.1=k
  ·have e':q.1=k:=h1.symm.trans e
   have b:valueAt (q :: qs) k=some q.2:=by simp [valueAt,List.find?_cons,e']
   rw [dj e,b]; exact h2
  ·have e':¬ q.1=k:=λz=>e (h1.trans z)
   have b:valueAt (q :: qs) k=valueAt qs k:=by simp [valueAt,List.find?_cons,e']
   rw [dq e,b]; exact ih
def KV.length {kvs:List (κ × V)} {vs:List (κ × Value)} (r:KV kvs vs):kvs.length=vs.length:=Paired.length r
def O7 {P:Program} {w:World} {k:Key} {u:Value} (r:RelV (kV k) u):(yt P w).is k u=true:=by
 cases k with
 | inl i=>obtain ⟨t,e⟩:=(show ∃ t,u=Value.int i t from r); subst e; exact Xc P w i t
 | inr x=>obtain ⟨t,e⟩:=(show ∃ t,u=Value.str x t from r); subst e; exact jb P w x t
def Zw {P:Program} {w:World}:∀ {ks:List Key} {us:List Value},Vals (ks.map kV) us->ItemsAre (yt P w) ks us
 | [],_,r=>by rw [List.map_nil] at r; cases r; exact .nil
 | k :: ks,_,r=>by
  rw [List.map_cons] at r
  cases r with
  | cons h t=>exact .cons (O7 h) (Zw t)
abbrev KT (H:Hp):List (List Key × V)->List (List Key × Addr × Value)->Prop:=Paired λp q=>p.1=q.1 /\ H q.2.1=some (.tup (p.1.map kV)) /\ RelV p.2 q.2.2
def KT.val {H:Hp} {kvs:List (List Key × V)} {xs:List (List Key × Addr × Value)} (r:KT H kvs xs) (k:List Key):RelO (valV kvs k) ((atKey xs k).map (·.2)):=by
 induction r with
 | nil=>exact True.intro
 | @cons p q ps qs h t ih =>
  obtain ⟨h1,_,h2⟩:=h
  by_cases e:p.1=k
  ·have e':q.1=k:=h1.symm.trans e
   have b:atKey (q :: qs) k=some q.2:=by simp [atKey,List.find?_cons,e']
   rw [dj e,b]; exact h2
  ·have e':¬ q.1=k:=λz=>e (h1.trans z)
   have b:atKey (q :: qs) k=atKey qs k:=by simp [atKey,List.find?_cons,e']
   rw [dq e,b]; exact ih
variable {a:Addr}
def Hy {u:HO} (ok:HOk P w H h) (e:Rd H a u):wu P w H h a u:=e.ok ok
def Q0 {kvs:List (Key × V)} (ok:HOk P w H h) (e:Rd H a (.dK kvs)):kvs.length <= sizeLine /\ (a == sysModules)=false /\ ∃ vs,KV kvs vs /\ h.DictOf (yt P w) a vs :=
 show wu P w H h a (.dK kvs) from Hy ok e
def Eu {kvs:List (Key × V)} (ok:HOk P w H h) (e:H a=some (.dK kvs)):kvs.length <= sizeLine /\ (a == sysModules)=false /\ ∃ vs,KV kvs vs /\ h.DictOf (yt P w) a vs:=Q0 ok (.inl e)
def Sy {ks:List Key} (ok:HOk P w H h) (e:H a=some (.tup (ks.map kV))):(tupleKind (yt P w)).is h ks a:=by
 obtain ⟨_,its,r,⟨o,h1,h2,n,h3⟩,_⟩:=(show wu P w H h a (.tup (ks.map kV)) from ok a _ e)
 exact ⟨o,its.toArray,n,h1,h2,h3,by simpa using Zw r⟩
def Oz {kvs:List (List Key × V)} (ok:HOk P w H h) (e:Rd H a (.dT kvs)):kvs.length <= sizeLine /\ (a == sysModules)=false /\
  ∃ xs,KT H kvs xs /\ h.DictOfH (tupleKind (yt P w)) a xs:=by
 obtain ⟨z,y,xs,r,o,es,ep,h1,h2,h3,h4,h5⟩:=(show wu P w H h a (.dT kvs) from Hy ok e)
 refine ⟨z,y,xs,r,o,es,ep,h1,h2,h3,h4,λx hx=>?_,h5⟩
 have all:∀ {l:List (List Key × V)} {m:List (List Key × Addr × Value)},KT H l m->∀ x ∈ m,(tupleKind (yt P w)).is h x.1 x.2.1:=by
  intro l m q
  induction q with
  | nil=>intro x hx; exact nomatch hx
  | @cons p q ps qs hq t ih =>
   intro x hx
   rcases zam.mp hx with e | hx
   ·subst e
    exact Sy ok (by rw [<- hq.1]; exact hq.2.1)
   ·exact ih x hx
 exact all r x hx
def DGet (H:Hp) (a:Addr) (y:V) (r:Option V):Prop :=
 (∃ kvs k,Rd H a (.dK kvs) /\ y=kV k /\ r=valV kvs k) \/ ∃ kvs k b,Rd H a (.dT kvs) /\ y=.ref b /\ H b=some (.tup (k.map kV)) /\ r=valV kvs k
def DPut (H:Hp) (a:Addr) (y v:V) (H':Hp):Prop :=
 (∃ kvs k,H a=some (.dK kvs) /\ y=kV k /\ kvs.length < sizeLine /\ H'=upd H a (.dK (putK kvs k v))) \/
 ∃ kvs k b,H a=some (.dT kvs) /\ y=.ref b /\ H b=some (.tup (k.map kV)) /\ kvs.length < sizeLine /\ H'=upd H a (.dT (putK kvs k v))
def DGet.k {H:Hp} {a:Addr} {kvs:List (Key × V)} {k:Key} (e:H a=some (.dK kvs)):DGet H a (kV k) (valV kvs k):=.inl ⟨kvs,k,.inl e,rfl,rfl⟩
def DGet.t {H:Hp} {a b:Addr} {kvs:List (List Key × V)} {k:List Key} (e:H a=some (.dT kvs)) (eb:H b=some (.tup (k.map kV))):DGet H a (.ref b) (valV kvs k):=.inr ⟨kvs,k,b,.inl e,rfl,eb,rfl⟩
def DPut.k {H:Hp} {a:Addr} {kvs:List (Key × V)} {k:Key} {v:V} (e:H a=some (.dK kvs)) (hl:kvs.length < sizeLine):DPut H a (kV k) v (upd H a (.dK (putK kvs k v))):=.inl ⟨kvs,k,e,rfl,hl,rfl⟩
def DPut.t {H:Hp} {a b:Addr} {kvs:List (List Key × V)} {k:List Key} {v:V} (e:H a=some (.dT kvs)) (eb:H b=some (.tup (k.map kV))) (hl:kvs.length < sizeLine) :
  DPut H a (.ref b) v (upd H a (.dT (putK kvs k v))):=.inr ⟨kvs,k,b,e,rfl,eb,hl,rfl⟩
variable {y:V} {u:Value} {o:Option V}
def Inv.big (I:Inv X pn σ H s):sysModules < s.heap.objs.size:=by
 have h:mainGlobals < s.heap.objs.size:=(I.mod.glob.keeps I.bk).lt
 exact Nat.lt_trans (by decide) h
def Q3 {Q:Value->Shared->Prop} (hu:A.units + 1 < cLine) (I:Inv X pn σ H s) (g:DGet H a y (some v)) (ry:RelV y u) (h:∀ w' s',Inv X pn σ H s'->RelV v w'->Q w' s') :
  wpAny (model X.prog X.w) A (getItem (.ref a) u) Q E s:=by
 rcases g with ⟨kvs,k,e,ey,l⟩ | ⟨kvs,k,b,e,ey,eb,l⟩
 ·subst ey
  obtain ⟨z,hd,vs,rel,dd⟩:=Q0 I.hok e
  obtain ⟨w',hw,rw'⟩:=RelO.some_of (v:=v) (o:=valueAt vs k) (by rw [l]; exact rel.val k)
  exact wpAny_getItem_of (O7 ry) dd.mapOf hw (h w' _ (I.tok _) rw')
 ·subst ey
  cases (show u=Value.ref b from ry)
  obtain ⟨z,hd,xs,rel,dd⟩:=Oz I.hok e
  obtain ⟨w',hw,rw'⟩:=RelO.some_of (v:=v) (o:=(atKey xs k).map (·.2)) (by rw [l]; exact rel.val k)
  obtain ⟨p,hp,hp2⟩:=zar.mp hw
  refine wpAny_getItem_heap (tupleKind_room_in1 hu) (Sy I.hok eb) dd hp ?_
  rw [hp2]
  exact h w' _ (I.tok _) rw'
def d_in {Q:Value->Shared->Prop} (hu:A.units + 1 < cLine) (I:Inv X pn σ H s) (g:DGet H a y o) (ry:RelV y u) (h:∀ s',Inv X pn σ H s'->Q (.bool o.isSome) s') :
  wpAny (model X.prog X.w) A (compareOp .In u (.ref a)) Q E s:=by
 rcases g with ⟨kvs,k,e,ey,l⟩ | ⟨kvs,k,b,e,ey,eb,l⟩
 ·subst ey
  obtain ⟨z,hd,vs,rel,dd⟩:=Q0 I.hok e
  refine wpAny_in_of (O7 ry) hd dd.mapOf ?_
  rw [<- (rel.val k).isSome_eq,<- l]
  exact h _ (I.tok _)
 ·subst ey
  cases (show u=Value.ref b from ry)
  obtain ⟨z,hd,xs,rel,dd⟩:=Oz I.hok e
  refine wpAny_in_heap (tupleKind_room_in1 hu) (Sy I.hok eb) hd dd ?_
  have q:=(rel.val k).isSome_eq
  rw [Option.isSome_map] at q
  rw [<- q,<- l]
  exact h _ (I.tok _)
def Jl {h':Heap} {t':Nat} {ob:HO} (I:Inv X pn σ H s) (mu:Mut (H a)) (hs:Heap.SameBut a s.heap h') (he:∃ q,h'.get? a=some q) (new:wu X.prog X.w (upd H a ob) h' a ob) :
  Inv X pn σ (upd H a ob) { s with heap:=h',toks:=t' } :=
 I.write (x:=a) (e:=a) mu (.inl rfl) (λb q hb z=>(hs.2 b hb).trans z) he new
def Q1 {P:Program} {w:World} {H':Hp} {h':Heap} {kvs:List (Key × V)} {vs:List (Key × Value)} (z:kvs.length <= sizeLine) (hd:(a == sysModules)=false) (rel:KV kvs vs) (dd:h'.DictOf (yt P w) a vs) :
  wu P w H' h' a (.dK kvs):=⟨z,hd,vs,rel,dd⟩
def W5 {X:Cx} {pn:List (Addr × Obj)} {σ:St} {H:Hp} {s:Shared} {a:Addr} {y:V} {o:Option V} (I:Inv X pn σ H s) (g:DGet H a y o):s.TypeIs (.ref a) "dict":=by
 rcases g with ⟨kvs,k,e,_,_⟩ | ⟨kvs,k,b,e,_,_,_⟩
 ·obtain ⟨_,_,vs,_,dd⟩:=Q0 I.hok e
  exact dd.typeIs
 ·obtain ⟨_,_,xs,_,dd⟩:=Oz I.hok e
  exact dd.typeIs
structure M1 (X:Cx) (o:Expr) (m:Str) (apos:Pos) (e:Expr) (cpos:Pos):Prop where
 base:attributeBase o m X.env (eval o X.env)=eval o X.env
 few:((backTo cpos (starEach [e] X.env)).all (λx=>!x.1) && (backToKw cpos (keywordEach [] X.env)).all (λx=>x.1.isSome)
  && decide (([e]:List Expr).length + ([]:List Keyword).length + (if ([]:List Keyword).isEmpty then 0 else 1) < 30))=true
 line:(apos.endLine == cpos.line)=true
 trees:backTo cpos (starEach [e] X.env)=[(false,eval e X.env)]
def IsD (H:Hp) (a:Addr):Prop:=(∃ kvs,Rd H a (.dK kvs)) \/ ∃ kvs,Rd H a (.dT kvs)
def Ec {X:Cx} {pn:List (Addr × Obj)} {σ:St} {H:Hp} {s:Shared} {a:Addr} (I:Inv X pn σ H s) (d:IsD H a) :
  s.TypeIs (.ref a) "dict" /\ (∀ b,Value.ref a=.ref b->∃ ob,s.heap.get? b=some ob /\ ob.dict=none) /\ (a == sysModules)=false:=by
 rcases d with ⟨kvs,e⟩ | ⟨kvs,e⟩
 ·obtain ⟨_,hd,vs,_,dd⟩:=Q0 I.hok e
  refine ⟨dd.typeIs,λb q=>?_,hd⟩
  cases q
  obtain ⟨ob,_,_,h1,h2,_⟩:=dd
  exact ⟨ob,h1,h2.2.1⟩
 ·obtain ⟨_,hd,xs,_,dd⟩:=Oz I.hok e
  refine ⟨dd.typeIs,λb q=>?_,hd⟩
  cases q
  obtain ⟨ob,_,_,h1,h2,_⟩:=dd
  exact ⟨ob,h1,h2.2.1⟩
instance decMemKey (k:Key) (ks:List Key):Decidable (k ∈ ks):=decidable_of_iff (ks.any (λx=>decide (x=k))=true) (by simp)
variable {α:Type}
def um:List Key->List α->Key->Option α
 | k' :: ks,d :: ds,k=>if k'=k then some d else um ks ds k
 | _,_,_=>none
def kput (ks:List Key) (k:Key):List Key:=if k ∈ ks then ks else ks ++ [k]
def dput:List Key->List α->Key->α->List α
 | k' :: ks,d' :: ds,k,d=>if k'=k then d :: ds else d' :: dput ks ds k d
 | _,_,_,d=>[d]
def di:∀ (ks:List Key) (xs:List V) (k:Key),valV (ks.zip xs) k=um ks xs k
 | [],xs,k=>by cases xs <;> rfl
 | k' :: ks,[],k=>rfl
 | k' :: ks,x :: xs,k=>by
  rw [List.zip_cons_cons,um]
  by_cases e:k'=k
  ·rw [if_pos e,dj (by exact e)]
  ·rw [if_neg e,dq (by exact e),di ks xs k]
def qo {α:Type}:∀ {ks:List Key} {xs:List α} {k:Key},ks.length=xs.length->(um ks xs k=none ↔ k ∉ ks)
 | [],xs,k,h=>by cases xs <;> simp [um] at *
 | k' :: ks,[],k,h=>by simp at h
 | k' :: ks,x :: xs,k,h=>by
  rw [um]
  by_cases e:k'=k
  ·simp [e]
  ·rw [if_neg e,qo (by simpa using h)]
   simp [e,Ne.symm e]
def Zi:∀ {ks:List Key} {ds:List D} {xs:List V} {k:Key},Reps K H O ds xs->(∀ d,um ks ds k=some d->∃ v,um ks xs k=some v /\ Rep K H O d v) /\ (um ks ds k=none->um ks xs k=none)
 | [],ds,xs,k,r=>⟨(λd h=>by cases ds <;> cases h),(λ_=>by cases xs <;> rfl)⟩
 | k' :: ks,[],xs,k,r=>by
  cases r
  exact ⟨(λd h=>by cases h),λ_=>rfl⟩
 | k' :: ks,d' :: ds,xs,k,r=>by
  obtain ⟨v,ws,rfl,q,t⟩:=r
  rw [um,um]
  by_cases e:k'=k
  ·rw [if_pos e,if_pos e]
   exact ⟨(λd h=>by cases h; exact ⟨v,rfl,q⟩),(λh=>by cases h)⟩
  ·rw [if_neg e,if_neg e]
   exact Zi t
def keyD:D->Option Key
 | .int i=>some (.inl i)
 | .str x=>some (.inr x)
 | _=>none
def V5 {K:W.Frag} {H:Hp} {O:List Addr} {d:D} {v:V} {k:Key} (h:View K H O d v) (e:keyD d=some k):v=kV k:=by
 cases d with
 | int i=>cases e; exact h
 | str i=>cases e; exact h
 | _=>cases e
variable {a:Expr} {t:TDs}
def Ff (hu:X.A.units + 1 < cLine):OpR X (compareOp .In) (λx y H Q=>∃ a kvs k,y=.ref a /\ H a=some (.dK kvs) /\ x=kV k /\ Q (.bl (valV kvs k).isSome) H):=by
 intro pn s σ H x y v u Q I rx ry h
 obtain ⟨a,kvs,k,rfl,ha,rfl,q⟩:=h
 cases ry
 exact d_in hu I (DGet.k ha) rx λs' I'=>⟨.bl _,H,I',rfl,q⟩
def Xq {α:Type} {ks:List Key} {xs:List α} {k:Key} (h:ks.length=xs.length):(um ks xs k).isSome=decide (k ∈ ks):=by
 by_cases hk:k ∈ ks
 ·rw [decide_eq_true hk]
  cases e:um ks xs k with
  | none=>exact absurd hk ((qo h).mp e)
  | some _=>rfl
 ·rw [decide_eq_false hk,(qo h).mpr hk]
  rfl
def bp:D->Bool
 | .non=>true
 | .bl _=>true
 | .int _=>true
 | .str _=>true
 | _=>false
def inD (x:D) (l:List D):Bool:=l.any λy=>eqD y x
def sIn (neg:Bool):D->D->(EV->Prop)->Prop:=λx y φ=>match y with
 | .dk ks _=>(match keyD x with | some k=>φ (dv (.bl (if neg then !decide (k ∈ ks) else decide (k ∈ ks)))) | none=>False)
 | .lst l=>bp x=true /\ l.all bp=true /\ φ (dv (.bl (if neg then !inD x l else inD x l)))
 | .tup l=>bp x=true /\ l.all bp=true /\ φ (dv (.bl (if neg then !inD x l else inD x l)))
 | .str z=>(match x with | .str p=>φ (dv (.bl (if neg then !(!(Builtin.Str.occurrences z p 0 z.length 1).isEmpty) else !(Builtin.Str.occurrences z p 0 z.length 1).isEmpty))) | _=>False)
 | _=>False
def jn {K:W.Frag} {H:Hp} {O:List Addr} {d:D} {v:V} (h:View K H O d v) (f:bp d=true):gi v=true /\ ∀ (e:D) (w:V),View K H O e w->bp e=true->eqV v w=eqD d e:=by
 cases d with
 | non=>cases (show v=_ from h); exact ⟨rfl,λe w he fe=>by cases e <;> first | (cases (show w=_ from he); rfl) | cases fe⟩
 | bl b=>cases (show v=_ from h); exact ⟨rfl,λe w he fe=>by cases e <;> first | (cases (show w=_ from he); rfl) | cases fe⟩
 | int b=>cases (show v=_ from h); exact ⟨rfl,λe w he fe=>by cases e <;> first | (cases (show w=_ from he); rfl) | cases fe⟩
 | str b=>cases (show v=_ from h); exact ⟨rfl,λe w he fe=>by cases e <;> first | (cases (show w=_ from he); rfl) | cases fe⟩
 | _=>cases f
def Xr {K:W.Frag} {H:Hp} {O:List Addr} {x:D} {v:V} (hx:View K H O x v) (fx:bp x=true):∀ {l:List D} {xs:List V},Reps K H O l xs->l.all bp=true->xs.all gi=true /\ inV v xs=inD x l
 | [],_,r,_=>by cases r; exact ⟨rfl,rfl⟩
 | d :: l,xs,r,f=>by
  obtain ⟨w,ws,rfl,q,t⟩:=r
  rw [List.all_cons,Bool.and_eq_true] at f
  obtain ⟨i1,i2⟩:=Xr hx fx t f.2
  obtain ⟨g1,g2⟩:=jn q.view f.1
  refine ⟨by rw [List.all_cons,g1,i1]; rfl,?_⟩
  unfold inV inD at *
  rw [List.any_cons,List.any_cons,i2,g2 x v hx fx]
def Kt {K:W.Frag} {neg:Bool}:rz K (λx y H Q=>(∃ a kvs k,y=.ref a /\ H a=some (.dK kvs) /\ x=kV k /\ Q (.bl (if neg then !(valV kvs k).isSome else (valV kvs k).isSome)) H) \/ rIn K neg x y H Q \/ ∃ i j,x=.str i /\ y=.str j /\ Q (.bl (if neg then !(!(Builtin.Str.occurrences j i 0 j.length 1).isEmpty) else !(Builtin.Str.occurrences j i 0 j.length 1).isEmpty)) H) (sIn neg):=by
 intro H O x y vx vy φ Q ho hx hy h k
 unfold sIn at h
 split at h
 ·split at h
  ·rename_i ks ds kk ek
   obtain ⟨a,xs,rfl,q,l,nd,r⟩:=hy
   refine .inl ⟨a,_,kk,rfl,q,V5 hx ek,?_⟩
   rw [di,Xq (by rw [l,r.length])]
   exact k _ _ H (Same.refl H) (by exact rfl) h
  ·exact h.elim
 ·obtain ⟨f1,f2,h⟩:=h
  obtain ⟨a,xs,rfl,q,r⟩:=hy
  obtain ⟨g1,g2⟩:=Xr hx f1 r f2
  refine .inr (.inl ⟨a,xs,rfl,.inl (SqL.of q),(jn hx f1).1,g1,?_⟩)
  rw [g2]
  exact k _ _ H (Same.refl H) (by exact rfl) h
 ·obtain ⟨f1,f2,h⟩:=h
  obtain ⟨a,xs,rfl,q,r⟩:=hy
  obtain ⟨g1,g2⟩:=Xr hx f1 r f2
  refine .inr (.inl ⟨a,xs,rfl,.inr q.1,(jn hx f1).1,g1,?_⟩)
  rw [g2]
  exact k _ _ H (Same.refl H) (by exact rfl) h
 ·split at h
  ·exact .inr (.inr ⟨_,_,hx,hy,k _ _ H (Same.refl H) (by exact rfl) h⟩)
  ·exact h.elim
 ·exact h.elim
def Dv (hu:X.A.units + 64 < cLine) (ha:ED Γ X a ta) (hb:ED Γ X b tb) (hm:behindInMarks .In b=false:=by with_unfolding_all rfl):ED Γ X (.Compare a [.In] [b] pos) (d2 (sIn false) ta tb):=Vk ((Ff (by omega)).or (Sf.or Se)) Kt ha hb hm
def sIxx:D->D->(EV->Prop)->Prop:=λx y φ=>match x with
 | .dk ks ds=>(match keyD y with
  | some k=>(match um ks ds k with
   | some d=>φ (dv d)
   | none=>False)
  | none=>False)
 | x=>sIx1 x y φ
def J2 (hu:X.A.units + 1 < cLine):IxR X (λx y H Q=>∃ a kvs k v,x=.ref a /\ H a=some (.dK kvs) /\ y=kV k /\ valV kvs k=some v /\ Q v H):=by
 intro value slice pn s σ H x y v u Q I rx ry h hs
 obtain ⟨a,kvs,k,w,rfl,ha,rfl,e,q⟩:=h
 cases rx
 have g:DGet H a (kV k) (some w):=by rw [<- e]; exact DGet.k ha
 exact tail_any (W5 I g) PySem.F.slot_dict_getitem.lookup (Q3 hu I g ry λw' s' I' rw'=>⟨w,H,I',rw',q⟩) hs
def Px:rz X.K (λx y H Q=>rIx X.K x y H Q \/ ∃ a kvs k v,x=.ref a /\ H a=some (.dK kvs) /\ y=kV k /\ valV kvs k=some v /\ Q v H) sIxx:=by
 intro H O x y vx vy φ Q ho hx hy h k
 cases x with
 | dk ks ds =>
  obtain ⟨a,xs,rfl,q,l,nd,r⟩:=hx
  unfold sIxx at h
  dsimp only at h
  split at h
  ·rename_i kk ek
   split at h
   ·rename_i d ed
    obtain ⟨v,ev,rv⟩:=(Zi (ks:=ks) (k:=kk) r).1 d ed
    exact .inr ⟨a,_,kk,v,rfl,q,V5 hy ek,by rw [di]; exact ev,k _ _ H (Same.refl H) (RV.val rv) h⟩
   ·exact h.elim
  ·exact h.elim
 | _=>exact .inl (Kr H O _ y vx vy φ Q ho hx hy h k)
def zh (hu:X.A.units + 64 < cLine) (ha:ED Γ X a ta) (hb:ED Γ X b tb) (hs:Wc b:=by intro _ _; rfl):ED Γ X (.Subscript a b pos) (d2 sIxx ta tb):=λH₀=>impE (Pm (V7.or (J2 (by omega))) (ha H₀) (hb H₀) hs) (O1 Px)
variable {tk:TD}
def Hs (i:Nat) (tk te:TD):TDS:=λρ Z=>match slot ρ i with
 | some ⟨.own,.dk ks ds⟩=>te ρ λr=>tk ρ λkr=>(match r.k with | .own=>False | _=>True) /\ ds.length <= 100000 /\ (match keyD kr.d with
  | some k=>Z.nx (setS ρ i (dO (.dk (kput ks k) (dput ks ds k r.d))))
  | none=>False)
 | _=>False
def clrS:DE->Nat->DE
 | [],_=>[]
 | _ :: r,0=>none :: r
 | x :: r,i + 1=>x :: clrS r i
def W7:∀ (ρ:DE) (i:Nat),clrS ρ i=ρ.set i none
 | [],_=>rfl
 | _ :: _,0=>rfl
 | x :: r,i + 1=>by rw [clrS,W7 r i,List.set_cons_succ]
def XP (Γ:Hp->Prop) (X:Cx) (χ:DE->Addr->Prop):Prop:=∀ (H₀:Hp),Γ H₀->∀ (ρ:DE) (o:List (Nat × Addr)) (pn:List (Addr × Obj)) (σ:St) (H:Hp) (s:Shared) (e:Value) (s':Shared),Inv X pn σ H s->REnv X.K H₀ H σ ρ o ->
 CX1 X.prog X.w X.stack H s (λcls _ H'=>Same H H' /\ ∃ C,cls=.ref C /\ χ ρ C) e s'->X.xe e s'
def qi {N:List Str} {ds:List D} {vs:List V} {H:Hp} (r:Reps K H [] ds vs):REnv K H H (ZZ.start N vs) (wc N.length ds) []:=by
 have rl:=r.length
 refine ⟨Same.refl H,(λ_ z=>absurd z (by simp)),(λ_ z=>absurd z (by simp)),(λ_ z=>absurd z (by simp)),List.nodup_nil,λi r' e=>?_,?_⟩
 ·unfold wc at e
  rcases Nat.lt_or_ge i ds.length with hi | hi
  ·rw [List.getElem?_append_left (by simpa using hi),zai] at e
   have ed:ds[i]?=some ds[i]:=by simp [hi]
   rw [ed] at e
   have e':some (dv ds[i])=some r':=Option.some.inj e
   cases e'
   obtain ⟨v,ev,rv⟩:=r.get ed
   refine ⟨v,?_,.inl ⟨rfl,rv⟩⟩
   unfold ZZ.start
   rw [List.getElem?_append_left (by rw [zLm,rl]; exact hi),zai,ev]
   rfl
  ·rw [List.getElem?_append_right (by simpa using hi),List.getElem?_replicate] at e
   split at e <;> cases e
 ·unfold ZZ.start wc
  simp [rl]
def cp10 {j:Int} (h0:0 <= j) (h1:j <= 1000):CPow 10 j=True:=by
 refine eq_true ⟨h0,by omega,by decide⟩
def Ux {k:Nat}:((10:Int) ^ k=0)=False:=by
 refine eq_false ?_
 have:(0:Int) < 10 ^ k:=Int.pow_pos (by decide)
 omega
def Mi {i j:Int} (h:j ≠ 0) (h1:j.natAbs <= 1000000000000):FdOk i j=True:=eq_true (fdOk (m:=64) h (PySem.intBits_le_iff.mpr (by omega)))
def u6 (l:List D) (k:Nat):cutD l none (some (k:Int))=l.take k:=by
 unfold cutD
 rw [ZZ.sIx_none,ZZ.sIx_nat,List.drop_zero,Nat.sub_zero]
 rw [List.take_eq_take_iff]
 omega
def N3 (l:List D) (j k:Nat):cutD l (some (j:Int)) (some (k:Int))=(l.drop j).take (k - j):=by
 unfold cutD
 rw [ZZ.sIx_nat,ZZ.sIx_nat]
 by_cases h:j <= l.length
 ·rw [Nat.min_eq_left h,List.take_eq_take_iff,List.length_drop]
  omega
 ·rw [show min j l.length=l.length by omega,List.drop_of_length_le (zaj _),List.drop_of_length_le (by omega)]
  simp
def tu {α:Type} {l:List α} {i:Int} {x:α} (h0:0 <= i) (h:l[i.toNat]?=some x):atI l i=some x:=by
 have:=Z4 h
 rwa [Int.toNat_of_nonneg h0] at this
def ve (x m:Int) (h:0 < m):0 <= x.fmod m /\ x.fmod m < m:=⟨Int.fmod_nonneg_of_pos x h,Int.fmod_lt_of_pos x h⟩
def Mu {x:Int} {m:Nat} (h:x.natAbs < 2 ^ m):intBits x <= m:=PySem.intBits_le_iff.mpr h
def vm {ti:TID} {g:TGD} {tb:TDS} {ρ:DE} {Z:DZ} (ds:List D) (h:∀ φ:List D->Prop,φ ds->ti ρ φ) (P:Nat->DE->Prop) (h0:P 0 ρ)
  (ht:∀ i d ρ,ds[i]?=some d->P i ρ->g d ρ λρ'=>tb ρ' { Z with nx:=P (i + 1),ct:=P (i + 1),bk:=Z.nx }) (hd:∀ ρ,P ds.length ρ->Z.nx ρ):sFor ti g tb ρ Z:=h _ ⟨P,h0,ht,hd⟩
def yw {ti:TID} {n:Nat} {js:List Nat} {g:TGD} {tc:TDb} {te:TD} {ρ:DE} {φ:EV->Prop} (ds:List D) (h:∀ ψ:List D->Prop,ψ ds->ti ρ ψ) (f:D->Option D) (hl:ds.length <= 100000)
  (ht:∀ d ∈ ds,g d (ρ0 n js ρ) λρ'=>tc ρ' λc=>(c=true->te ρ' λr=>(match r.k with | .own=>False | _=>True) /\ f d=some r.d) /\ (c=false->f d=none)) (hφ:φ (df (.lst (ds.filterMap f)))):N1 ti n js g tc te ρ φ:=h _ ⟨f,hl,ht,hφ⟩
def tw {lo:Int} {n i:Nat} {d:D} (h:(rngD lo n)[i]?=some d):i < n /\ d=.int (lo + (i:Int)):=by
 unfold rngD at h
 rw [zai] at h
 cases e:(List.range n)[i]? with
 | none=>rw [e] at h; cases h
 | some m =>
  rw [e] at h
  have hi:=(zag.mp e).1
  rw [List.length_range] at hi
  rw [List.getElem?_range hi] at e
  cases e
  cases h
  exact ⟨hi,rfl⟩
def wm {lo:Int} {n:Nat}:(rngD lo n).length=n:=by unfold rngD; simp
def Jr {α β:Type} (f:α->β) (l:List α) (i:Int):atI (l.map f) i=(atI l i).map f:=by
 unfold atI
 rw [zLm]
 cases ixN l.length i with
 | none=>rfl
 | some j=>simp
def cf {X:Cx} {K0:W.Frag} {es:List Expr} {k:Nat} {t:TGs} {n:Nat} {pos:Pos} (hK:X.K=K0) (hc:X.calm=true) (h:PGs X es t) (hn:(assignEach es X.env).length=n:=by rfl) (hst:(assignEach es X.env).findIdx? (·.1)=none:=by rfl):PG X (.Tuple es k pos) (gTup K0 n t):=by
 subst hK
 exact Gu hc h hn hst
def zipD (xs ys:List D):List D:=List.zipWith (λx y=>D.tup [x,y]) xs ys
def seqD:D->Option (List D)
 | .lst ds=>some ds
 | .tup ds=>some ds
 | .scr ns=>some (ns.map D.int)
 | _=>none
def P4 {ds:List D}:seqD (.lst ds)=some ds:=rfl
def P2 {ds:List D}:seqD (.tup ds)=some ds:=rfl
def P3 {ns:List Int}:seqD (.scr ns)=some (ns.map D.int):=rfl
def SeqP (b:Bool) (K:W.Frag) (H:Hp) (O:List Addr) (l:Addr) (d:D):Prop:=match d with
 | .lst ds=>b=false /\ ∃ xs,H l=some (.lst xs) /\ l ∉ O /\ Reps K H O ds xs
 | .tup ds=>b=true /\ ∃ xs,SqT K H l xs /\ Reps K H O ds xs
 | .scr ns=>b=false /\ Scr K H l ns
 | _=>False
def SeqP.of {K:W.Frag} {H:Hp} {O:List Addr} {d:D} {v:V} {ds:List D} (h:Rep K H O d v) (e:seqD d=some ds):∃ b l,v=.ref l /\ SeqP b K H O l d:=by
 cases d with
 | lst es=>obtain ⟨a,xs,rfl,q,n,r⟩:=h; exact ⟨false,a,rfl,rfl,xs,q,n,r⟩
 | tup es=>obtain ⟨a,xs,rfl,q,r⟩:=h; exact ⟨true,a,rfl,rfl,xs,q.1,r⟩
 | scr ns=>obtain ⟨a,rfl,q⟩:=h; exact ⟨false,a,rfl,rfl,q⟩
 | _=>cases e
def SeqP.sq {b:Bool} {K:W.Frag} {H:Hp} {O:List Addr} {l:Addr} {d:D} {ds:List D} (h:SeqP b K H O l d) (e:seqD d=some ds):∃ xs,SqK b K H l xs /\ Reps K H O ds xs:=by
 cases d with
 | lst es=>obtain ⟨rfl,xs,q,n,r⟩:=h; cases e; exact ⟨xs,SqL.of q,r⟩
 | tup es=>obtain ⟨rfl,xs,q,r⟩:=h; cases e; exact ⟨xs,q,r⟩
 | scr ns=>obtain ⟨rfl,q⟩:=h; cases e; exact ⟨_,q.seq,Reps.ints ns⟩
 | _=>cases e
def SeqP.grow {b:Bool} {K:W.Frag} {H H':Hp} {O O':List Addr} {l:Addr} {d:D} (h:SeqP b K H O l d) (g:Grow O O' H H'):SeqP b K H' O' l d:=by
 cases d with
 | lst es=>obtain ⟨rfl,xs,q,n,r⟩:=h; exact ⟨rfl,xs,(g.keep _ _ q n).1,(g.keep _ _ q n).2,Reps.grow g _ _ r⟩
 | tup es=>obtain ⟨rfl,xs,q,r⟩:=h; exact ⟨rfl,xs,dw g q,Reps.grow g _ _ r⟩
 | scr ns=>obtain ⟨rfl,q⟩:=h; exact ⟨rfl,kj g q⟩
 | _=>exact h.elim
def E6 {K:W.Frag} {b1 b2:Bool} {l1 l2:Addr} {d1 d2:D} {xs ys:List D} (e1:seqD d1=some xs) (e2:seqD d2=some ys):ItD K (Itz b1 b2 K l1 l2) (zipD xs ys) (λH O=>SeqP b1 K H O l1 d1 /\ SeqP b2 K H O l2 d2) where
 go:=λH O i d ⟨p1,p2⟩ e=>by
  obtain ⟨us,q1,r1⟩:=p1.sq e1
  obtain ⟨vs,q2,r2⟩:=p2.sq e2
  unfold zipD at e
  rw [List.getElem?_zipWith] at e
  cases ex:xs[i]? with
  | none=>rw [ex] at e; cases e
  | some x =>
   cases ey:ys[i]? with
   | none=>rw [ex,ey] at e; cases e
   | some y =>
    rw [ex,ey] at e
    cases e
    obtain ⟨u,eu,ru⟩:=r1.get ex
    obtain ⟨v,ev,rv⟩:=r2.get ey
    refine ⟨⟨us,vs,u,v,q1,q2,eu,ev⟩,λz H' yl=>?_⟩
    obtain ⟨T,u',v',hT,rfl,eu',ev',rfl⟩:=yl
    have eu':=eu' _ q1
    have ev':=ev' _ q2
    rw [eu] at eu'
    rw [ev] at ev'
    cases eu'
    cases ev'
    have sm:Same H (upd H T (.tup [u,v])):=λb w hb=>by rw [y7 (zr hb hT)]; exact hb
    refine ⟨sm,T,[u,v],rfl,⟨.inl (.inl zy),zy⟩,?_⟩
    exact ⟨u,[v],rfl,Rep.grow (Grow.same sm) _ _ ru,v,[],rfl,Rep.grow (Grow.same sm) _ _ rv,rfl⟩
 stop:=λH O ⟨p1,p2⟩=>by
  obtain ⟨us,q1,r1⟩:=p1.sq e1
  obtain ⟨vs,q2,r2⟩:=p2.sq e2
  refine ⟨us,vs,q1,q2,?_⟩
  have h1:=r1.length
  have h2:=r2.length
  unfold zipD
  rw [List.length_zipWith,h1,h2]
  omega
 keep:=λO O' H H' ⟨p1,p2⟩ g=>⟨p1.grow g,p2.grow g⟩
def iZ (t:TDs):TID:=λρ φ=>t ρ λrs=>match rs with
 | [⟨k1,d1⟩,⟨k2,d2⟩]=>(match k1 with | .own=>False | _=>True) /\ (match k2 with | .own=>False | _=>True) /\ match seqD d1,seqD d2 with
  | some xs,some ys=>φ (zipD xs ys)
  | _,_=>False
 | _=>False
def Er {es:List Expr} {kk:Nat} {tp:Pos} {a b:Expr} {t:TDs} {p pos:Pos} (hm:X.mg "zip" = none) (ha:EA Γ X [a,b] t) (hg:Gl X "zip":=by rfl)
  (he:starEach [a,b] X.env=(false,eval a X.env) :: starEach [b] X.env:=by rfl) (hpl:(backTo pos (starEach [b] X.env)).any (·.1)=false:=by rfl):EI Γ X (.Tuple es kk tp) (.Call (.Name "zip" p) [a,b] [] pos) (iZ t):=λH₀=>impI (Gs hg hm (ha H₀) he hpl) λσ H R q=>by
 obtain ⟨ρ,o,RE,φ,hφ,k⟩:=q
 refine ⟨ρ,o,RE,_,hφ,λvs rs H1 s1 rvs h1=>?_⟩
 split at h1
 ·rename_i k1 d1 k2 d2
  obtain ⟨n1,n2,h1⟩:=h1
  obtain ⟨v1,w1,rfl,q1,v2,w2,rfl,q2,rfl⟩:=rvs
  have p1:=q1.solid (vv n1)
  have p2:=q2.solid (vv n2)
  split at h1
  ·rename_i xs ys e1 e2
   obtain ⟨b1,l1,rfl,z1⟩:=SeqP.of p1 e1
   obtain ⟨b2,l2,rfl,z2⟩:=SeqP.of p2 e2
   obtain ⟨us,y1,_⟩:=z1.sq e1
   obtain ⟨ws,y2,_⟩:=z2.sq e2
   exact ⟨b1,b2,l1,l2,us,ws,rfl,y1,y2,k _ _ _ H1 s1 (E6 e1 e2) ⟨z1,z2⟩ h1⟩
  ·exact h1.elim
 ·exact h1.elim
def J6:List D->Option (List Int)
 | []=>some []
 | .int n :: r=>(J6 r).map (n :: ·)
 | _ :: _=>none
def Y6:∀ (ns:List Int),J6 (ns.map D.int)=some ns
 | []=>rfl
 | n :: ns=>by rw [List.map_cons,J6,Y6 ns]; rfl
def frzS:DE->Nat->DE
 | [],_=>[]
 | x :: r,0=>x.map (λr=>dv r.d) :: r
 | x :: r,i + 1=>x :: frzS r i
def V9:∀ (ρ:DE) (i j:Nat),(frzS ρ i)[j]?=if j=i then ρ[j]?.map (λx=>x.map λr=>dv r.d) else ρ[j]?
 | [],i,j=>by simp [frzS]
 | x :: r,0,0=>rfl
 | x :: r,0,j + 1=>by simp [frzS]
 | x :: r,i + 1,0=>by simp [frzS]
 | x :: r,i + 1,j + 1=>by
  have:=V9 r i j
  simp only [frzS,List.getElem?_cons_succ,this]
  by_cases h:j=i
  ·simp [h]
  ·rw [if_neg h,if_neg (by omega)]
def V8:∀ (ρ:DE) (i:Nat),(frzS ρ i).length=ρ.length
 | [],_=>rfl
 | _ :: _,0=>rfl
 | x :: r,i + 1=>by simp [frzS,V8 r i]
def REnv.frz1 {K:W.Frag} {H₀ H:Hp} {σ:St} {ρ:DE} {o:List (Nat × Addr)} (R:REnv K H₀ H σ ρ o) (i:Nat):∃ o',REnv K H₀ H σ (frzS ρ i) o' /\ ∀ p ∈ o',p ∈ o:=by
 refine ⟨o.filter λp=>decide (p.1 ≠ i),?_,λp hp=>(List.mem_filter.mp hp).1⟩
 have sub:∀ p ∈ o.filter (λp=>decide (p.1 ≠ i)),p ∈ o:=λp hp=>(List.mem_filter.mp hp).1
 have subA:∀ a ∈ (o.filter (λp=>decide (p.1 ≠ i))).map Prod.snd,a ∈ o.map Prod.snd:=λa ha=>by
  obtain ⟨p,hp,e⟩:=zah.mp ha
  exact zah.mpr ⟨p,sub p hp,e⟩
 exact {
  same:=R.same
  fresh:=λp hp=>R.fresh p (sub p hp)
  trk:=λp hp=>R.trk p (sub p hp)
  mtb:=λp hp=>R.mtb p (sub p hp)
  nda:=List.Nodup.sublist (List.Sublist.map _ List.filter_sublist) R.nda
  len:=by rw [V8]; exact R.len
  slots:=λj r e=>by
   rw [V9] at e
   by_cases hj:j=i
   ·rw [if_pos hj] at e
    cases e1:ρ[j]? with
    | none=>rw [e1] at e; cases e
    | some x =>
     rw [e1] at e
     cases x with
     | none=>cases e
     | some r' =>
      have e':some (dv r'.d)=some r:=Option.some.inj e
      cases e'
      obtain ⟨v,ev,q⟩:=R.slots j r' e1
      refine ⟨v,ev,.inl ⟨rfl,?_⟩⟩
      rcases q with ⟨_,q⟩ | ⟨_,a,rfl,m,c⟩
      ·exact Rep.sub subA _ _ q
      ·refine (c.sub subA).rep λz=>?_
       obtain ⟨p,hp,ep⟩:=zah.mp z
       have:=qt R.nda (sub p hp) m ep
       have hne:=of_decide_eq_true (List.mem_filter.mp hp).2
       rw [this] at hne
       exact hne hj
   ·rw [if_neg hj] at e
    obtain ⟨v,ev,q⟩:=R.slots j r e
    refine ⟨v,ev,?_⟩
    rcases q with ⟨k,q⟩ | ⟨k,a,e1,m,c⟩
    ·exact .inl ⟨k,Rep.sub subA _ _ q⟩
    ·exact .inr ⟨k,a,e1,List.mem_filter.mpr ⟨m,decide_eq_true hj⟩,c.sub subA⟩ }
def sFrz (i:Nat) (t:TDS):TDS:=λρ Z=>t (frzS ρ i) Z
def Wm (i:Nat) {X:Cx} {st:Stmt} {t:TDS} (h:SD Γ X st t):SD Γ X st (sFrz i t):=λH₀=>impS (h H₀) λD σ H h=>by
 obtain ⟨ρ,o,R,Z,hZ,k1,k2,k3,k4⟩:=h
 obtain ⟨o',R',sub⟩:=R.frz1 i
 have g:Grow (o.map Prod.snd) (o'.map Prod.snd) H H:=⟨λb u h n=>⟨h,λz=>n (by
  obtain ⟨p,hp,e⟩:=zah.mp z
  exact zah.mpr ⟨p,sub p hp,e⟩)⟩,λb xs h=>h,λb ob u h=>h⟩
 exact ⟨_,o',R',Z,hZ,λρ2 σ2 H2 o2 g2 R2 q2=>k1 ρ2 σ2 H2 o2 (g.trans g2) R2 q2,λρ2 σ2 H2 o2 g2 R2 q2=>k2 ρ2 σ2 H2 o2 (g.trans g2) R2 q2,λρ2 σ2 H2 o2 g2 R2 q2=>k3 ρ2 σ2 H2 o2 (g.trans g2) R2 q2,k4⟩
variable {ke:Expr}
def Ln (i:Nat) (tk te:TD):TDS:=λρ Z=>match slot ρ i with
 | some ⟨.own,.lst ds⟩=>te ρ λr=>tk ρ λkr=>(match r.k with | .own=>False | _=>True) /\ (match kr.d with
  | .int k=>(match ixN ds.length k with
   | some j=>Z.nx (setS ρ i (dO (.lst (ds.set j r.d))))
   | none=>False)
  | _=>False)
 | _=>False
def Lk (i:Nat) (hu:X.A.units + 64 < cLine) (hk:ED Γ X ke tk) (he:ED Γ X e te) (hN:X.N[i]?=some x:=by rfl) (hv:Vis X.env.scope x:=by walk_at "o") (hd:(x == ("__debug__" : Str))=false:=by decide)
  (hcd:(x == ("__classdict__" : Str))=false:=by decide) (hs:swapsWithSole [.Subscript (.Name x np) ke pos'] e pos.line X.env=pure false:=by rfl) (hw:swappedStores [.Subscript (.Name x np) ke pos'] e X.env=pure none:=by rfl)
  (h1:(assignEach [.Subscript (.Name x np) ke pos'] X.env).map (·.2)=[assign (.Subscript (.Name x np) ke pos') X.env]:=by rfl)
  (ha:∀ v,assign (.Subscript (.Name x np) ke pos') X.env v=(do
   let ov <- holding [v] (eval (.Name x np) X.env)
   let iv <- holding [v,ov] (eval ke X.env)
   standAt pos'
   holding [v,ov,iv] (setItem ov iv v)
   release [v,ov,iv] []):=by intro _; rfl):SD Γ X (.Assign [.Subscript (.Name x np) ke pos'] e pos) (Ln i tk te):=λH₀ =>
 impS (Wy (he H₀) (Nz (wq hN hv hd hcd) (hk H₀) Wk ha) hs hw h1) λD σ H h=>by
  obtain ⟨ρ,o,R,Z,hZ,k1,k2,k3,k4⟩:=h
  unfold Ln at hZ
  split at hZ
  ·rename_i ds es
   obtain ⟨v0,ev0,q0⟩:=R.slots i _ (yo es)
   rcases q0 with ⟨k,_⟩ | ⟨_,a,rfl,m,c⟩
   ·cases k
   obtain ⟨xs,hx,rx⟩:=c
   refine ⟨ρ,o,R,_,hZ,λv r H1 s1 rv h1=>⟨.ref a,ev0,ρ,o,R.to s1,_,h1,λv2 r2 H2 s2 rv2 h2=>?_⟩⟩
   obtain ⟨h0,h2⟩:=h2
   have vw:=rv2.view
   split at h2
   ·rename_i k ek
    rw [ek] at vw
    cases (show v2=_ from vw)
    split at h2
    ·rename_i j ej
     have s12:=s1.trans s2
     have hx2:=s12 _ _ hx
     have rx2:=Reps.grow (Grow.same s12) _ _ rx
     refine ⟨a,xs,k,j,rfl,rfl,hx2,by rw [rx.length]; exact ej,?_⟩
     obtain ⟨R3,g3⟩:=(R.to s12).chg (d':=.lst (ds.set j r.d)) (ho:=.lst (xs.set j v)) (yo es) ev0 m ⟨λ_ z=>(by cases z),λ_ _ z=>(by cases z)⟩ λgr =>
      ⟨xs.set j v,zy,gr _ _ (rx2.set j ((rv.same s2).solid (vv h0)))⟩
     exact k1 _ σ _ o ((Grow.same s12).trans g3) R3 h2
    ·exact h2.elim
   ·exact h2.elim
  ·exact hZ.elim
def blsD:List D->Option (List Bool)
 | []=>some []
 | .bl b :: r=>(blsD r).map (b :: ·)
 | _ :: _=>none
def Qe:∀ {ds:List D} {bs:List Bool},blsD ds=some bs->ds=bs.map D.bl
 | [],bs,h=>by cases h; rfl
 | d :: r,bs,h=>by
  cases d with
  | bl n =>
   cases e:blsD r with
   | none=>unfold blsD at h; rw [e] at h; cases h
   | some ms =>
    unfold blsD at h
    rw [e] at h
    cases h
    rw [Qe e]
    rfl
  | _=>cases h
def Z3:∀ (bs:List Bool),blsD (bs.map D.bl)=some bs
 | []=>rfl
 | b :: bs=>by rw [List.map_cons,blsD,Z3 bs]; rfl
def Wr {K:W.Frag} {H:Hp} {O:List Addr}:∀ {bs:List Bool} {xs:List V},Reps K H O (bs.map D.bl) xs->xs=bs.map V.bl
 | [],_,h=>h
 | n :: bs,xs,h=>by
  obtain ⟨v,r,rfl,q,t⟩:=h
  rw [Wr t]
  cases (show v=_ from q)
  rfl
variable {es:List Expr} {p:Pos}
def P6 (g:List Bool->Bool):FT:=λds φ=>match ds with
 | [.lst l]=>match blsD l with
  | some bs=>φ (dv (.bl (g bs)))
  | none=>False
 | _=>False
def Py {f:List V->Bool} {g:List Bool->Bool} (hf:∀ bs:List Bool,f (bs.map V.bl)=g bs):Qh X.K (rAll X.K f) (P6 g):=by
 intro H O ds vs φ Q ho hv h k
 unfold P6 at h
 split at h
 ·rename_i l
  split at h
  ·rename_i bs en
   obtain ⟨v,ws,rfl,⟨a,xs,rfl,q,r⟩,rfl⟩:=hv
   have el:=Qe en
   subst el
   have:=Wr r
   subst this
   refine ⟨a,_,rfl,.inl (SqL.of q),λy hy=>?_,?_⟩
   ·obtain ⟨b,_,rfl⟩:=zah.mp hy
    rfl
   ·rw [hf]
    exact k _ _ H (Same.refl H) (by exact rfl) h
  ·exact h.elim
 ·exact h.elim
def Ry (hm:X.mg "all" = none) (ha:EA Γ X (e :: es) t) (hc:X.calm=true:=by rfl) (hg:Gl X "all":=by rfl) (he:starEach (e :: es) X.env=(false,eval e X.env) :: starEach es X.env:=by rfl) (hpl:(backTo pos (starEach es X.env)).any (·.1)=false:=by rfl):ED Γ X (.Call (.Name "all" p) (e :: es) [] pos) (dCB (P6 λbs=>bs.all id) t) :=
 kn (Yq hc) (Py λbs=>by
  induction bs with
  | nil=>rfl
  | cons b bs ih=>rw [List.map_cons,List.all_cons,List.all_cons,ih]; cases b <;> rfl) hm (by kernel_rfl) ha hg (by decide) (by decide) he hpl
def cat_tup0 {t b:Addr} {ws:List Value} {Q:Value->Shared->Prop} (ht:IsTup s.heap t #[]) (hb:IsTup s.heap b ws.toArray)
  (h1:Q (.ref b) s):wpAny (model prog w) A (binaryOp .Add (.ref t) (.ref b)) Q E s:=by
 obtain ⟨⟨cls,dd,data,sl⟩,ho,hc,n,hd⟩:=id ht
 obtain ⟨⟨cls2,dd2,data2,sl2⟩,ho2,hc2,n2,hd2⟩:=id hb
 simp only at hc hd hc2 hd2
 subst hc hd hc2 hd2
 exact concat_meets ⟨_,ho,rfl⟩ ⟨_,ho2,rfl⟩ noFill_tuple_add seq_tuple_add PySem.F.slot_tuple_add PySem.F.entry_tuple_add (PySem.F.args_tuple_add_2 _ _)
   (tuple_addW0 t b #[] ws.toArray n n2 dd dd2 sl sl2 (by simp)) ⟨ho,ho2,h1⟩
def Ga (K:W.Frag):R2:=λx y H Q=>∃ a b ys,x=.ref a /\ y=.ref b /\ SqT K H a [] /\ SqT K H b ys /\ Q (.ref b) H
def Pq:OpR X (binaryOp .Add) (Ga X.K):=by
 intro pn s σ H x y v u Q I rx ry h
 obtain ⟨a,b,ys,rfl,rfl,ha,hb,q⟩:=h
 cases rx
 cases ry
 obtain ⟨its,r1,p1,_⟩:=I.tuple ha
 obtain ⟨its2,r2,p2,_⟩:=I.tuple hb
 cases r1
 exact ZZ.cat_tup0 p1 p2 ⟨.ref b,H,I,rfl,q⟩
def Kj:OpR X (compareOp .IsNot) (λx y H Q=>∃ c d,x=.bl c /\ y=.bl d /\ Q (.bl (c != d)) H):=by
 intro pn s σ H x y v u Q I rx ry h
 obtain ⟨c,d,rfl,rfl,q⟩:=h
 cases rx
 cases ry
 exact isnot_bool (Ve I q rfl)
def RV.anew {K:W.Frag} {H0 H:Hp} {O:List Addr} {r:EV} {v:V} (h:RV K H0 H O r v) (p:uc r):RepN K H (λa=>a ∉ O /\ H0 a=none) r.d v:=by
 obtain ⟨k,d⟩:=r
 cases k with
 | val=>exact Rep.toN _ _ p h
 | own=>exact p.elim
 | new=>exact h
 | fre =>
  obtain ⟨a,rfl,m,n,c⟩:=h
  cases d with
  | lst ds=>obtain ⟨xs,q,r⟩:=c; exact ⟨a,xs,rfl,q,⟨n,m⟩,Reps.toN _ _ p r⟩
  | dk ks ds=>obtain ⟨xs,q,l,nd,r⟩:=c; exact ⟨a,xs,rfl,q,⟨n,m⟩,l,nd,Reps.toN _ _ p r⟩
  | _=>exact c.elim
def Jm (ta tb:TD):TD:=λρ φ=>ta ρ λx=>tb ρ λy=>match x.d,y.d with
 | .tup p,.tup q=>uc x /\ uc y /\ p.length + q.length <= sizeLine /\ φ ⟨.new,.tup (p ++ q)⟩
 | _,_=>False
def Rz (ha:ED Γ X a ta) (hb:ED Γ X b tb):ED Γ X (.BinOp a .Add b pos) (Jm ta tb):=λH₀=>impE (Gw (Sg.or Pq) (ha H₀) (hb H₀)) λσ H Q q=>by
 obtain ⟨ρ,o,R,φ,hφ,k⟩:=q
 refine ⟨ρ,o,R,_,hφ,λv1 r1 H1 s1 rv1 h1=>⟨ρ,o,R.to s1,_,h1,λv2 r2 H2 s2 rv2 h2=>?_⟩⟩
 have n1:=λp=>(rv1.same s2).anew p
 have n2:=λp=>(rv2.start s1).anew p
 obtain ⟨k1,d1⟩:=r1
 obtain ⟨k2,d2⟩:=r2
 cases d1 with
 | tup p =>
  cases d2 with
  | tup q =>
   obtain ⟨p1,p2,hl,hn⟩:=h2
   obtain ⟨a1,xs,rfl,q1,r1⟩:=n1 p1
   obtain ⟨a2,ys,rfl,q2,r2⟩:=n2 p2
   have l1:=r1.length
   have l2:=r2.length
   cases p with
   | nil =>
    have e:xs=[]:=List.eq_nil_of_length_eq_zero l1
    subst e
    exact .inr ⟨a1,a2,ys,rfl,rfl,q1.1,q2.1,k _ ⟨.new,.tup q⟩ H2 (s1.trans s2) ⟨a2,ys,rfl,q2,r2⟩ hn⟩
   | cons d p =>
    refine .inl ⟨a1,a2,xs,ys,rfl,rfl,q1.1,q2.1,(λz=>by subst z; cases l1),by rw [l1,l2]; exact hl,λz=>?_,λz p' hp=>?_⟩
    ·subst z
     have e:q=[]:=List.eq_nil_of_length_eq_zero l2.symm
     subst e
     rw [List.append_nil] at hn
     exact k _ ⟨.new,.tup (d :: p)⟩ H2 (s1.trans s2) ⟨a1,xs,rfl,q1,r1⟩ hn
    ·exact k _ ⟨.new,.tup (d :: p ++ q)⟩ _ ((s1.trans s2).trans (yc hp _)) ⟨p',xs ++ ys,rfl,⟨SqT.of zy,zy⟩,xn.to (yc hp _) (λ_ z=>z) _ _ (r1.append r2)⟩ hn
  | _=>exact h2.elim
 | _=>exact h2.elim
def Dw (t:TDs) (tk:TD):TD:=λρ φ=>t ρ λrs=>Nat.ble rs.length 1000=true /\ tk ρ λkr=>match kr.d with
 | .int k=>match atI rs k with
  | some r=>φ r
  | none=>False
 | _=>False
def popD (ds:List D):Option (List D × D):=match ds.getLast? with
 | some d=>some (ds.dropLast,d)
 | none=>none
def Pj (ds:List D) (d:D):popD (ds ++ [d])=some (ds,d):=by
 unfold popD
 simp
def K5 {ds ds':List D} {d:D} (h:popD ds=some (ds',d)):ds=ds' ++ [d]:=by
 unfold popD at h
 split at h
 ·rename_i x e
  cases h
  obtain ⟨y,hy⟩:=List.getLast?_eq_some_iff.mp e
  rw [hy]
  simp
 ·cases h
def Pb {K:W.Frag} {H:Hp} {O:List Addr} {ds ds':List D} {d:D} {xs:List V} (r:Reps K H O ds xs) (h:popD ds=some (ds',d)):∃ y,xs[xs.length - 1]?=some y /\ Rep K H O d y /\ Reps K H O ds' xs.dropLast:=by
 have e:=K5 h
 subst e
 have l:=r.length
 rw [zLa] at l
 obtain ⟨y,ey,hy⟩:=r.get (i:=ds'.length) (d:=d) (by simp)
 refine ⟨y,by rw [l]; simpa using ey,hy,?_⟩
 have:=r.dropLast
 simpa using this
def sPop (i j:Nat):TDS:=λρ Z=>match slot ρ i with
 | some ⟨.own,.lst ds⟩=>match popD ds with
  | some (ds',d)=>Z.nx (setS (setS ρ i (dO (.lst ds'))) j (dv d))
  | none=>False
 | _=>False
def Np (i j:Nat) {x y:Str} {np apos cpos pos':Pos} (hN:X.N.Nodup) (hi:X.N[i]?=some x:=by rfl) (hj:X.N[j]?=some y:=by rfl) (hy:Loc X.env.scope y:=by first | exact Or.inl rfl | exact Or.inr rfl) (hv:Vis X.env.scope x:=by walk_at "o")
  (hd:(x == ("__debug__" : Str))=false:=by decide) (hcd:(x == ("__classdict__" : Str))=false:=by decide)
  (hp:∀ {ta:TE},X.N.Nodup->PE X (.Name x np) ta->PS X (.Assign [.Name y pos'] (.Call (.Attribute (.Name x np) "pop" apos) [] [] cpos) pos) (tAsg (tBM0 X.K "list" rPop ta) (se j)):=by
   intro ta hN h1
   exact su hN rfl (by walk_at "o") (Sb PySem.F.plainAttrs_list PySem.F.slot_list_pop PySem.F.type_list_pop M8 h1)) :
  SD Γ X (.Assign [.Name y pos'] (.Call (.Attribute (.Name x np) "pop" apos) [] [] cpos) pos) (sPop i j):=λH₀=>impS (hp hN (wq hi hv hd hcd)) λD σ H h=>by
 obtain ⟨ρ,o,R,Z,hZ,k1,k2,k3,k4⟩:=h
 unfold sPop at hZ
 split at hZ
 ·rename_i ds es
  obtain ⟨v0,ev0,q0⟩:=R.slots i _ (yo es)
  rcases q0 with ⟨k,_⟩ | ⟨_,a,rfl,m,c⟩
  ·cases k
  obtain ⟨xs,hx,rx⟩:=c
  split at hZ
  ·rename_i ds' d ep
   obtain ⟨yv,ey,hyv,rd⟩:=Pb rx ep
   obtain ⟨R2,g2⟩:=R.chg (d':=.lst ds') (ho:=.lst xs.dropLast) (yo es) ev0 m ⟨λ_ z=>(by cases z),λ_ _ z=>(by cases z)⟩ λgr=>⟨xs.dropLast,zy,gr _ _ rd⟩
   refine ⟨.ref a,ev0,.inl ⟨rfl,xs,SqL.of hx⟩,a,xs,yv,rfl,rfl,hx,ey,?_⟩
   exact k1 _ _ _ o g2 (R2.setV j (Rep.grow g2 _ _ hyv)) hZ
  ·exact hZ.elim
 ·exact hZ.elim
def sExt (i:Nat) (t:TDs):TDS:=λρ Z=>match slot ρ i with
 | some ⟨.own,.lst ds⟩=>t ρ λrs=>j0 rs=true /\ Nat.ble rs.length 1000=true /\ ds.length <= 100000 /\ Z.nx (setS ρ i (dO (.lst (ds ++ rs.map EV.d))))
 | _=>False
def Zg (i:Nat) {x:Str} {np apos cpos lpos:Pos} (h:EA Γ X es t) (hi:X.N[i]?=some x:=by rfl) (hv:Vis X.env.scope x:=by walk_at "o")
  (hd:(x == ("__debug__" : Str))=false:=by decide) (hcd:(x == ("__classdict__" : Str))=false:=by decide)
  (hp:∀ {ta:TE} {tc:TA},PE X (.Name x np) ta->PA X es tc->PS X (.Expr (.Call (.Attribute (.Name x np) "extend" apos) [.List es lpos] [] cpos) pos)
    (dt (tBM X.K "list" X6 ta (X1 (tLst tc) tNil))):=by
   intro ta tc h1 h3
   exact ww (X8 PySem.F.plainAttrs_list PySem.F.slot_list_extend PySem.F.type_list_extend Zq h1 (yx (M4 h3) vi))) :
  SD Γ X (.Expr (.Call (.Attribute (.Name x np) "extend" apos) [.List es lpos] [] cpos) pos) (sExt i t):=λH₀=>impS (hp (wq hi hv hd hcd) (h H₀)) λD σ H h=>by
 obtain ⟨ρ,o,R,Z,hZ,k1,k2,k3,k4⟩:=h
 unfold sExt at hZ
 split at hZ
 ·rename_i ds es'
  obtain ⟨v0,ev0,q0⟩:=R.slots i _ (yo es')
  rcases q0 with ⟨k,_⟩ | ⟨_,a,rfl,m,c⟩
  ·cases k
  obtain ⟨xs,hx,rx⟩:=c
  refine ⟨.ref a,ev0,.inl ⟨rfl,xs,SqL.of hx⟩,?_⟩
  refine ⟨ρ,o,R,_,hZ,λvs rs H1 s1 rvs h1=>?_⟩
  obtain ⟨hso,hle,hl,hn⟩:=h1
  have l1:=rvs.length
  have hle':=Nat.le_of_ble_eq_true hle
  refine ⟨by rw [l1]; exact cu hle,λp hpn=>?_⟩
  have s2:=yc hpn (.lst vs)
  have s12:=s1.trans s2
  have R1:=R.to s12
  have rx1:=Reps.grow (Grow.same s12) _ _ rx
  refine ⟨a,p,xs,vs,rfl,rfl,s12 _ _ hx,zy,?_,?_⟩
  ·rw [rx.length,l1]
   exact zak (Nat.add_le_add hl hle') (by decide)
  ·obtain ⟨R2,g2⟩:=R1.chg (d':=.lst (ds ++ rs.map EV.d)) (ho:=.lst (xs ++ vs)) (yo es') ev0 m ⟨λ_ z=>(by cases z),λ_ _ z=>(by cases z)⟩ λgr=>⟨xs ++ vs,zy,gr _ _ (rx1.append (Reps.grow (Grow.same s2) _ _ (rvs.reps (uy hso))))⟩
   exact k1 _ σ _ o ((Grow.same s12).trans g2) R2 hn
 ·exact hZ.elim
def sAug (i:Nat) (te:TD):TDS:=λρ Z=>match slot ρ i with
 | some ⟨.val,.int a⟩=>te ρ λr=>match r.d with
  | .int b=>Z.nx (setS ρ i (dv (.int (a + b))))
  | _=>False
 | _=>False
def Hl (i:Nat) {x:Str} {pos':Pos} (hN:X.N.Nodup) (he:ED Γ X e te) (hi:X.N[i]?=some x:=by rfl) (hx:Loc X.env.scope x:=by first | exact Or.inl rfl | exact Or.inr rfl)
  (hf:X.fn x=true \/ X.env.scope.names.lookup x=some .local:=by first | exact .inl rfl | exact .inr rfl | assumption):SD Γ X (.AugAssign (.Name x pos') .Add e pos) (sAug i te):=λH₀=>impS (Gp hN hi hx (he H₀) Ed hf) λD σ H h=>by
 obtain ⟨ρ,o,R,Z,hZ,k1,k2,k3,k4⟩:=h
 unfold sAug at hZ
 split at hZ
 ·rename_i a es'
  obtain ⟨v0,ev0,q0⟩:=R.slots i _ (yo es')
  rcases q0 with ⟨_,q0⟩ | ⟨k,_⟩
  ·cases (show v0=_ from q0)
   refine ⟨.int a,ev0,ρ,o,R,_,hZ,λv r H1 s1 rv h1=>?_⟩
   have vw:=rv.view
   split at h1
   ·rename_i b eb
    rw [eb] at vw
    cases (show v=_ from vw)
    exact ⟨a,b,rfl,rfl,k1 _ _ _ o (Grow.same s1) ((R.to s1).setV i (d:=.int (a + b)) (by exact rfl)) h1⟩
   ·exact h1.elim
  ·cases k
 ·exact hZ.elim
def sIsB:D->D->(EV->Prop)->Prop:=λx y φ=>match x,y with
 | .bl c,.bl d=>φ (dv (.bl (c == d)))
 | _,_=>False
def c7:D->D->(EV->Prop)->Prop:=λx y φ=>match x,y with
 | .bl c,.bl d=>φ (dv (.bl (c != d)))
 | _,_=>False
def Xd {K:W.Frag}:rz K (λx y H Q=>∃ c d,x=.bl c /\ y=.bl d /\ Q (.bl (c != d)) H) c7:=by
 intro H O x y vx vy φ Q ho hx hy h k
 unfold c7 at h
 split at h
 ·exact ⟨_,_,hx,hy,k _ _ H (Same.refl H) (by exact rfl) h⟩
 ·exact h.elim
def Yj (ha:ED Γ X a ta) (hb:ED Γ X b tb):ET Γ X (.Compare a [.IsNot] [b] pos) (tBo (d2 c7 ta tb)):=rg Kj Xd ha hb (ud _)
def g1 (g:D->(EV->Prop)->Prop):FT:=λds φ=>match ds with
 | [d]=>g d φ
 | _=>False
def g2 (g:D->D->(EV->Prop)->Prop):FT:=λds φ=>match ds with
 | [d,e]=>g d e φ
 | _=>False
def g3 (g:D->D->D->(EV->Prop)->Prop):FT:=λds φ=>match ds with
 | [d,e,f]=>g d e f φ
 | _=>False
def Em {g:D->(EV->Prop)->Prop} {ds:List D} {φ:EV->Prop} (h:g1 g ds φ):∃ d,ds=[d] /\ g d φ:=by
 unfold g1 at h
 split at h
 ·exact ⟨_,rfl,h⟩
 ·exact h.elim
def P1:FT:=λds φ=>match ds with
 | [.scr ns,.int k]=>0 <= k /\ φ (dv (.int (ns.getD k.toNat 0)))
 | _=>False
def Qz {ds:List D} {φ:EV->Prop} (h:P1 ds φ):∃ (ns:List Int) (k:Nat),ds=[.scr ns,.int k] /\ φ (dv (.int (ns.getD k 0))):=by
 unfold P1 at h
 split at h
 ·rename_i ns k
  obtain ⟨h0,h⟩:=h
  exact ⟨ns,k.toNat,by rw [Int.toNat_of_nonneg h0],h⟩
 ·exact h.elim
def zx {t u:TDS} {ρ:DE} {Z:DZ} (J:DE->Prop) (h1:t ρ { Z with nx:=J }) (h2:∀ ρ2,J ρ2->u ρ2 Z):sSeq (sCut t) u ρ Z:=⟨J,h1,h2⟩
def N9 {i:Nat} {ρ:DE} {ds:List D} {φ:Bool->Prop} (e:slot ρ i=some (dO (.lst ds))) (h:φ (!ds.isEmpty)):tTru (ut i) ρ φ:=by
 unfold tTru ut
 rw [e]
 exact h
def Te {i:Nat} {te:TD} {ρ:DE} {Z:DZ} {ds:List D} (e:slot ρ i=some (dO (.lst ds))) (h:te ρ λr=>(match r.k with | .own=>False | _=>True) /\ ds.length <= 100000 /\ Z.nx (setS ρ i (dO (.lst (ds ++ [r.d]))))):sApp i te ρ Z:=by
 unfold sApp
 rw [e]
 exact h
variable {tpos:Pos}
def Ww:List EV->Prop
 | []=>True
 | r :: rs=>uc r.ret /\ Ww rs
def Hm (t:TDs):TDS:=λρ Z=>t ρ λrs=>Ww rs /\ Nat.ble rs.length 1000=true /\ Z.rt ⟨.new,.tup (rs.map EV.d)⟩
def RVs.rets {K:W.Frag} {H₀ H H':Hp} {σ:St} {ρ:DE} {o:List (Nat × Addr)} (R:REnv K H₀ H σ ρ o):∀ {rs:List EV} {vs:List V},RVs K H H' (o.map Prod.snd) rs vs->Ww rs->xn K H' (λa=>a ∉ ([]:List Addr) /\ H₀ a=none) (rs.map EV.d) vs
 | [],_,h,_=>h
 | r :: rs,vs,h,p=>by
  obtain ⟨v,ws,e,q,t⟩:=h
  have q':=(RV.ret R q).anew p.1
  exact ⟨v,ws,e,by
   have:r.ret.d=r.d:=rfl
   rw [this] at q'
   exact q',RVs.rets R t p.2⟩
def T9 {x1} (h:EA Γ X es t):SD Γ X (.Return (some (.Tuple es x1 tpos)) pos) (Hm t):=λH₀=>impS (Zm (Wz (h H₀))) λD σ H h=>by
 obtain ⟨ρ,o,R,Z,hZ,k1,k2,k3,k4⟩:=h
 refine ⟨ρ,o,R,_,hZ,λvs rs H1 s1 rvs h1=>⟨by rw [rvs.length]; exact cu h1.2.1,λp hp=>?_⟩⟩
 refine k4 _ ⟨.new,.tup (rs.map EV.d)⟩ _ (R.same.trans (s1.trans (yc hp _))) ?_ h1.2.2
 exact ⟨p,vs,rfl,⟨SqT.of zy,zy⟩,xn.to (yc hp _) (λ_ z=>z) _ _ (RVs.rets R rvs h1.1)⟩
def tj:entryFor table "dict.update.loop" = some Builtin.«dict.update.loop»:=entryFor_of_tree (by kernel_rfl)
def wn:plainId "dict.update.loop" = true:=by decide +kernel
def gc:typeLookup (.type "list") "keys" = pure none:=by rw [typeLookup_type,builtinLookup_eq_fast]; kernel_rfl
def Sx {a:Addr} {xs:Array Value} {Q:Option Value->Shared->Prop} (hl:PlainL s.heap a xs) (hA:A.handled=none)
  (h:∀ h' tk,(∀ b o,s.heap.get? b=some o->h'.get? b=some o)->Q none { s with heap:=h',toks:=tk }):wpAny (model prog w) A (getAttr? (.ref a) "keys") Q E s:=by
 obtain ⟨o,k,hx,hc,hd,hdat⟩:=hl
 obtain ⟨c,dct,dat,sl⟩:=o
 simp only at hc hdat hd
 subst hc hdat hd
 obtain ⟨hp,g,d,tk,os⟩:=s
 have hT:∀ tk',(⟨hp,g,d,tk',os⟩:Shared).TypeIs (.ref a) "list":=λ_=>⟨_,hx,rfl⟩
 have f1:=sub_AttributeError
 have f3:=F.slot_list_getattribute.lookup
 have f4:=F.slot_list_getattribute.bind (.ref a)
 have f5:=am_list_getattr_none
 unfold getAttr? getAttrBy? getAttrBy
 repeat (any_goals (first | assumption | exact hT _ | ((with_reducible show wpAny _ _ (call (Value.builtin "list.__getattribute__") _ _) _ _ _); refine call_meets F.slot_list_getattribute (hT _) am_entry_list_getattribute (F.args_list_getattribute_2 _ _) (meets_getattribute_miss_list a xs k sl "keys" _ gc (by decide +kernel) (by size_fits)) ⟨hx,hA,λh' tk' e hx'=>?_⟩) | wp_step))
 obtain ⟨t',u',he⟩:=hx'.there
 show wpAny _ _ (getattributeRaised _ _ _ _ _ _ _) _ _ _
 unfold getattributeRaised
 repeat (any_goals (first | assumption | wp_step))
 exact h _ _ hx'.keeps
section
variable {K:Type} [DecidableEq K] {knd:KeyKind prog w K} {R:Result->Shared->Prop}
def Vs (knd:KeyKind prog w K) (h:Heap) (v:Value) (kx:K × Value):Prop:=∃ b o n key,v=.ref b /\ h.get? b=some o /\ o.cls=.type "tuple" /\ o.data=.seq #[key,kx.2] n /\ knd.is kx.1 key=true
def gy {kvs:List (K × Value)} {k:K} {x:Value} (h:k ∉ kvs.map (·.1)):stored kvs k x=kvs ++ [(k,x)]:=by
 unfold stored
 rw [if_neg]
 intro z
 rw [List.any_eq_true] at z
 obtain ⟨p,hp,e⟩:=z
 exact h (zah.mpr ⟨p,hp,by simpa using e⟩)
def Qn (hh:A.handled=none) (d it l:Addr) (hdi:d ≠ it) (hdl:d ≠ l) (hli:l ≠ it) (its:List Value) (more:List (K × Value)) (hlen:its.length=more.length) (hnd:(more.map (·.1)).Nodup) (hsz:more.length <= sizeLine) :
  ∀ (k i:Nat) (s:Shared),its.length=i + k->s.heap.IsListIter it l i->s.heap.IsList l its.toArray->s.heap.DictOf knd d (more.take i) ->
  (∀ (j:Nat) v kx,its[j]?=some v->more[j]?=some kx->Vs knd s.heap v kx) ->
  (∀ h' tk,h'.DictOf knd d more->(∀ b o,b ≠ d->b ≠ it->s.heap.get? b=some o->h'.get? b=some o)->R (.ok (.ret .none)) { s with heap:=h',toks:=tk }) ->
  codeAny (model prog w) A (.builtin "dict.update.loop" ⟨[.ref d,.ref it,rawInt (i:Int),.none],[]⟩) R s:=by
 intro k
 induction k with
 | zero =>
  intro i s hk hi hl hd hp hR
  refine codeAny_builtin tj ?_
  rw [Around.under_plainId wn _]
  have W:=Walks.list (prog:=prog) (w:=w) (A:=A.in1) hh it l hli its.toArray
  show wpAny _ A.in1 (pyNext (.ref it) >>= _) _ _ s
  refine zaa (W.done s _ _ ⟨by simpa [hk] using hi,hl⟩ λh' tk hk'=>?_)
  show wpAny _ A.in1 (Builtin.Dict.addKeywords d [] >>= _) _ _ _
  refine zaa (zab (zab ?_))
  refine hR h' tk ?_ λb o _ hb e=>hk' b o (by simpa using hb) e
  rw [List.take_of_length_le (by omega)] at hd
  obtain ⟨o,es,ep,ho,r⟩:=hd
  exact ⟨o,es,ep,hk' d o (by simpa using hdi) ho,r⟩
 | succ k ih =>
  intro i s hk hi hl hd hp hR
  refine codeAny_builtin tj ?_
  rw [Around.under_plainId wn _]
  have W:=Walks.list (prog:=prog) (w:=w) (A:=A.in1) hh it l hli its.toArray
  show wpAny _ A.in1 (pyNext (.ref it) >>= _) _ _ s
  refine zaa (W.item i s _ _ (by simp; omega) ⟨hi,hl⟩ λv h' tk hv hst' hk'=>?_)
  have hv':its[i]?=some v:=by simpa using hv
  have him:i < more.length:=by omega
  obtain ⟨kx,ekx⟩:∃ kx,more[i]?=some kx:=⟨more[i],zaf him⟩
  have hd':h'.DictOf knd d (more.take i):=by
   obtain ⟨o,es,ep,ho,r⟩:=hd
   exact ⟨o,es,ep,hk' d o (by simpa using hdi) ho,r⟩
  have hp':∀ (j:Nat) v kx,its[j]?=some v->more[j]?=some kx->Vs knd h' v kx:=λj v kx h1 h2=>by
   obtain ⟨b,o,n,key,e1,e2,e3,e4,e5⟩:=hp j v kx h1 h2
   refine ⟨b,o,n,key,e1,hk' b o ?_ e2,e3,e4,e5⟩
   intro z
   have:b=it:=by simpa using z
   subst this
   obtain ⟨o',ho',hc',_⟩:=hi
   rw [ho'] at e2
   cases e2
   rw [hc'] at e3
   exact absurd e3 (by decide)
  obtain ⟨b,o,n,key,rfl,hb,hbc,hbd,hkey⟩:=hp' i v kx hv' ekx
  have hT:({ s with heap:=h',toks:=tk }:Shared).TypeIs (.ref b) "tuple":=⟨o,hb,hbc⟩
  refine zaa (wpAny_holding ?_)
  refine zaa (wpAny_tryCatch ?_)
  show wpAny _ A.in1 (typeOf (.ref b) >>= _) _ _ _
  refine zaa (wpAny_typeOf hT ?_)
  show wpAny _ A.in1 (seqItems? (.ref b) >>= _) _ _ _
  refine zaa (wpAny_seqItems hb hbd (zab ?_))
  show wpAny _ A.in1 (holding [key,kx.2] (dictSet d key kx.2)) _ _ _
  have hnew:kx.1 ∉ (more.take i).map (·.1):=by
   have e:more.take (i + 1)=more.take i ++ [kx]:=by rw [List.take_succ,ekx]; rfl
   have h4:((more.take (i + 1)).map (·.1)).Nodup:=hnd.sublist ((List.take_sublist _ _).map _)
   rw [e,zMa,List.nodup_append] at h4
   intro z
   exact h4.2.2 _ z kx.1 (by simp) rfl
  refine wpAny_holding (wpAny_dictSet_pairs (hsz:=by rw [List.length_take]; omega) hkey hd' λh2 dd hs=>?_)
  rw [gy hnew,show more.take i ++ [(kx.1,kx.2)]=more.take (i + 1) by rw [List.take_succ,ekx]; rfl] at dd
  refine zab ⟨plainId_quiet wn _,?_⟩
  have keep:∀ b o,b ≠ d->h'.get? b=some o->h2.get? b=some o:=λb o hb e=>(hs.2 b hb).trans e
  refine ih (i + 1) _ (by omega) ?_ ?_ dd ?_ λh3 tk3 d3 k3=>?_
  ·obtain ⟨o',ho',r'⟩:=hst'.1
   exact ⟨o',keep _ _ (Ne.symm hdi) ho',r'⟩
  ·obtain ⟨o',ho',r'⟩:=hst'.2
   exact ⟨o',keep _ _ (Ne.symm hdl) ho',r'⟩
  ·intro j v kx h1 h2'
   obtain ⟨b,o,n,key,e1,e2,e3,e4,e5⟩:=hp' j v kx h1 h2'
   refine ⟨b,o,n,key,e1,keep b o ?_ e2,e3,e4,e5⟩
   intro z
   subst z
   obtain ⟨o',es,ep,ho',hc',hdat,_⟩:=hd'
   rw [ho'] at e2
   cases e2
   rw [hdat] at e4
   cases e4
  ·exact hR h3 tk3 d3 λb o h1 h2' e=>k3 b o h1 h2' (keep b o h1 (hk' b o (by simpa using h2') e))
def jx {E:Value->Shared->Prop} {l:Addr} {its:List Value} {more:List (K × Value)} {Q:Value->Shared->Prop} (hh:A.handled=none) (hl:PlainL s.heap l its.toArray) (hlen:its.length=more.length) (hnd:(more.map (·.1)).Nodup) (hsz:more.length <= sizeLine)
  (hp:∀ (j:Nat) v kx,its[j]?=some v->more[j]?=some kx->Vs knd s.heap v kx)
  (h:∀ h' tk,h'.DictOf knd s.heap.objs.size more->(∀ b o,s.heap.get? b=some o->h'.get? b=some o)->Q (.ref s.heap.objs.size) { s with heap:=h',toks:=tk }) :
  wpAny (model prog w) A (call (.type "dict") [.ref l]) Q E s:=by
 refine callType_codes (Q₁:=λobj s₁=>obj=.ref s.heap.objs.size /\ s₁={ s with heap:=s.heap.push { cls:=.type "dict", data:=.dict #[] } }) F.kt_called_dict (F.kt_typeCall_dict_1 _) F.entry_dict_init (kt_code_dict_new _ ⟨rfl,rfl⟩) ?_
 rintro obj s₁ ⟨rfl,rfl⟩
 have hnew:(s.heap.push { cls:=.type "dict", data:=.dict #[] }).DictOf knd s.heap.objs.size []:=Heap.DictOf.new s.heap
 have k1:∀ b o,s.heap.get? b=some o->(s.heap.push { cls:=.type "dict", data:=.dict #[] }).get? b=some o:=λb o e=>zac _ e
 have hl1:=hl.keeps k1
 have hls:l < s.heap.objs.size:=by obtain ⟨o,n,e,_⟩:=hl; exact zae e
 refine ⟨hnew.typeIs,F.args_dict_init_2 _ _,?_⟩
 unfold Builtin.«dict.__init__»
 refine zaa ?_
 unfold Builtin.Dict.selfAndRest
 refine zaa (wpAny_notOrdered_dict hnew.typeIs ?_)
 show wpAny _ _ (pure (s.heap.objs.size,[Value.ref l])) _ _ _
 refine zab ?_
 show wpAny _ _ (Builtin.Dict.updateFrom "dict.__init__" s.heap.objs.size (.ref l) [] .none) _ _ _
 unfold Builtin.Dict.updateFrom
 refine zaa (wpAny_typeOf hl1.isList.typeIs ?_)
 rw [if_pos (by decide)]
 refine zaa (Sx hl1 hh λh2 tk2 k2=>?_)
 rw [if_pos (by rfl)]
 refine zaa (wpAny_rule ?_)
 have hl2:=(hl1.keeps k2).isList
 have hlt:l < h2.objs.size:=by obtain ⟨o,e,_⟩:=hl2; exact zae e
 refine zaa (wpAny_pyIter_list hl2 ?_)
 have hdlt:s.heap.objs.size < h2.objs.size:=by
  obtain ⟨o,es,ep,ho,_⟩:=hnew
  exact zae (k2 _ _ ho)
 refine zab ⟨plainId_quiet wn _,?_⟩
 refine Qn (knd:=knd) (A:=A.in1) hh s.heap.objs.size h2.objs.size l (Nat.ne_of_lt hdlt) (Nat.ne_of_gt hls) (Nat.ne_of_lt hlt) its more hlen hnd hsz its.length 0 _ (by omega) ?_ ?_ ?_ ?_ λh3 tk3 d3 k3=>?_
 ·exact ⟨_,zad _ rfl,rfl,rfl⟩
 ·exact hl2.push _
 ·obtain ⟨o,es,ep,ho,r⟩:=hnew
  exact ⟨o,es,ep,zac _ (k2 _ _ ho),r⟩
 ·intro j v kx h1 h2'
  obtain ⟨b,o,n,key,e1,e2,e3,e4,e5⟩:=hp j v kx h1 h2'
  exact ⟨b,o,n,key,e1,zac _ (k2 _ _ (k1 _ _ e2)),e3,e4,e5⟩
 ·refine ⟨rfl,h h3 tk3 d3 λb o e=>k3 b o ?_ ?_ (zac _ (k2 _ _ (k1 _ _ e)))⟩
  ·exact Nat.ne_of_lt (zae e)
  ·exact Nat.ne_of_lt (Nat.lt_trans (zae e) hdlt)
end
def Qf (K:W.Frag) (H:Hp):List V->List (Key × V)->Prop:=Paired λp kv=>∃ b,p=V.ref b /\ SqT K H b [kV kv.1,kv.2]
def Up (hc:X.calm=true):uv X (.type "dict") (λxs H Q=>∃ a ps kvs,xs=[.ref a] /\ SqL X.K H a ps /\ Qf X.K H ps kvs /\ (kvs.map (·.1)).Nodup /\ ∀ p,H p=none->Q (.ref p) (upd H p (.dK kvs))):=by
 intro pn s σ H xs us Q I r h
 obtain ⟨a,ps,kvs,rfl,ha,hp,hn,q⟩:=h
 obtain ⟨u,rfl,ru⟩:=ga r
 cases ru
 obtain ⟨its,rv,pl,hz⟩:=I.list ha
 have hlen:ps.length=kvs.length:=hp.length
 have hli:=rv.length
 have ex:∃ more:List (Key × Value),KV kvs more /\ ∀ (j:Nat) v kx,its[j]?=some v->more[j]?=some kx->Vs (yt X.prog X.w) s.heap v kx:=by
  clear hn q hz pl hlen hli ha
  induction rv generalizing kvs with
  | nil=>cases hp; exact ⟨[],.nil,λj v kx e=>by simp at e⟩
  | cons r1 r2 ih =>
   cases hp with
   | cons h t =>
    obtain ⟨more,k1,k2⟩:=ih _ t
    obtain ⟨b,rfl,sq⟩:=h
    cases r1
    obtain ⟨ts,rt,⟨o,e1,e2,n,e3⟩,_⟩:=I.tuple sq
    cases rt with
    | cons t1 rt =>
     cases rt with
     | cons t2 rt =>
      cases rt
      rename_i kk key x
      refine ⟨(_,x) :: more,.cons ⟨rfl,t2⟩ k1,λj v kx h1 h2=>?_⟩
      cases j with
      | zero =>
       simp at h1 h2
       subst h1 h2
       exact ⟨b,o,n,key,rfl,e1,e2,e3,O7 t1⟩
      | succ j=>exact k2 j v kx (by simpa using h1) (by simpa using h2)
 obtain ⟨more,k1,k2⟩:=ex
 have hml:kvs.length=more.length:=k1.length
 have hkeys:more.map (·.1)=kvs.map (·.1):=by
  clear hn q hp hlen k2 hml
  induction k1 with
  | nil=>rfl
  | cons h t ih=>rw [List.map_cons,List.map_cons,ih,h.1]
 have hb:=I.big
 refine jx (knd:=yt X.prog X.w) (I.ok.hd hc) pl (by omega) (by rw [hkeys]; exact hn) (by omega) k2 λh' tk hd keep=>?_
 refine ⟨.ref s.heap.objs.size,_,I.laid (t':=tk) (a:=s.heap.objs.size) (o:=.dK kvs) keep (zaj _) ?_,rfl,q _ (I.hok.fresh (zaj _))⟩
 exact Q1 (by omega) (by simpa using (Nat.ne_of_gt hb)) k1 hd
def kD:Key->D
 | .inl i=>.int i
 | .inr x=>.str x
def Sd (ks:List Key) (ds:List D):List D:=(ks.zip ds).map λq=>.tup [kD q.1,q.2]
def sDictP:FT:=λxs φ=>match xs with
 | [.lst l]=>∃ ks ds,l=Sd ks ds /\ ks.length=ds.length /\ ks.Nodup /\ φ (df (.dk ks ds))
 | _=>False
def Hx {K:W.Frag} {H:Hp} {O:List Addr} {k:Key} {v:V} (h:Rep K H O (kD k) v):v=kV k:=by
 cases k with
 | inl i=>exact h
 | inr x=>exact h
def fh {K:W.Frag} {H:Hp} {O:List Addr}:∀ (ks:List Key) (ds:List D) (ps:List V),ks.length=ds.length->Reps K H O (Sd ks ds) ps->∃ xs,Qf K H ps (ks.zip xs) /\ Reps K H O ds xs
 | [],[],ps,_,h=>by
  cases (show ps=[] from h)
  exact ⟨[],.nil,rfl⟩
 | [],_ :: _,_,h,_=>by cases h
 | _ :: _,[],_,h,_=>by cases h
 | k :: ks,d :: ds,ps,hl,h=>by
  obtain ⟨v,ws,rfl,⟨a,zs,rfl,sq,r⟩,hr⟩:=h
  obtain ⟨v1,w1,rfl,r1,v2,w2,rfl,r2,rfl⟩:=r
  cases Hx r1
  obtain ⟨xs,h1,h2⟩:=fh ks ds ws (by simpa using hl) hr
  exact ⟨v2 :: xs,.cons ⟨a,rfl,sq.1⟩ h1,v2,xs,rfl,r2,h2⟩
def ra {α β:Type}:∀ (ks:List α) (xs:List β),ks.length=xs.length->(ks.zip xs).map (·.1)=ks
 | [],_,_=>rfl
 | k :: ks,[],h=>by cases h
 | k :: ks,x :: xs,h=>by
  rw [List.zip_cons_cons,List.map_cons,ra ks xs (by simpa using h)]
def Ox (hm:X.mg "dict" = none) (ha:EA Γ X (e :: es) t) (hc:X.calm=true:=by rfl) (hg:Gl X "dict":=by rfl) (he:starEach (e :: es) X.env=(false,eval e X.env) :: starEach es X.env:=by rfl) (hpl:(backTo pos (starEach es X.env)).any (·.1)=false:=by rfl):ED Γ X (.Call (.Name "dict" p) (e :: es) [] pos) (dCB sDictP t) :=
 rm (Up hc) (λH O ds vs φ Q ho hv h k=>by
  unfold sDictP at h
  split at h
  ·obtain ⟨ks,ds,rfl,hl,nd,h⟩:=h
   obtain ⟨v,ws,rfl,⟨a,xs,rfl,q,r⟩,rfl⟩:=hv
   obtain ⟨zs,h1,h2⟩:=fh ks ds xs hl r
   have hz:ks.length=zs.length:=by rw [hl,h2.length]
   exact ⟨a,xs,_,rfl,SqL.of q,h1,by rw [ra ks zs hz]; exact nd,λp hp=>k _ (df (.dk _ _)) _ (yc hp _) ⟨p,rfl,hp,ho p hp,zs,zy,hl,nd,Reps.grow (bg hp) _ _ h2⟩ h⟩
  ·exact h.elim) hm boot_dict' ha hg (by decide) (by decide) he hpl
section
end
def Gr {α:Type} (xs:List α) (lo hi st:Option Int):List α :=
 let b:=sliceBounds lo hi st xs.length
 (sliceRange b.1 b.2.1 b.2.2).filterMap λi=>xs[i]?
variable {te:TE} {ts:TO}
def Qt (K:W.Frag) (te:TE) (tl th ts:TO):TE:=λσ H Q=>te σ H λx H1=>tl σ H1 λl H2=>th σ H2 λu H3=>ts σ H3 λk H4=>∃ a xs,x=.ref a /\ SqL K H4 a xs /\ k ≠ some 0 /\ ∀ p,H4 p=none->Q (.ref p) (upd H4 p (.lst (Gr xs l u k)))
abbrev TK:=List Key
instance decMemTK (k:TK) (ks:List TK):Decidable (k ∈ ks):=decidable_of_iff (ks.any (λx=>decide (x=k))=true) (by simp)
section
open PySem PySem.Spec PySem.W PyProof.Rows
def RawD (h:Heap) (d:Addr) (rows:Array DictEntry) (ep:Nat):Prop:=∃ o,h.get? d=some o /\ o.ExactDict /\ o.data=.dict rows ep
def RawD.lt {h:Heap} {d:Addr} {rows:Array DictEntry} {ep:Nat} (x:RawD h d rows ep):d < h.objs.size:=let ⟨_,g,_⟩:=x; zae g
variable {n:Nat}
abbrev POrd (n:Nat) (p:Array Nat):Prop:=p.Perm (List.toArray (List.range n))
def POrd.lt {p:Array Nat} (h:POrd n p) (hn:0 < n) (i:Nat):p.getD i 0 < n:=by
 by_cases hi:i < p.size
 ·have e:p.getD i 0=p[i]:=by simp [Array.getD,hi]
  rw [e]
  have m:p[i] ∈ List.toArray (List.range n):=h.mem_iff.mp (Array.getElem_mem hi)
  simpa using m
 ·have e:p.getD i 0=0:=by simp [Array.getD,hi]
  omega
def vd {α:Type}:∀ l:List α,(l.zip l).map (λx=>x.2)=l
 | []=>rfl
 | a :: l=>by rw [List.zip_cons_cons,List.map_cons,vd l]
def Do:Key->Option Int
 | .inl i=>some i
 | .inr _=>none
section
def POrd.size {p:Array Nat} (h:POrd n p):p.size=n:=by
 have:=h.size_eq
 simpa using this
end
end
def zK1 (k:TK):List Int:=k.filterMap Do
def Vo {J l:Addr} {its:Array Value} (ne:l ≠ J):∀ (n i:Nat) (s:Shared) (Q:List Value->Shared->Prop),s.heap.IsListIter J l i->s.heap.IsList l its->i + n <= its.size ->
  (∀ h',h'.IsListIter J l (i + n)->h'.IsList l its->Heap.SameBut J s.heap h'->Q ((its.toList.drop i).take n) { s with heap:=h' })->wpAny (model prog w) A (draw (.ref J) n) Q E s
 | 0,i,s,Q,y,hl,_,q=>by
  show wpAny _ _ (pure []) Q E s
  apply zab
  have:=q s.heap y hl (Heap.SameBut.refl ..)
  simpa using this
 | n + 1,i,s,Q,y,hl,le,q=>by
  have lt:i < its.size:=by omega
  show wpAny _ _ (pyNext (.ref J) >>= _) Q E s
  apply zaa
  refine wpAny_pyNext_list_item y hl (x:=its[i]) (by simp [lt]) λh1 y1 s1=>?_
  have hl1:h1.IsList l its:=hl.at λo e=>s1.extBut l o ne e
  apply zaa; apply wpAny_holding
  refine Vo ne n (i + 1) _ _ y1 hl1 (by omega) λh2 y2 hl2 s2=>zab (?_:_)
  have e0:its.toList.drop i=its[i] :: its.toList.drop (i + 1):=by simp [List.drop_eq_getElem_cons,lt]
  have:=q h2 (by rw [show i + (n + 1)=i + 1 + n by omega]; exact y2) hl2 (s1.trans s2)
  rw [e0,List.take_succ_cons] at this
  exact this
def Vv {env:Env} {elts:List Expr} {x1} {pos:Pos} {l:Addr} {its:Array Value} {Q:Unit->Shared->Prop} (hh:A.handled=none) (hl:s.heap.IsList l its) (hn:(assignEach elts env).length=its.size) (hs:(assignEach elts env).findIdx? (·.1)=none)
  (q:∀ h',Heap.ExtBut s.heap.objs.size s.heap h'->wpAny (model prog w) A (assignInOrder ((assignEach elts env).map (·.2)) its.toList) Q E { s with heap:=h' }):wpAny (model prog w) A (assign (.Tuple elts x1 pos) env (.ref l)) Q E s:=by
 have ne:l ≠ s.heap.objs.size:=by obtain ⟨o,e,_⟩:=hl; exact Nat.ne_of_lt (zae e)
 rw [assign_Tuple]
 apply zaa; apply wpAny_standAt
 unfold unpack
 rw [hn,hs]
 apply zaa; apply wpAny_holding
 unfold unpackItems
 apply zaa
 unfold notIterableAtAll
 apply zaa
 refine wpAny_specialOf hl.typeIs PySem.F.slot_list_iter.lookup (?_:_)
 apply zab
 simp only [Bool.false_eq_true,if_false]
 apply zaa; apply wpAny_holding
 refine wpAny_pyIter_list hl (?_:_)
 apply zaa; apply wpAny_holding
 refine Vo ne its.size 0 _ _ ⟨_,zad _ rfl,rfl,rfl⟩ (hl.push _) (by omega) λh1 y1 hl1 s1=>?_
 rw [show List.take its.size (List.drop 0 its.toList)=its.toList by rw [List.drop_zero]; exact List.take_of_length_le (by simp)]
 rw [if_neg (show ¬ _ by simp)]
 apply zaa; apply wpAny_holding
 refine wpAny_pyNext_list_end hh y1 hl1 (by simp) λh2 e2=>?_
 simp only [Option.isSome_none,Bool.false_eq_true,if_false]
 refine zab (q h2 λb o hb e=>e2 b o hb (s1.extBut b o hb (zac _ e)))
def gLst (K:W.Frag) (n:Nat) (t:TGs):TG:=λv σ H Q=>∃ a xs,v=.ref a /\ SqL K H a xs /\ xs.length=n /\ t xs σ H Q
def S6 {K0:W.Frag} {es:List Expr} {k:Nat} {t:TGs} {n:Nat} {pos:Pos} (hK:X.K=K0) (hc:X.calm=true) (h:PGs X es t) (hn:(assignEach es X.env).length=n:=by rfl) (hst:(assignEach es X.env).findIdx? (·.1)=none:=by rfl):PG X (.Tuple es k pos) (gLst K0 n t):=by
 subst hK
 intro pn s σ H v u Q I r hw
 obtain ⟨a,xs,e1,hq,hl,hw⟩:=hw
 subst e1
 cases r
 obtain ⟨its,rv,ht,hz⟩:=I.list hq
 refine Vv (I.ok.hd hc) ht.isList (by simp [hn,<- hl,rv.length]) hst λh' hx=>?_
 have I1:Inv X pn σ H { s with heap:=h' }:=I.kept (t':=s.toks) λb o e=>hx b o (Nat.ne_of_lt (zae e)) e
 exact h pn _ σ H xs _ Q I1 (by simpa using rv) hw
def gL4 (i j l m:Nat):TGD:=λd ρ ψ=>match d with
 | .lst [a,b,c,e]=>ψ (setS (setS (setS (setS ρ i (dv a)) j (dv b)) l (dv c)) m (dv e))
 | _=>False
def Rb {K:W.Frag} (i j l m:Nat):gp K (gLst K 4 (gf (se i) (gf (se j) (gf (se l) (gf (se m) gNil))))) (gL4 i j l m):=λH₀ H σ ρ o d v ψ Q R h hg k=>by
 unfold gL4 at hg
 split at hg
 ·rename_i a b c e
  obtain ⟨p,xs,rfl,q,n,r⟩:=h
  obtain ⟨v1,r1,rfl,h1,v2,r2,rfl,h2,v3,r3,rfl,h3,v4,r4,rfl,h4,rfl⟩:=r
  refine ⟨p,_,rfl,SqL.of q,rfl,v1,_,rfl,v2,_,rfl,v3,_,rfl,v4,_,rfl,rfl,?_⟩
  exact k _ _ ((((R.setV i h1).setV j h2).setV l h3).setV m h4) hg
 ·exact hg.elim
section
variable {scope:Scope} {T F:List Str} {js:List Nat} {tg iter elt:Expr} {ifs:List Expr} {ti:TID} {g2:TG} {g:TGD} {tc:TDb} {te:TD}
def Q5 (ti:TID) (n:Nat) (js:List Nat) (g:TGD) (tc:TDb) (te:TD):TD:=λρ φ=>ti ρ λds=>∃ P:Nat->List D->Prop,ds.length <= 100000 /\ P 0 [] /\
 (∀ (i:Nat) (d:D) (es:List D),ds[i]?=some d->es.length <= i->P i es->g d (ρ0 n js ρ) λρ'=>tc ρ' λc=>(c=true->te ρ' λr=>(match r.k with | .own=>False | _=>True) /\ P (i + 1) (es ++ [r.d])) /\ (c=false->P (i + 1) es)) /\ ∀ es,P ds.length es->φ (df (.lst es))
def Ub {H₀:Hp} (nd:js.Nodup) (hl:gp X.K g2 g):∀ σ H Q,qq X.K H₀ (Q5 ti T.length js g tc te) σ H Q->Qy (Kv X.K H₀ ti) T js g2 (Zt X.K H₀ tc) (qq X.K H₀ te) σ H Q:=λσ H Q q=>by
  obtain ⟨ρ,o,R,φ,hφ,k⟩:=q
  refine ⟨ρ,o,R,_,hφ,λJ ds P H1 s1 I hP ⟨PP,hlen,P0,turn,fin⟩ Da hDa=>?_⟩
  have R1:=R.to s1
  have gD:∀ {H':Hp},Same H1 H'->Grow (o.map Prod.snd) (Da :: o.map Prod.snd) H1 H':=λs=>⟨λb u h nb=>⟨s b u h,λz=>(zam.mp z).elim (λe=>zr h hDa e) nb⟩,λb xs h=>s b _ h,λb ob u h=>s b _ h⟩
  refine ⟨λi m ys H'=>m=ds.length - i /\ i <= ds.length /\ Same H1 H' /\ H' Da=some (.lst ys) /\ ∃ es,es.length <= i /\ PP i es /\ Reps X.K H' (Da :: o.map Prod.snd) es ys,
   ⟨_,rfl,Nat.zero_le _,yc hDa _,zy,[],zaj _,P0,rfl⟩,?_⟩
  rintro i m ys H' ⟨rfl,hi',s2,hD',es,le,pe,rp⟩
  refine ⟨hD',?_⟩
  have hP':=I.keep _ _ _ _ hP (gD s2)
  by_cases hlt:i < ds.length
  ·have ed:ds[i]?=some ds[i]:=by simp [hlt]
   obtain ⟨j1,j2⟩:=I.go H' _ i _ hP' ed
   refine .inr ⟨j1,λzs H2=>Same H1 H2 /\ H2 Da=some (.lst zs) /\ ∃ es,es.length <= i + 1 /\ PP (i + 1) es /\ Reps X.K H2 (Da :: o.map Prod.snd) es zs,λzs H2 ⟨a1,a2,a3⟩=>⟨_,(by omega:ds.length - (i + 1) < ds.length - i),rfl,hlt,a1,a2,a3⟩,λx H2 y=>?_⟩
   obtain ⟨s3,rx⟩:=j2 x H2 y
   have s13:=s2.trans s3
   have hD2:=s3 _ _ hD'
   have RB:=fi (n:=T.length) R1 nd hDa s13 hD2 T rfl
   have hO:((T.length + js.length,Da) :: o.map λp=>(ixO T.length js p.1,p.2)).map Prod.snd=Da :: o.map Prod.snd:=by
    rw [List.map_cons,List.map_map]
    rfl
   have rpl:ys.length <= 100000:=by
    rw [rp.length]
    omega
   refine hl H₀ H2 (st0 T js σ) (ρ0 T.length js ρ) _ _ x _ _ RB (by rw [hO]; exact rx) (turn i _ es ed le pe) λρ' σ' R' q'=>?_
   refine ⟨ρ',_,R',_,q',λc H3 s4 h4=>?_⟩
   have hD3:=s4 _ _ hD2
   cases c with
   | false =>
    exact iteF ⟨s13.trans s4,hD3,es,Nat.le_succ_of_le le,h4.2 rfl,Reps.grow (Grow.same (s3.trans s4)) _ _ rp⟩
   | true =>
    refine iteT ⟨ρ',_,R'.to s4,_,h4.1 rfl,λv r H4 s5 rv h5=>?_⟩
    have hD4:=s5 _ _ hD3
    have rd:=rv.solid (vv h5.1)
    rw [hO] at rd
    have ne:∀ b u,H1 b=some u->b ≠ Da:=λb u h=>zr h hDa
    have gu:Grow (Da :: o.map Prod.snd) (Da :: o.map Prod.snd) H4 (upd H4 Da (.lst (ys ++ [v]))) :=
     ⟨λb u h n=>⟨by rw [y7 (λz=>n (zam.mpr (.inl z)))]; exact h,n⟩,λb xs h=>by rw [y7 (λz=>by rw [z,hD4] at h; cases h)]; exact h,λb ob u h=>by rw [y7 (λz=>by rw [z,hD4] at h; cases h)]; exact h⟩
    refine ⟨hD4,Nat.lt_of_le_of_lt rpl (by decide),⟨λb u h=>?_,zy,es ++ [r.d],by rw [zLa]; exact Nat.succ_le_succ le,h5.2,?_⟩⟩
    ·rw [y7 (ne b u h)]
     exact s5 _ _ (s4 _ _ (s13 b u h))
    ·exact Reps.grow gu _ _ ((Reps.grow (Grow.same (s3.trans (s4.trans s5))) _ _ rp).append (Reps.one rd))
  ·have e:i=ds.length:=by omega
   subst e
   refine .inl ⟨I.stop H' _ hP',?_⟩
   exact k (.ref Da) (df (.lst es)) H' (s1.trans s2) ⟨Da,rfl,s1.free hDa,R.ofree (s1.free hDa),ys,hD',rp⟩ (fin es pe)
def Oy (hi:EI Γ X tg iter ti) (S:y9 X.env.scope scope T F) (hjs:Paired (λx j=>X.N[j]?=some x) F js) (nd:js.Nodup)
  (hg:∀ cl C fp s H,PG (yz X (T ++ F) scope cl C fp s H) tg g2) (hk:Z6 T.length g2) (hl:gp X.K g2 g)
  (ht:∀ cl C fp s H,EIf Γ (yz X (T ++ F) scope cl C fp s H) ifs tc) (he:∀ cl C fp s H,ED Γ (yz X (T ++ F) scope cl C fp s H) elt te)
  (hc:X.calm=true:=by rfl) (hs:∀ x,foldedSetIterable iter X.env x=pure x:=by intro _; rfl):ED Γ X (.ListComp elt [⟨tg,iter,ifs,0⟩] scope pos) (Q5 ti T.length js g tc te):=λH₀ =>
 impE (S9 (tc:=Zt X.K H₀.1 tc) (te:=qq X.K H₀.1 te) hc (hi H₀) S hjs hg hk (λcl C fp s H=>ht cl C fp s H H₀) (λcl C fp s H=>he cl C fp s H H₀) hs) (Ub nd hl)
def Q4 {ti:TID} {n:Nat} {js:List Nat} {g:TGD} {tc:TDb} {te:TD} {ρ:DE} {φ:EV->Prop} (ds:List D) (h:∀ ψ:List D->Prop,ψ ds->ti ρ ψ) (P:Nat->List D->Prop) (hl:ds.length <= 100000) (h0:P 0 [])
  (ht:∀ (i:Nat) (d:D) (es:List D),ds[i]?=some d->es.length <= i->P i es->g d (ρ0 n js ρ) λρ'=>tc ρ' λc=>(c=true->te ρ' λr=>(match r.k with | .own=>False | _=>True) /\ P (i + 1) (es ++ [r.d])) /\ (c=false->P (i + 1) es)) (hφ:∀ es,P ds.length es->φ (df (.lst es))):Q5 ti n js g tc te ρ φ:=h _ ⟨P,hl,h0,ht,hφ⟩
end
def qb:∀ {ts:List Str} {us:List Value},Vals (ts.map V.str) us->∃ l:List (Str × Tok),us=strValues l /\ l.map (·.1)=ts
 | [],_,.nil=>⟨[],rfl,rfl⟩
 | t :: ts,_,.cons r q=>by
  obtain ⟨k,rfl⟩:=r
  obtain ⟨l,rfl,e⟩:=qb q
  exact ⟨(t,k) :: l,rfl,by rw [List.map_cons,e]⟩
def Zv (n:Nat):∀ (ts:List Str) (a:Nat),ts.foldl (λacc (t:Str)=>acc + t.length + n) a=a + (ts.map λt=>t.length + n).sum
 | [],a=>by simp
 | t :: ts,a=>by
  rw [List.foldl_cons,Zv n ts,List.map_cons,List.sum_cons]
  omega
def Kq:MtR X "str.join" (λx xs H Q=>∃ sep p ts,x=.str sep /\ xs=[.ref p] /\ (SqL X.K H p (ts.map V.str) \/ SqT X.K H p (ts.map V.str)) /\ (ts.map λt=>t.length + sep.length).sum <= sizeLine /\ Q (.str (Str.join sep ts)) H):=by
 intro pn s σ H x xs v us Q I rx rs h
 obtain ⟨sep,p,ts,rfl,rfl,hq,hb,q⟩:=h
 obtain ⟨t,rfl⟩:=rx
 obtain ⟨u,rfl,ru⟩:=ga rs
 cases ru
 have fin:∀ l:List (Str × Tok),l.map (·.1)=ts->(joinMade sep l).post (λv s'=>EP X pn σ Q v s') s:=λl el=>by
  have lg:(Builtin.Str.glued sep ts).length <= sizeLine:=by
   rw [size_glued]
   refine zak ?_ hb
   have e:(ts.map λt=>t.length + sep.length).sum=(ts.map (·.length)).sum + ts.length * sep.length:=by
    clear hb q hq el
    induction ts with
    | nil=>simp
    | cons t ts ih=>simp [ih,Nat.add_mul]; omega
   rw [e]
   exact Nat.add_le_add_left (Nat.mul_le_mul_right _ (Nat.sub_le _ _)) _
  have two:EP X pn σ Q (.str (Builtin.Str.glued sep ts) s.toks) { s with toks:=s.toks + 1 }:=⟨.str (Str.join sep ts),H,I.tok _,⟨s.toks,by rw [PySem.StrLaws.glued_eq_join]⟩,q⟩
  match l,el with
  | [],el=>subst el; exact ⟨lg,two⟩
  | [p],el=>subst el; exact ⟨.str p.1,H,I,⟨p.2,rfl⟩,q⟩
  | p :: r :: l,el=>subst el; exact ⟨lg,two⟩
 have hl:∀ l:List (Str × Tok),l.map (·.1)=ts->Builtin.Str.tooLong ((l.map (·.1)).toArray.foldl (· + ·.length + sep.length) 0)=false:=λl el=>by
  rw [el]
  unfold Builtin.Str.tooLong
  simp only [List.foldl_toArray]
  rw [Zv]
  simp
  omega
 rcases hq with hq | hq
 ·obtain ⟨its,rv,pl,hz⟩:=I.list hq
  obtain ⟨l,rfl,el⟩:=qb rv
  exact call_meets PySem.F.slot_str_join (typeIs_str s sep t) PySem.F.entry_str_join (PySem.F.args_str_join_2 _ _) (meets_str_join_list sep t p l (hl l el)) ⟨pl.isList,fin l el⟩
 ·obtain ⟨its,rv,pl,hz⟩:=I.tuple hq
  obtain ⟨l,rfl,el⟩:=qb rv
  obtain ⟨o,g,c,n,d⟩:=pl
  exact call_meets PySem.F.slot_str_join (typeIs_str s sep t) PySem.F.entry_str_join (PySem.F.args_str_join_2 _ _) (meets_str_join_tuple sep t p l (hl l el)) ⟨⟨o,n,g,c,d⟩,fin l el⟩
def qh {K:W.Frag} {H:Hp} {O:List Addr}:∀ {ns:List Str} {xs:List V},Reps K H O (ns.map D.str) xs->xs=ns.map V.str
 | [],_,h=>h
 | n :: ns,xs,h=>by
  obtain ⟨v,r,rfl,q,t⟩:=h
  cases (show v=_ from q)
  rw [qh t]
  rfl
variable {o:Expr} {td te:TD}
def Mr (td te:TD):TD:=λρ φ=>td ρ λx=>match x.d with
 | .str sep=>te ρ λy=>(match y.d with
  | .lst ds=>∃ ts:List Str,ds=ts.map D.str /\ (ts.map λt=>t.length + sep.length).sum <= sizeLine /\ φ (dv (.str (Str.join sep ts)))
  | .tup ds=>∃ ts:List Str,ds=ts.map D.str /\ (ts.map λt=>t.length + sep.length).sum <= sizeLine /\ φ (dv (.str (Str.join sep ts)))
  | _=>False)
 | _=>False
def Ov (ho:ED Γ X o td) (he:ED Γ X e te) (hbase:attributeBase o "join" X.env (eval o X.env)=eval o X.env:=by rfl)
  (hfew:((backTo cpos (starEach [e] X.env)).all (λx=>!x.1) && (backToKw cpos (keywordEach [] X.env)).all (λx=>x.1.isSome) && decide (([e]:List Expr).length + ([]:List Keyword).length + (if ([]:List Keyword).isEmpty then 0 else 1) < 30))=true:=by rfl)
  (hline:(apos.endLine == cpos.line)=true:=by rfl) (hs:starEach [e] X.env=(false,eval e X.env) :: starEach [] X.env:=by rfl) (hpl:(backTo cpos (starEach [] X.env)).any (·.1)=false:=by rfl) :
  ED Γ X (.Call (.Attribute o "join" apos) [e] [] cpos) (Mr td te):=λH₀ =>
 impE (X8 PySem.F.plainAttrs_str PySem.F.slot_str_join PySem.F.type_str_join Kq (ho H₀) (yx (he H₀) vi hs) hbase hfew hline hs hpl) λσ H Q q=>by
  obtain ⟨ρ,oo,R,φ,hφ,kk⟩:=q
  refine ⟨ρ,oo,R,_,hφ,λv r H1 s1 rv h1=>?_⟩
  obtain ⟨kd,d⟩:=r
  cases d with
  | str sep =>
   cases (show v=_ from rv.view)
   refine ⟨rfl,ρ,oo,R.to s1,_,h1,λv2 r2 H2 s2 rv2 h2=>?_⟩
   obtain ⟨kd2,d2⟩:=r2
   cases d2 with
   | lst ds =>
    obtain ⟨ts,rfl,hb,h2⟩:=h2
    obtain ⟨a,xs,rfl,q,rp⟩:=rv2.view
    cases qh rp
    exact ⟨sep,a,ts,rfl,rfl,.inl (SqL.of q),hb,kk _ (dv (.str (Str.join sep ts))) H2 (s1.trans s2) (by exact rfl) h2⟩
   | tup ds =>
    obtain ⟨ts,rfl,hb,h2⟩:=h2
    obtain ⟨a,xs,rfl,q,rp⟩:=rv2.view
    cases qh rp
    exact ⟨sep,a,ts,rfl,rfl,.inr q.1,hb,kk _ (dv (.str (Str.join sep ts))) H2 (s1.trans s2) (by exact rfl) h2⟩
   | _=>exact h2.elim
  | _=>exact h1.elim
def dd (l:List Str) (k:Str):List Str:=if k ∈ l then l else l ++ [k]
def many (l:List Str):Nat:=(l.foldl dd []).length
def u4:entryFor table "dict.update.loop" = some Builtin.«dict.update.loop»:=entryFor_of_tree (by kernel_rfl)
def xv:plainId "dict.update.loop" = true:=by decide +kernel
structure ZAt1 (g:Heap) (z ti to i1 i2 l1 l2:Addr) (f:Value) (k:Nat):Prop where
 zz:IsZip g z ti to f
 its:IsPair g ti (.ref i1) (.ref i2)
 out:∃ a b,IsPair g to a b
 one:g.IsTupleIter i1 l1 k
 two:g.IsListIter i2 l2 k
structure ZNe1 (z ti to i1 i2:Addr):Prop where
 ab:ti ≠ z
 ac:to ≠ z
 ad:i1 ≠ z
 ae:i2 ≠ z
 bc:ti ≠ to
 bd:ti ≠ i1
 be:ti ≠ i2
 cd:to ≠ i1
 ce:to ≠ i2
 de:i1 ≠ i2
variable {td te:TE}
def Ma {a b:List (Key × V)} {x y:List (Key × Value)} (h:KV a x) (g:KV b y):KV (a ++ b) (x ++ y):=by
 induction h with
 | nil=>exact g
 | cons h t ih=>exact .cons h ih
def O4 {a:List (Key × V)} {b:List (Key × Value)} (h:KV a b):b.map (·.1)=a.map (·.1):=by
 induction h with
 | nil=>rfl
 | cons h t ih=>rw [List.map_cons,List.map_cons,ih,h.1]
def Hh (td te:TE):TE:=λσ H Q=>td σ H λx H1=>∃ a kvs0,x=.ref a /\ H1 a=some (.dK kvs0) /\ te σ H1 λy H2=>∃ b kvs more,y=.ref b /\ a ≠ b /\ H2 a=some (.dK kvs) /\ H2 b=some (.dK more) /\ kvs.length + more.length <= sizeLine /\ ((kvs ++ more).map (·.1)).Nodup /\ Q .non (upd H2 a (.dK (kvs ++ more)))
def Ke (ho:PE X o td) (he:PE X e te) (m:M1 X o "update" apos e cpos):PE X (.Call (.Attribute o "update" apos) [e] [] cpos) (Hh td te):=by
 intro pn s σ H Q I h
 refine wpAny_Call_method m.base m.few m.line PySem.F.plainAttrs_dict PySem.F.slot_dict_update PySem.F.type_dict_update (thn (ho pn s σ H _ I h) λu s1 ⟨x,H1,I1,rx,a,kvs0,ex,d,q1⟩=>?_)
 subst ex
 obtain rfl:u=Value.ref a:=rx
 obtain ⟨t1,t2,_⟩:=Ec I1 (.inl ⟨_,.inl d⟩)
 refine ⟨t1,t2,?_⟩
 rw [m.trees]
 refine Calls.callWith_builtin rfl (Calls.evalArgs_plain (Calls.spliced_cons (thn (he pn s1 σ H1 _ I1 q1) λiv s2 ⟨y,H2,I2,ry,b,kvs,more,ey,hne,ha,hb,hl,hnd,q2⟩=>Calls.spliced_nil ?_)))
 subst ey
 obtain rfl:iv=Value.ref b:=ry
 obtain ⟨z1,hd1,ks,r1,d1⟩:=Eu I2.hok ha
 obtain ⟨z2,hd2,ms,r2,d2⟩:=Eu I2.hok hb
 refine call_meetsIn PySem.F.slot_dict_update d1.typeIs PySem.F.entry_dict_update (PySem.F.args_dict_update_2 _ _) (meets_dict_update (yt X.prog X.w) a b hne hd2) ⟨ks,ms,d1,d2,by rw [<- r1.length,<- r2.length]; exact hl,λh' dd do' sb=>?_⟩
 have e:merged ks ms=ks ++ ms:=merged_append_of_fresh ks ms (by rw [O4 (Ma r1 r2)]; exact hnd)
 rw [e] at dd
 have he':∃ q,h'.get? a=some q:=let ⟨q,_,_,hq,_⟩:=dd; ⟨q,hq⟩
 exact ⟨.non,_,Jl (t':=s2.toks) I2 (by rw [ha]; exact True.intro) sb he' (Q1 (by rw [zLa]; exact hl) hd1 (Ma r1 r2) dd),rfl,q2⟩
def Yx {α β:Type}:∀ (a:List α) (x:List β) (b:List α) (y:List β),a.length=x.length->(a ++ b).zip (x ++ y)=a.zip x ++ b.zip y
 | [],[],_,_,_=>rfl
 | _ :: _,[],_,_,h=>by cases h
 | [],_ :: _,_,_,h=>by cases h
 | a :: as,x :: xs,b,y,h=>by
  show (a,x) :: (as ++ b).zip (xs ++ y)=(a,x) :: (as.zip xs ++ b.zip y)
  rw [Yx as xs b y (by simpa using h)]
def Zh {K:W.Frag} {H:Hp} {O:List Addr}:∀ {ns:List Str} {xs:List V},Reps K H O (ns.map D.str) xs->xs=ns.map V.str
 | [],_,h=>h
 | n :: ns,xs,h=>by
  obtain ⟨v,r,rfl,q,t⟩:=h
  cases (show v=_ from q)
  rw [Zh t]
  rfl
section
open PySem PySem.Spec PySem.W PyProof.Rows
def Dn (D:Addr) (i n ep:Nat) (x0 x1 o1 o2:Value):Obj:={ cls:=.type "dict_itemiterator", dict:=none,data:=.fields #[x0,x1,.ref D,.int i 0,.int n 0,.int ep 0,o1,o2],slots:=#[] }
def RawJ (h:Heap) (J D:Addr) (i n ep:Nat):Prop:=∃ x0 x1 o1 o2,h.get? J=some (Dn D i n ep x0 x1 o1 o2) /\ ((x0=.none /\ x1=.bool false) \/ ∃ (b:Addr) (f:Bool) (ob:Obj),x0=rawInt b /\ x1=.bool f /\ h.get? b=some ob /\ b ≠ J)
def Df (e:DictEntry):Obj:={ cls:=.type "tuple", data:=.seq #[e.key,e.val] }
def RawJ.lt {h:Heap} {J D:Addr} {i n ep:Nat} (y:RawJ h J D i n ep):J < h.objs.size:=let ⟨_,_,_,_,e,_⟩:=y; zae e
def Qg (h:Heap) (rows:Array DictEntry) (J:Addr) (as:List Addr):Prop:=(∀ a ∈ as,J < a) /\ as.Nodup /\ ∀ (j:Nat) a,as[j]?=some a->∃ e,rows[j]?=some e /\ h.get? a=some (Df e)
def Qg.lt {h:Heap} {rows:Array DictEntry} {J a:Addr} {as:List Addr} (p:Qg h rows J as) (m:a ∈ as):a < h.objs.size:=by
 obtain ⟨j,hj⟩:=List.getElem?_of_mem m
 obtain ⟨e,_,g⟩:=p.2.2 j a hj
 exact zae g
end
def N8 {α:Type} {M:Model} {A:Around} {a:Addr} {k:Option Obj->Sem α} {Q:α->Shared->Prop} {E:Value->Shared->Prop} {s:Shared} (h:wpAny M A (k (s.heap.get? a)) Q E s):wpAny M A (Sem.loadIfAlive a k) Q E s:=λΓ p hΓ=>by
 rw [Sem.wp_loadIfAlive]
 exact h Γ p hΓ
def ZipF (h:Heap) (z ti to a:Addr) (fb:Bool):Prop:=h.get? z=some { cls:=.type "zip", dict:=none,data:=.fields #[rawInt a,.bool fb,.bool false,.ref ti,.ref to],slots:=#[] }
def Rg {z ti to a:Addr} {fb:Bool} {o:Obj} {Q:Bool->Shared->Prop} (hz:ZipF s.heap z ti to a fb) (ha:s.heap.get? a=some o)
  (hQ:∀ g,ZipF g z ti to a true->Heap.SameBut z s.heap g->Q false { s with heap:=g }):wpAny (model P w) A (Builtin.SmallTypes.ownedTupleIsFree (.ref z)) Q E s:=by
 unfold Builtin.SmallTypes.ownedTupleIsFree
 refine zaa (wpAny_field hz rfl (x:=rawInt a) rfl ?_)
 show wpAny _ _ (Sem.loadIfAlive (Int.toNat (a:Int)) _) _ _ _
 refine N8 ?_
 rw [Int.toNat_natCast,ha]
 show wpAny _ _ (field (.ref z) 1 >>= _) _ _ _
 refine zaa (wpAny_field hz rfl (x:=.bool fb) rfl ?_)
 cases fb with
 | true=>exact zab (hQ s.heap hz (Heap.SameBut.refl _ _))
 | false =>
  show wpAny _ _ (setField (.ref z) 1 (.bool true) >>= _) _ _ _
  refine zaa (wpAny_setField_rec hz (by simp) λg z1 s1=>?_)
  exact zab (hQ g z1 s1)
def Ur {b1 b2:Bool} {z ti to i1 i2 l1 l2 a:Addr} {fb:Bool} {o:Obj} {k:Nat} {xs ys:Array Value} {x y:Value} {Q:Value->Shared->Prop} (n1:i1 ≠ z) (n2:i2 ≠ z) (n12:i1 ≠ i2) (nt:ti ≠ z) (nti1:ti ≠ i1) (l1z:l1 ≠ z) (l2z:l2 ≠ z) (l21:l2 ≠ i1)
  (hz:ZipF s.heap z ti to a fb) (ha:s.heap.get? a=some o) (hti:IsPair s.heap ti (.ref i1) (.ref i2)) (h1:ItAt b1 s.heap i1 l1 k) (h2:ItAt b2 s.heap i2 l2 k) (t1:SqAt b1 s.heap l1 xs) (t2:SqAt b2 s.heap l2 ys) (hx:xs[k]?=some x) (hy:ys[k]?=some y)
  (hQ:∀ g,ZipF g z ti to a true->ItAt b1 g i1 l1 (k + 1)->ItAt b2 g i2 l2 (k + 1)->IsPair g s.heap.objs.size x y->g.objs.size=s.heap.objs.size + 1->(∀ c o,c ≠ z->c ≠ i1->c ≠ i2->s.heap.get? c=some o->g.get? c=some o)->Q (.ref s.heap.objs.size) { s with heap:=g }) :
  wpAny (model P w) A (Builtin.«zip.__next__» ⟨[.ref z],[]⟩) (λfin s'=>∃ v,fin=.done (.ret v) /\ Q v s') E s:=by
 show wpAny _ _ (field (.ref z) 2 >>= _) _ _ _
 refine zaa (wpAny_field hz rfl (x:=.bool false) rfl ?_)
 show wpAny _ _ (field (.ref z) 3 >>= _) _ _ _
 refine zaa (wpAny_field hz rfl (x:=.ref ti) rfl ?_)
 refine zaa (wpAny_seqItems hti rfl ?_)
 show wpAny _ _ (Builtin.SmallTypes.ownedTupleIsFree (.ref z) >>= _) _ _ _
 refine zaa (Rg hz ha λg1 z1 s1=>?_)
 simp only [Bool.false_eq_true,if_false]
 refine zaa ?_
 rw [<- Array.forIn_toList]
 simp only [List.forIn_cons,List.forIn_nil]
 refine zaa (zaa (wpAny_holding ?_))
 show wpAny _ _ (Builtin.SmallTypes.nextOf (.ref i1) >>= _) _ _ _
 refine zaa (vz (h1.at λo e=>s1.extBut _ o n1 e) (t1.at λo e=>s1.extBut _ o l1z e) hx λg2 p2 s2=>zab (zab ?_))
 refine zaa (zaa (wpAny_holding ?_))
 show wpAny _ _ (Builtin.SmallTypes.nextOf (.ref i2) >>= _) _ _ _
 refine zaa (vz (h2.at λo e=>s2.extBut _ o n12.symm (s1.extBut _ o n2 e)) (t2.at λo e=>s2.extBut _ o l21 (s1.extBut _ o l2z e)) hy λg3 p3 s3=>zab (zab (zab ?_)))
 show wpAny _ _ (newTuple [x,y] >>= _) _ _ _
 refine zaa (wpAny_newTuple ?_)
 have sz:g3.objs.size=s.heap.objs.size:=by rw [s3.1,s2.1,s1.1]
 refine zab ⟨_,rfl,?_⟩
 show Q (.ref g3.objs.size) _
 rw [sz]
 have up:∀ c o,c ≠ z->c ≠ i1->c ≠ i2->s.heap.get? c=some o->(g3.push { cls:=.type "tuple", data:=.seq #[x,y] }).get? c=some o:=λc o c1 c2 c3 e=>zac _ (s3.extBut _ _ c3 (s2.extBut _ _ c2 (s1.extBut _ _ c1 e)))
 refine hQ _ (zac _ (s3.extBut _ _ n2.symm (s2.extBut _ _ n1.symm z1))) ((p2.at λo e=>s3.extBut _ o n12 e).at λo e=>zac _ e) (p3.at λo e=>zac _ e) ?_ (by rw [Heap.size_push,sz]) up
 have:=zad g3 (o:=({ cls:=.type "tuple", data:=.seq #[x,y] }:Obj)) rfl
 rw [sz] at this
 exact this
def Qk {b1 b2:Bool} {z ti to i1 i2 l1 l2 a:Addr} {fb:Bool} {o:Obj} {k:Nat} {xs:Array Value} {Q:Fin->Shared->Prop} (hh:A.handled=none) (n1:i1 ≠ z) (l1z:l1 ≠ z)
  (hz:ZipF s.heap z ti to a fb) (ha:s.heap.get? a=some o) (hti:IsPair s.heap ti (.ref i1) (.ref i2)) (h1:ItAt b1 s.heap i1 l1 k) (t1:SqAt b1 s.heap l1 xs) (hx:xs[k]?=none)
  (hE:∀ g e,(∀ c o,c ≠ z->c ≠ i1->s.heap.get? c=some o->g.get? c=some o)->(∃ o,g.get? e=some o /\ o.cls=.type "StopIteration")->E (.ref e) { s with heap:=g }) :
  wpAny (model P w) A (Builtin.«zip.__next__» ⟨[.ref z],[]⟩) Q E s:=by
 show wpAny _ _ (field (.ref z) 2 >>= _) _ _ _
 refine zaa (wpAny_field hz rfl (x:=.bool false) rfl ?_)
 show wpAny _ _ (field (.ref z) 3 >>= _) _ _ _
 refine zaa (wpAny_field hz rfl (x:=.ref ti) rfl ?_)
 refine zaa (wpAny_seqItems hti rfl ?_)
 show wpAny _ _ (Builtin.SmallTypes.ownedTupleIsFree (.ref z) >>= _) _ _ _
 refine zaa (Rg hz ha λg1 z1 s1=>?_)
 simp only [Bool.false_eq_true,if_false]
 refine zaa ?_
 rw [<- Array.forIn_toList]
 simp only [List.forIn_cons,List.forIn_nil]
 refine zaa (zaa (wpAny_holding ?_))
 show wpAny _ _ (Builtin.SmallTypes.nextOf (.ref i1) >>= _) _ _ _
 refine zaa (ja hh (h1.at λo e=>s1.extBut _ o n1 e) (t1.at λo e=>s1.extBut _ o l1z e) hx λg2 e k2 he=>?_)
 exact hE g2 e (λc o c1 c2 q=>k2 c o c2 (s1.extBut _ _ c1 q)) he
def U5 {b1 b2:Bool} {z ti to i1 i2 l1 l2 a:Addr} {fb:Bool} {o:Obj} {k:Nat} {xs ys:Array Value} {x y:Value} {Q:Option Value->Shared->Prop} (n1:i1 ≠ z) (n2:i2 ≠ z) (n12:i1 ≠ i2) (nt:ti ≠ z) (nti1:ti ≠ i1) (l1z:l1 ≠ z) (l2z:l2 ≠ z) (l21:l2 ≠ i1)
  (hz:ZipF s.heap z ti to a fb) (ha:s.heap.get? a=some o) (hti:IsPair s.heap ti (.ref i1) (.ref i2)) (h1:ItAt b1 s.heap i1 l1 k) (h2:ItAt b2 s.heap i2 l2 k) (t1:SqAt b1 s.heap l1 xs) (t2:SqAt b2 s.heap l2 ys) (hx:xs[k]?=some x) (hy:ys[k]?=some y)
  (hQ:∀ g,ZipF g z ti to a true->ItAt b1 g i1 l1 (k + 1)->ItAt b2 g i2 l2 (k + 1)->IsPair g s.heap.objs.size x y->g.objs.size=s.heap.objs.size + 1->(∀ c o,c ≠ z->c ≠ i1->c ≠ i2->s.heap.get? c=some o->g.get? c=some o)->Q (some (.ref s.heap.objs.size)) { s with heap:=g }) :
  wpAny (model P w) A (pyNext (.ref z)) Q E s:=by
 have ty:s.TypeIs (.ref z) "zip":=⟨_,hz,rfl⟩
 unfold pyNext
 exact zaa (wpAny_attempt (wpAny_callSpecial?_slot (name:=Str.ofString "__next__") ty F.slot_zip_next (wpAny_call_entry F.slot_zip_next ty F.entry_zip_next (Ur n1 n2 n12 nt nti1 l1z l2z l21 hz ha hti h1 h2 t1 t2 hx hy λg q1 q2 q3 q4 q5 q6=>zab (hQ g q1 q2 q3 q4 q5 q6)) (F.args_zip_next_1 _))))
def Sn {b1:Bool} {z ti to i1 i2 l1 a:Addr} {fb:Bool} {o:Obj} {k:Nat} {xs:Array Value} {Q:Option Value->Shared->Prop} (hh:A.handled=none) (n1:i1 ≠ z) (l1z:l1 ≠ z)
  (hz:ZipF s.heap z ti to a fb) (ha:s.heap.get? a=some o) (hti:IsPair s.heap ti (.ref i1) (.ref i2)) (h1:ItAt b1 s.heap i1 l1 k) (t1:SqAt b1 s.heap l1 xs) (hx:xs[k]?=none)
  (hQ:∀ g,(∀ c o,c ≠ z->c ≠ i1->s.heap.get? c=some o->g.get? c=some o)->Q none { s with heap:=g }):wpAny (model P w) A (pyNext (.ref z)) Q E s:=by
 have ty:s.TypeIs (.ref z) "zip":=⟨_,hz,rfl⟩
 unfold pyNext
 refine zaa (wpAny_attempt (wpAny_callSpecial?_slot (name:=Str.ofString "__next__") ty F.slot_zip_next (wpAny_call_entry F.slot_zip_next ty F.entry_zip_next (Qk (b2:=b1) (l2:=l1) hh n1 l1z hz ha hti h1 t1 hx λg e kp he=>?_) (F.args_zip_next_1 _))))
 obtain ⟨o,ho,hc⟩:=he
 refine zaa (wpAny_isInstance (T:="StopIteration") (b:=true) ⟨o,ho,hc⟩ isSubtype_stop ?_)
 exact zab (hQ _ kp)
def PairsZ (h:Heap) (xs ys:Array Value) (J:Addr) (as:List Addr):Prop:=(∀ a ∈ as,J < a) /\ as.Nodup /\ ∀ (j:Nat) a,as[j]?=some a->∃ x y,xs[j]?=some x /\ ys[j]?=some y /\ IsPair h a x y
def PairsZ.lt {h:Heap} {xs ys:Array Value} {J a:Addr} {as:List Addr} (p:PairsZ h xs ys J as) (m:a ∈ as):a < h.objs.size:=by
 obtain ⟨j,hj⟩:=List.getElem?_of_mem m
 obtain ⟨x,y,_,_,g⟩:=p.2.2 j a hj
 exact zae g
def PairsZ.alive {h:Heap} {xs ys:Array Value} {J a:Addr} {as:List Addr} (p:PairsZ h xs ys J as) (m:a ∈ as):∃ o,h.get? a=some o:=by
 obtain ⟨j,hj⟩:=List.getElem?_of_mem m
 obtain ⟨x,y,_,_,g⟩:=p.2.2 j a hj
 exact ⟨_,g⟩
def PairsZ.to {h k:Heap} {xs ys:Array Value} {J:Addr} {as:List Addr} (p:PairsZ h xs ys J as) (f:∀ a o,a ∈ as->h.get? a=some o->k.get? a=some o):PairsZ k xs ys J as :=
 ⟨p.1,p.2.1,λj a e=>let ⟨x,y,e1,e2,g⟩:=p.2.2 j a e; ⟨x,y,e1,e2,f a _ (zan e) g⟩⟩
def PairsZ.snoc {h:Heap} {xs ys:Array Value} {J a:Addr} {as:List Addr} {x y:Value} (p:PairsZ h xs ys J as) (ha:J < a) (nm:a ∉ as) (ex:xs[as.length]?=some x) (ey:ys[as.length]?=some y) (g:IsPair h a x y):PairsZ h xs ys J (as ++ [a]):=by
 refine ⟨λb hb=>?_,?_,λj b hj=>?_⟩
 ·rcases zas.mp hb with m | m
  ·exact p.1 b m
  ·rw [List.mem_singleton.mp m]; exact ha
 ·rw [List.nodup_append]
  refine ⟨p.2.1,by simp,λx hx y hy z=>?_⟩
  rw [List.mem_singleton.mp hy] at z
  subst z
  exact nm hx
 ·by_cases hl:j < as.length
  ·rw [List.getElem?_append_left hl] at hj
   exact p.2.2 j b hj
  ·have:j=as.length:=by
    have:=(zag.mp hj).1
    simp at this
    omega
   subst this
   have eb:a=b:=by simpa using hj
   subst eb
   exact ⟨x,y,ex,ey,g⟩
def ZS (b1 b2:Bool) (z ti to i1 i2 l1 l2:Addr) (as:List Addr) (i:Nat) (h:Heap):Prop :=
 (i=0 /\ ZAt b1 b2 h z ti to i1 i2 l1 l2 .none 0) \/ (∃ a fb,a ∈ as /\ ZipF h z ti to a fb /\ IsPair h ti (.ref i1) (.ref i2) /\ ItAt b1 h i1 l1 i /\ ItAt b2 h i2 l2 i)
def ZS.to {b1 b2:Bool} {z ti to i1 i2 l1 l2:Addr} {as:List Addr} {i:Nat} {h g:Heap} (Z:ZS b1 b2 z ti to i1 i2 l1 l2 as i h) (k:∀ c o,(c=z \/ c=ti \/ c=to \/ c=i1 \/ c=i2)->h.get? c=some o->g.get? c=some o):ZS b1 b2 z ti to i1 i2 l1 l2 as i g:=by
 rcases Z with ⟨e,Z⟩ | ⟨a,fb,m,z1,t1,p1,p2⟩
 ·obtain ⟨zz,its,⟨a,b,out⟩,one,two⟩:=Z
  exact .inl ⟨e,k _ _ (.inl rfl) zz,k _ _ (.inr (.inl rfl)) its,⟨a,b,k _ _ (.inr (.inr (.inl rfl))) out⟩,one.at λo e=>k _ o (.inr (.inr (.inr (.inl rfl)))) e,two.at λo e=>k _ o (.inr (.inr (.inr (.inr rfl)))) e⟩
 ·exact .inr ⟨a,fb,m,k _ _ (.inl rfl) z1,k _ _ (.inr (.inl rfl)) t1,p1.at λo e=>k _ o (.inr (.inr (.inr (.inl rfl)))) e,p2.at λo e=>k _ o (.inr (.inr (.inr (.inr rfl)))) e⟩
section
variable {b1 b2:Bool} {z ti to i1 i2 l1 l2 S:Addr} {xs ys:Array Value}
def Mz {as:List Addr} {i:Nat} {x y:Value} {Q:Option Value->Shared->Prop} (D:ZNe z ti to i1 i2) (d1:ZOff z to i1 i2 l1) (d2:ZOff z to i1 i2 l2) (Z:ZS b1 b2 z ti to i1 i2 l1 l2 as i s.heap) (pa:PairsZ s.heap xs ys S as) (t1:SqAt b1 s.heap l1 xs) (t2:SqAt b2 s.heap l2 ys) (hx:xs[i]?=some x) (hy:ys[i]?=some y)
  (hQ:∀ g,ZS b1 b2 z ti to i1 i2 l1 l2 (as ++ [s.heap.objs.size]) (i + 1) g->IsPair g s.heap.objs.size x y->(∀ c o,ZOff z to i1 i2 c->s.heap.get? c=some o->g.get? c=some o)->Q (some (.ref s.heap.objs.size)) { s with heap:=g }) :
  wpAny (model P w) A (pyNext (.ref z)) Q E s:=by
 rcases Z with ⟨rfl,Z⟩ | ⟨a,fb,m,z1,ht,p1,p2⟩
 ·refine Zp D d1 d2 Z t1 t2 hx hy λg Z' pr kp=>hQ g (.inr ⟨s.heap.objs.size,false,List.mem_append_right _ (List.mem_singleton.mpr rfl),Z'.zz,Z'.its,Z'.one,Z'.two⟩) pr kp
 ·obtain ⟨o,ho⟩:=pa.alive m
  refine U5 D.ad D.ae D.de D.ab D.bd d1.1 d2.1 d2.2.2.1 z1 ho ht p1 p2 t1 t2 hx hy λg q1 q2 q3 q4 q5 q6=>hQ g (.inr ⟨a,true,List.mem_append_left _ m,q1,q6 _ _ D.ab D.bd D.be ht,q2,q3⟩) q4 λc o q e=>q6 c o q.1 q.2.2.1 q.2.2.2 e
def Jw {as:List Addr} {i:Nat} {Q:Option Value->Shared->Prop} (hh:A.handled=none) (D:ZNe z ti to i1 i2) (d1:ZOff z to i1 i2 l1) (d2:ZOff z to i1 i2 l2) (Z:ZS b1 b2 z ti to i1 i2 l1 l2 as i s.heap) (pa:PairsZ s.heap xs ys S as) (t1:SqAt b1 s.heap l1 xs) (t2:SqAt b2 s.heap l2 ys) (hx:xs[i]?=none)
  (hQ:∀ g,(∀ c o,ZOff z to i1 i2 c->s.heap.get? c=some o->g.get? c=some o)->Q none { s with heap:=g }):wpAny (model P w) A (pyNext (.ref z)) Q E s:=by
 rcases Z with ⟨rfl,Z⟩ | ⟨a,fb,m,z1,ht,p1,p2⟩
 ·exact V3 hh D d1 d2 Z t1 t2 (.inl hx) hQ
 ·obtain ⟨o,ho⟩:=pa.alive m
  exact Sn hh D.ad d1.1 z1 ho ht p1 t1 hx λg k=>hQ g λc o q e=>k c o q.1 q.2.2.1 e
end
section
end
structure Gt (H H':Hp):Prop where
 tups:∀ b xs,H b=some (.tup xs)->H' b=some (.tup xs)
 frzs:∀ b o u,H b=some (.frz o u)->H' b=some (.frz o u)
def Gt.trans {H H1 H2:Hp} (a:Gt H H1) (b:Gt H1 H2):Gt H H2:=⟨λc xs h=>b.tups c xs (a.tups c xs h),λc o u h=>b.frzs c o u (a.frzs c o u h)⟩
def Gt.same {H H':Hp} (s:Same H H'):Gt H H':=⟨λb xs h=>s b _ h,λb o u h=>s b _ h⟩
variable {O':List Addr}
def T8 {a:Addr} {xs:List V} (g:Gt H H') (h:SqR K H a xs):SqR K H' a xs:=by
 refine ⟨?_,g.tups _ _ h.2⟩
 rcases h.1 with (h | ⟨o,h⟩) | h
 ·exact .inl (.inl (g.tups _ _ h))
 ·exact .inl (.inr ⟨o,g.frzs _ _ _ h⟩)
 ·exact .inr h
def Nq {a:Addr} {ns:List Int} (g:Gt H H') (h:Scr K H a ns):Scr K H' a ns:=by
 rcases h with ⟨o,h⟩ | h
 ·exact .inl ⟨o,g.frzs _ _ _ h⟩
 ·exact .inr h
mutual
def Rep.keep (g:Gt H H'):∀ (d:D) (v:V),zk d->Rep K H O d v->Rep K H' O' d v
 | .non,_,_,h=>h
 | .bl _,_,_,h=>h
 | .int _,_,_,h=>h
 | .str _,_,_,h=>h
 | .ty _,_,_,h=>h
 | .tup ds,v,p,h=>by
  obtain ⟨a,xs,e,q,r⟩:=h
  exact ⟨a,xs,e,T8 g q,Reps.keep g ds xs p r⟩
 | .scr ns,v,_,h=>by
  obtain ⟨a,e,q⟩:=h
  exact ⟨a,e,Nq g q⟩
 | .lst ds,v,p,h=>p.elim
 | .dk ks ds,v,p,h=>p.elim
 | .ob C ns ds,v,p,h=>p.elim
def Reps.keep (g:Gt H H'):∀ (ds:List D) (xs:List V),zn ds->Reps K H O ds xs->Reps K H' O' ds xs
 | [],_,_,h=>h
 | d :: ds,xs,p,h=>by
  obtain ⟨v,r,e,q,t⟩:=h
  exact ⟨v,r,e,Rep.keep g d v p.1 q,Reps.keep g ds r p.2 t⟩
end
mutual
def Ft (K:W.Frag) (H:Hp):D->V->List Addr->Prop
 | .lst ds,v,A=>∃ a xs B,v=.ref a /\ H a=some (.lst xs) /\ A=a :: B /\ Fts K H ds xs B
 | .dk ks ds,v,A=>∃ a xs B,v=.ref a /\ H a=some (.dK (ks.zip xs)) /\ ks.length=ds.length /\ ks.Nodup /\ A=a :: B /\ Fts K H ds xs B
 | .tup ds,v,A=>∃ a xs,v=.ref a /\ SqR K H a xs /\ Fts K H ds xs A
 | .non,v,A=>A=[] /\ v=.non
 | .bl b,v,A=>A=[] /\ v=.bl b
 | .int i,v,A=>A=[] /\ v=.int i
 | .str x,v,A=>A=[] /\ v=.str x
 | .ty n,v,A=>A=[] /\ v=.ty n
 | .scr ns,v,A=>A=[] /\ ∃ a,v=.ref a /\ Scr K H a ns
 | .ob C ns ds,v,A=>∃ a dx xs B,v=.ref a /\ H a=some (.ins C dx (ns.zip xs)) /\ ns.length=ds.length /\ ns.Nodup /\ A=a :: B /\ Fts K H ds xs B
def Fts (K:W.Frag) (H:Hp):List D->List V->List Addr->Prop
 | [],xs,A=>xs=[] /\ A=[]
 | d :: ds,xs,A=>∃ v r B C,xs=v :: r /\ A=B ++ C /\ Ft K H d v B /\ Fts K H ds r C
end
mutual
def Ft.keep (g:Gt H H'):∀ (d:D) (v:V) (A:List Addr),(∀ a ∈ A,∀ u,H a=some u->H' a=some u)->Ft K H d v A->Ft K H' d v A
 | .lst ds,v,A,k,h=>by
  obtain ⟨a,xs,B,e,q,rfl,r⟩:=h
  exact ⟨a,xs,B,e,k a zao _ q,rfl,Fts.keep g ds xs B (λb hb=>k b (zal _ hb)) r⟩
 | .dk ks ds,v,A,k,h=>by
  obtain ⟨a,xs,B,e,q,l,n,rfl,r⟩:=h
  exact ⟨a,xs,B,e,k a zao _ q,l,n,rfl,Fts.keep g ds xs B (λb hb=>k b (zal _ hb)) r⟩
 | .tup ds,v,A,k,h=>by
  obtain ⟨a,xs,e,q,r⟩:=h
  exact ⟨a,xs,e,T8 g q,Fts.keep g ds xs A k r⟩
 | .non,_,_,_,h=>h
 | .bl _,_,_,_,h=>h
 | .int _,_,_,_,h=>h
 | .str _,_,_,_,h=>h
 | .ty _,_,_,_,h=>h
 | .scr ns,v,A,_,h=>by
  obtain ⟨e,a,e2,q⟩:=h
  exact ⟨e,a,e2,Nq g q⟩
 | .ob C ns ds,v,A,k,h=>by
  obtain ⟨a,dx,xs,B,e,q,l,n,rfl,r⟩:=h
  exact ⟨a,dx,xs,B,e,k a zao _ q,l,n,rfl,Fts.keep g ds xs B (λb hb=>k b (zal _ hb)) r⟩
def Fts.keep (g:Gt H H'):∀ (ds:List D) (xs:List V) (A:List Addr),(∀ a ∈ A,∀ u,H a=some u->H' a=some u)->Fts K H ds xs A->Fts K H' ds xs A
 | [],_,_,_,h=>h
 | d :: ds,xs,A,k,h=>by
  obtain ⟨v,r,B,C,e,rfl,q,t⟩:=h
  exact ⟨v,r,B,C,e,rfl,Ft.keep g d v B (λb hb=>k b (List.mem_append_left _ hb)) q,Fts.keep g ds r C (λb hb=>k b (List.mem_append_right _ hb)) t⟩
end
mutual
def Ft.rep:∀ (d:D) (v:V) (A:List Addr),(∀ a ∈ A,a ∉ O)->Ft K H d v A->Rep K H O d v
 | .lst ds,v,A,k,h=>by
  obtain ⟨a,xs,B,e,q,rfl,r⟩:=h
  exact ⟨a,xs,e,q,k a zao,Fts.reps ds xs B (λb hb=>k b (zal _ hb)) r⟩
 | .dk ks ds,v,A,k,h=>by
  obtain ⟨a,xs,B,e,q,l,n,rfl,r⟩:=h
  exact ⟨a,xs,e,q,k a zao,l,n,Fts.reps ds xs B (λb hb=>k b (zal _ hb)) r⟩
 | .tup ds,v,A,k,h=>by
  obtain ⟨a,xs,e,q,r⟩:=h
  exact ⟨a,xs,e,q,Fts.reps ds xs A k r⟩
 | .non,_,_,_,h=>h.2
 | .bl _,_,_,_,h=>h.2
 | .int _,_,_,_,h=>h.2
 | .str _,_,_,_,h=>h.2
 | .ty _,_,_,_,h=>h.2
 | .scr ns,v,A,_,h=>h.2
 | .ob C ns ds,v,A,k,h=>by
  obtain ⟨a,dx,xs,B,e,q,l,n,rfl,r⟩:=h
  exact ⟨a,dx,xs,e,q,k a zao,l,n,Fts.reps ds xs B (λb hb=>k b (zal _ hb)) r⟩
def Fts.reps:∀ (ds:List D) (xs:List V) (A:List Addr),(∀ a ∈ A,a ∉ O)->Fts K H ds xs A->Reps K H O ds xs
 | [],_,_,_,h=>h.1
 | d :: ds,xs,A,k,h=>by
  obtain ⟨v,r,B,C,e,rfl,q,t⟩:=h
  exact ⟨v,r,e,Ft.rep d v B (λb hb=>k b (List.mem_append_left _ hb)) q,Fts.reps ds r C (λb hb=>k b (List.mem_append_right _ hb)) t⟩
end
mutual
def Ft.dom:∀ (d:D) (v:V) (A:List Addr),Ft K H d v A->∀ a ∈ A,∃ u,H a=some u /\ (∀ xs,u ≠ .tup xs) /\ ∀ ob w,u ≠ .frz ob w
 | .lst ds,v,A,h=>by
  obtain ⟨a,xs,B,e,q,rfl,r⟩:=h
  intro b hb
  rcases zam.mp hb with rfl | hb
  ·exact ⟨_,q,(λ_ z=>by cases z),λ_ _ z=>by cases z⟩
  ·exact Fts.dom ds xs B r b hb
 | .dk ks ds,v,A,h=>by
  obtain ⟨a,xs,B,e,q,l,n,rfl,r⟩:=h
  intro b hb
  rcases zam.mp hb with rfl | hb
  ·exact ⟨_,q,(λ_ z=>by cases z),λ_ _ z=>by cases z⟩
  ·exact Fts.dom ds xs B r b hb
 | .tup ds,v,A,h=>by
  obtain ⟨a,xs,e,q,r⟩:=h
  exact Fts.dom ds xs A r
 | .non,_,_,h=>by obtain ⟨rfl,_⟩:=h; intro a ha; cases ha
 | .bl _,_,_,h=>by obtain ⟨rfl,_⟩:=h; intro a ha; cases ha
 | .int _,_,_,h=>by obtain ⟨rfl,_⟩:=h; intro a ha; cases ha
 | .str _,_,_,h=>by obtain ⟨rfl,_⟩:=h; intro a ha; cases ha
 | .ty _,_,_,h=>by obtain ⟨rfl,_⟩:=h; intro a ha; cases ha
 | .scr _,_,_,h=>by obtain ⟨rfl,_⟩:=h; intro a ha; cases ha
 | .ob C ns ds,v,A,h=>by
  obtain ⟨a,dx,xs,B,e,q,l,n,rfl,r⟩:=h
  intro b hb
  rcases zam.mp hb with rfl | hb
  ·exact ⟨_,q,(λ_ z=>by cases z),λ_ _ z=>by cases z⟩
  ·exact Fts.dom ds xs B r b hb
def Fts.dom:∀ (ds:List D) (xs:List V) (A:List Addr),Fts K H ds xs A->∀ a ∈ A,∃ u,H a=some u /\ (∀ xs,u ≠ .tup xs) /\ ∀ ob w,u ≠ .frz ob w
 | [],_,_,h=>by obtain ⟨_,rfl⟩:=h; intro a ha; cases ha
 | d :: ds,xs,A,h=>by
  obtain ⟨v,r,B,C,e,rfl,q,t⟩:=h
  intro b hb
  rcases zas.mp hb with hb | hb
  ·exact Ft.dom d v B q b hb
  ·exact Fts.dom ds r C t b hb
end
mutual
def Rep.ft:∀ (d:D) (v:V),zk d->Rep K H O d v->Ft K H d v []
 | .non,_,_,h=>⟨rfl,h⟩
 | .bl _,_,_,h=>⟨rfl,h⟩
 | .int _,_,_,h=>⟨rfl,h⟩
 | .str _,_,_,h=>⟨rfl,h⟩
 | .ty _,_,_,h=>⟨rfl,h⟩
 | .tup ds,v,p,h=>by
  obtain ⟨a,xs,e,q,r⟩:=h
  exact ⟨a,xs,e,q,Reps.fts ds xs p r⟩
 | .scr ns,v,_,h=>⟨rfl,h⟩
 | .lst ds,v,p,h=>p.elim
 | .dk ks ds,v,p,h=>p.elim
 | .ob C ns ds,v,p,h=>p.elim
def Reps.fts:∀ (ds:List D) (xs:List V),zn ds->Reps K H O ds xs->Fts K H ds xs []
 | [],_,_,h=>⟨h,rfl⟩
 | d :: ds,xs,p,h=>by
  obtain ⟨v,r,e,q,t⟩:=h
  exact ⟨v,r,[],[],e,rfl,Rep.ft d v p.1 q,Reps.fts ds r p.2 t⟩
end
def hid:Nat->DE->DE
 | _,[]=>[]
 | 0,_ :: ρ=>none :: ρ
 | l + 1,x :: ρ=>x :: hid l ρ
def ue:∀ (l:Nat) (ρ:DE),hid l ρ=ρ.set l none
 | _,[]=>by cases ‹Nat› <;> rfl
 | 0,_ :: _=>rfl
 | l + 1,x :: ρ=>by rw [hid,ue l ρ,List.set_cons_succ]
def qu {l i:Nat} {ρ:DE} {r:EV} (h:(hid l ρ)[i]?=some (some r)):i ≠ l /\ ρ[i]?=some (some r):=by
 rw [ue] at h
 by_cases e:i=l
 ·subst e
  rcases Nat.lt_or_ge i ρ.length with z | z
  ·rw [List.getElem?_set_self z] at h; cases h
  ·rw [List.getElem?_eq_none (by rw [List.length_set]; exact z)] at h; cases h
 ·rw [List.getElem?_set_ne (Ne.symm e)] at h
  exact ⟨e,h⟩
def R7 {l i:Nat} {ρ:DE} (h:i ≠ l):(hid l ρ)[i]?=ρ[i]?:=by
 rw [ue,List.getElem?_set_ne (Ne.symm h)]
def bf (l:Nat) (ρ:DE) (x:EV):hid l (setS ρ l x)=hid l ρ:=by
 rw [ue,ue,xb,List.set_set]
def t4 {l j:Nat} (ρ:DE) (x:EV) (h:j ≠ l):hid l (setS ρ j x)=setS (hid l ρ) j x:=by
 rw [ue,ue,xb,xb,List.set_comm _ _ h]
def tg (l:Nat) (A:List Addr):List (Nat × Addr):=A.map λa=>(l,a)
def Hc (l:Nat) (A:List Addr):(tg l A).map Prod.snd=A:=by
 unfold tg
 rw [List.map_map]
 exact List.map_id A
def wa (o:List (Nat × Addr)) (l:Nat) (A:List Addr):(o ++ tg l A).map Prod.snd=o.map Prod.snd ++ A:=by
 rw [zMa,Hc]
structure ST (K:W.Frag) (H₀ H:Hp) (σ:St) (ρ:DE) (o:List (Nat × Addr)) (l:Nat) (A:List Addr) (d:D) (v:V):Prop where
 Q:REnv K H₀ H σ (hid l ρ) (o ++ tg l A)
 hd:ρ[l]?=some (some (dv d))
 hv:σ[l]?=some (some v)
 ft:Ft K H d v A
section
variable {o:List (Nat × Addr)} {l:Nat} {A A':List Addr} {d d':D}
def ST.lt (S:ST K H₀ H σ ρ o l A d v):l < ρ.length:=(zag.mp S.hd).1
def ST.ndA (S:ST K H₀ H σ ρ o l A d v):A.Nodup:=by
 have:=S.Q.nda
 rw [wa] at this
 exact (List.nodup_append.mp this).2.1
def ST.dis (S:ST K H₀ H σ ρ o l A d v):∀ a ∈ A,a ∉ o.map Prod.snd:=λa ha hb=>by
 have:=S.Q.nda
 rw [wa] at this
 exact (List.nodup_append.mp this).2.2 a hb a ha rfl
def ST.frA (S:ST K H₀ H σ ρ o l A d v):∀ a ∈ A,H₀ a=none:=λa ha=>S.Q.fresh (l,a) (List.mem_append_right _ (zah.mpr ⟨a,ha,rfl⟩))
def Fo {i l:Nat} {a:Addr} (h:(i,a) ∈ o ++ tg l A) (hi:i ≠ l):(i,a) ∈ o:=by
 rcases zas.mp h with h | h
 ·exact h
 ·obtain ⟨b,_,e⟩:=zah.mp h
  cases e
  exact absurd rfl hi
def ST.R (S:ST K H₀ H σ ρ o l A d v):REnv K H₀ H σ ρ o where
 same:=S.Q.same
 fresh:=λp hp=>S.Q.fresh p (List.mem_append_left _ hp)
 trk:=λp hp=>S.Q.trk p (List.mem_append_left _ hp)
 mtb:=λp hp=>S.Q.mtb p (List.mem_append_left _ hp)
 nda:=by
  have:=S.Q.nda
  rw [wa] at this
  exact (List.nodup_append.mp this).1
 len:=by
  have:=S.Q.len
  rw [ue,List.length_set] at this
  exact this
 slots:=λi r e=>by
  by_cases hi:i=l
  ·subst hi
   rw [S.hd] at e
   cases e
   exact ⟨v,S.hv,.inl ⟨rfl,Ft.rep _ _ _ S.dis S.ft⟩⟩
  ·obtain ⟨w,ew,q⟩:=S.Q.slots i r (by rw [R7 hi]; exact e)
   rw [wa] at q
   have sub:∀ a ∈ o.map Prod.snd,a ∈ o.map Prod.snd ++ A:=λa ha=>List.mem_append_left _ ha
   refine ⟨w,ew,?_⟩
   rcases q with ⟨k,q⟩ | ⟨k,a,e1,m,c⟩
   ·exact .inl ⟨k,Rep.sub sub _ _ q⟩
   ·exact .inr ⟨k,a,e1,Fo m hi,c.sub sub⟩
def ST.to (S:ST K H₀ H σ ρ o l A d v) (s:Same H H'):ST K H₀ H' σ ρ o l A d v :=
 ⟨S.Q.to s,S.hd,S.hv,Ft.keep (Gt.same s) _ _ _ (λa _ u h=>s a u h) S.ft⟩
def Grow.gt {O O':List Addr} (g:Grow O O' H H'):Gt H H':=⟨g.tups,g.frzs⟩
def ST.chg (S:ST K H₀ H σ ρ o l A d v) (g:Grow A A' H H') (ft:Ft K H' d' v A') (nd:A'.Nodup) (fr:∀ a ∈ A',a ∈ A \/ H a=none) :
  ST K H₀ H' σ (setS ρ l (dv d')) o l A' d' v:=by
 have hl:=S.lt
 have gO:Grow ((o ++ tg l A).map Prod.snd) ((o ++ tg l A').map Prod.snd) H H':=by
  rw [wa,wa]
  exact ⟨λb u h n=>⟨(g.keep b u h λz=>n (List.mem_append_right _ z)).1,λz=>(zas.mp z).elim (λz=>n (List.mem_append_left _ z)) (g.keep b u h λz=>n (List.mem_append_right _ z)).2⟩,g.tups,g.frzs⟩
 have ko:∀ p ∈ o,p.2 ∉ A:=λp hp z=>S.dis _ z (zah.mpr ⟨p,hp,rfl⟩)
 refine ⟨⟨λb u h=>?_,λp hp=>?_,λp hp=>?_,λp hp=>?_,?_,λi r e=>?_,?_⟩,?_,S.hv,ft⟩
 ·refine (g.keep b u (S.Q.same b u h) λz=>?_).1
  rw [S.frA b z] at h
  cases h
 ·rcases zas.mp hp with hp | hp
  ·exact S.Q.fresh p (List.mem_append_left _ hp)
  ·obtain ⟨a,ha,rfl⟩:=zah.mp hp
   rcases fr a ha with h | h
   ·exact S.frA a h
   ·exact S.Q.same.free h
 ·rcases zas.mp hp with hp | hp
  ·obtain ⟨u,e⟩:=S.Q.trk p (List.mem_append_left _ hp)
   exact ⟨u,(g.keep _ _ e (ko p hp)).1⟩
  ·obtain ⟨a,ha,rfl⟩:=zah.mp hp
   obtain ⟨u,hu,_⟩:=Ft.dom _ _ _ ft a ha
   exact ⟨u,hu⟩
 ·rcases zas.mp hp with hp | hp
  ·obtain ⟨u,e⟩:=S.Q.trk p (List.mem_append_left _ hp)
   obtain ⟨m1,m2⟩:=S.Q.mtb p (List.mem_append_left _ hp)
   have e':=(g.keep _ _ e (ko p hp)).1
   refine ⟨λxs z=>?_,λob w z=>?_⟩
   ·rw [e'] at z; rw [<- e] at z; exact m1 xs z
   ·rw [e'] at z; rw [<- e] at z; exact m2 ob w z
  ·obtain ⟨a,ha,rfl⟩:=zah.mp hp
   obtain ⟨u,hu,n1,n2⟩:=Ft.dom _ _ _ ft a ha
   refine ⟨λxs z=>?_,λob w z=>?_⟩
   ·rw [hu] at z; cases z; exact n1 _ rfl
   ·rw [hu] at z; cases z; exact n2 _ _ rfl
 ·rw [wa,List.nodup_append]
  refine ⟨S.R.nda,nd,λa ha b hb e=>?_⟩
  subst e
  rcases fr a hb with h | h
  ·exact S.dis a h ha
  ·exact S.R.ofree h ha
 ·rw [bf] at e
  obtain ⟨hi,_⟩:=qu e
  obtain ⟨w,ew,q⟩:=S.Q.slots i r e
  refine ⟨w,ew,?_⟩
  rcases q with ⟨k,q⟩ | ⟨k,a,e1,m,c⟩
  ·exact .inl ⟨k,Rep.grow gO _ _ q⟩
  ·have m':=Fo m hi
   exact .inr ⟨k,a,e1,List.mem_append_left _ m',c.grow (λu h=>(g.keep _ _ h (ko _ m')).1) gO⟩
 ·rw [bf]; exact S.Q.len
 ·rw [xb,List.getElem?_set_self hl]
def REnv.putX (R:REnv K H₀ H σ ρ o) (s:Same H H') (i:Nat) {r:EV} {v:V} (h:RV K H H' (o.map Prod.snd) r v) (hk:r.k ≠ .own) :
  ∃ pre,REnv K H₀ H' (σ.set i (some v)) (setS ρ i r.sto) (pre ++ o):=by
 obtain ⟨k,d⟩:=r
 cases k with
 | val=>exact ⟨[],(R.to s).setV i h⟩
 | own=>exact absurd rfl hk
 | fre =>
  obtain ⟨a,rfl,m,n,c⟩:=h
  exact ⟨[(i,a)],(R.setO s i m c).1⟩
 | new=>exact ⟨[],(R.to s).setV i (RepN.rep (λa z=>z.1) _ _ h)⟩
def ST.set (S:ST K H₀ H σ ρ o l A d v) (s:Same H H') {j:Nat} {r:EV} {w:V} (hj:j ≠ l) (h:RV K H H' ((o ++ tg l A).map Prod.snd) r w) (hk:r.k ≠ .own) :
  ∃ o',ST K H₀ H' (σ.set j (some w)) (setS ρ j r.sto) o' l A d v:=by
 obtain ⟨pre,R'⟩:=S.Q.putX s j h hk
 refine ⟨pre ++ o,⟨?_,?_,?_,(S.to s).ft⟩⟩
 ·rw [t4 _ _ hj,List.append_assoc]; exact R'
 ·rw [xb,List.getElem?_set_ne hj]; exact S.hd
 ·rw [List.getElem?_set_ne hj]; exact S.hv
def ST.setP (S:ST K H₀ H σ ρ o l A d v) {j:Nat} {e:D} {w:V} (hj:j ≠ l) (pe:zk e) (h:Rep K H [] e w):ST K H₀ H (σ.set j (some w)) (setS ρ j (dv e)) o l A d v:=by
 refine ⟨?_,?_,?_,S.ft⟩
 ·rw [t4 _ _ hj]; exact S.Q.setV j (Rep.pure _ _ pe h)
 ·rw [xb,List.getElem?_set_ne hj]; exact S.hd
 ·rw [List.getElem?_set_ne hj]; exact S.hv
end
abbrev TQ:=DE->(D->DE->Prop)->Prop
abbrev TQs:=DE->(List D->DE->Prop)->Prop
abbrev TQb:=DE->(Bool->DE->Prop)->Prop
structure QZ where
 nx:DE->Prop
 rt:D->DE->Prop
 bk:DE->Prop:=λ_=>False
 ct:DE->Prop:=λ_=>False
abbrev TQS:=DE->QZ->Prop
def Fs (K:W.Frag) (H₀:Hp) (l:Nat) (t:TQ):TE:=λσ H Q=>∃ ρ o A d v,ST K H₀ H σ ρ o l A d v /\ ∃ φ,t ρ φ /\ ∀ u e ρ' H' A' d',Grow A A' H H'->ST K H₀ H' σ ρ' o l A' d' v->zk e->Rep K H' [] e u->φ e ρ'->Q u H'
def Fp (K:W.Frag) (H₀:Hp) (l:Nat) (t:TQb):TT:=λσ H Q=>∃ ρ o A d v,ST K H₀ H σ ρ o l A d v /\ ∃ φ,t ρ φ /\ ∀ b ρ' H' A' d',Grow A A' H H'->ST K H₀ H' σ ρ' o l A' d' v->φ b ρ'->Q b H'
def M9 (K:W.Frag) (H₀:Hp) (l:Nat) (t:TQs):TA:=λσ H Q=>∃ ρ o A d v,ST K H₀ H σ ρ o l A d v /\ ∃ φ,t ρ φ /\ ∀ us es ρ' H' A' d',Grow A A' H H'->ST K H₀ H' σ ρ' o l A' d' v->Reps K H' (o.map Prod.snd ++ A') es us->φ es ρ'->Q us H'
def Sv (K:W.Frag) (H₀:Hp) (l:Nat) (t:TQS):TS:=λDz σ H=>∃ ρ o A d v,ST K H₀ H σ ρ o l A d v /\ ∃ Z,t ρ Z /\
 (∀ ρ' σ' H' o' A' d',ST K H₀ H' σ' ρ' o' l A' d' v->Z.nx ρ'->Dz.nx σ' H') /\
 (∀ ρ' σ' H' o' A' d',ST K H₀ H' σ' ρ' o' l A' d' v->Z.bk ρ'->Dz.bk σ' H') /\
 (∀ ρ' σ' H' o' A' d',ST K H₀ H' σ' ρ' o' l A' d' v->Z.ct ρ'->Dz.ct σ' H') /\
 (∀ u e ρ' σ' H' o' A' d',ST K H₀ H' σ' ρ' o' l A' d' v->zk e->Rep K H' [] e u->Z.rt e ρ'->Dz.rt u H')
def EQ (G:Hp->Prop) (l:Nat) (X:Cx) (e:Expr) (t:TQ):Prop:=∀ H₀:{H:Hp // G H},PE X e (Fs X.K H₀.1 l t)
def QT (G:Hp->Prop) (l:Nat) (X:Cx) (e:Expr) (t:TQb):Prop:=∀ H₀:{H:Hp // G H},PT X e (Fp X.K H₀.1 l t)
def QA (G:Hp->Prop) (l:Nat) (X:Cx) (es:List Expr) (t:TQs):Prop:=∀ H₀:{H:Hp // G H},PA X es (M9 X.K H₀.1 l t)
def QS (G:Hp->Prop) (l:Nat) (X:Cx) (st:Stmt) (t:TQS):Prop:=∀ H₀:{H:Hp // G H},PS X st (Sv X.K H₀.1 l t)
def QSs (G:Hp->Prop) (l:Nat) (X:Cx) (st:List Stmt) (t:TQS):Prop:=∀ H₀:{H:Hp // G H},PSs X st (Sv X.K H₀.1 l t)
def w8:∀ {ρ:DE} {i:Nat} {r:EV},ρ[i]?=some (some r)->slot ρ i=some r
 | [],_,_,h=>by cases h
 | _ :: _,0,_,h=>Option.some.inj h
 | _ :: ρ,i + 1,r,h=>w8 (ρ:=ρ) (i:=i) (by simpa using h)
variable {l:Nat}
def qE (te:TD):TQ:=λρ φ=>te ρ λr=>zk r.d /\ φ r.d ρ
def W3 {te:TD} (h:ED Γ X e te):EQ Γ l X e (qE te):=λH₀=>impE (h H₀) λσ H Q q=>by
 obtain ⟨ρ,o,A,d,v,S,φ,hφ,k⟩:=q
 exact ⟨ρ,o,S.R,_,hφ,λu r H1 s1 rv h1=>k u r.d ρ H1 A d (Grow.same s1) (S.to s1) h1.1 rv.view.rep0 h1.2⟩
def qT (tc:TDb):TQb:=λρ φ=>tc ρ λb=>φ b ρ
def vn {tc:TDb} (h:ET Γ X e tc):QT Γ l X e (qT tc):=λH₀=>impT (h H₀) λσ H Q q=>by
 obtain ⟨ρ,o,A,d,v,S,φ,hφ,k⟩:=q
 exact ⟨ρ,o,S.R,_,hφ,λb H1 s1 h1=>k b ρ H1 A d (Grow.same s1) (S.to s1) h1⟩
def qB (te:TQ):TQb:=λρ φ=>te ρ λd ρ1=>match d with
 | .bl b=>φ b ρ1
 | _=>False
def Zj {te:TQ} (h:EQ Γ l X e te) (he:∀ whole,isTrue e X.env whole=(do let v <- whole; standAt e.pos; holding [v] (truthy v)):=by intro _; rfl):QT Γ l X e (qB te):=λH₀=>impT (Gm (h H₀) he) λσ H Q q=>by
 obtain ⟨ρ,o,A,d,v,S,φ,hφ,k⟩:=q
 refine ⟨ρ,o,A,d,v,S,_,hφ,λu r ρ1 H1 A1 d1 g S1 pr rr h1=>?_⟩
 cases r with
 | bl b =>
  cases (show u=_ from rr)
  exact ⟨b,rfl,k b ρ1 H1 A1 d1 g S1 h1⟩
 | _=>exact h1.elim
def Grow.add {H H':Hp} {O A A':List Addr} (g:Grow A A' H H'):Grow (O ++ A) (O ++ A') H H' :=
 ⟨λb u h n=>⟨(g.keep b u h λz=>n (List.mem_append_right _ z)).1,λz=>(zas.mp z).elim (λz=>n (List.mem_append_left _ z)) (g.keep b u h λz=>n (List.mem_append_right _ z)).2⟩,g.tups,g.frzs⟩
def Lx:TQs:=λρ φ=>φ [] ρ
def xa:QA Γ l X [] Lx:=λH₀=>impA vi λσ H Q q=>by
 obtain ⟨ρ,o,A,d,v,S,φ,hφ,k⟩:=q
 exact k [] [] ρ H A d Grow.refl S rfl hφ
def Nv (te:TQ) (tr:TQs):TQs:=λρ φ=>te ρ λd ρ1=>tr ρ1 λds ρ2=>φ (d :: ds) ρ2
def ca {te:TQ} {tr:TQs} (he:EQ Γ l X e te) (hr:QA Γ l X es tr) (hs:starEach (e :: es) X.env=(false,eval e X.env) :: starEach es X.env:=by rfl):QA Γ l X (e :: es) (Nv te tr):=λH₀=>impA (yx (he H₀) (hr H₀) hs) λσ H Q q=>by
 obtain ⟨ρ,o,A,d,v,S,φ,hφ,k⟩:=q
 refine ⟨ρ,o,A,d,v,S,_,hφ,λu r ρ1 H1 A1 d1 g1 S1 pr rr h1=>⟨ρ1,o,A1,d1,v,S1,_,h1,λus rs ρ2 H2 A2 d2 g2 S2 rrs h2=>?_⟩⟩
 exact k (u :: us) (r :: rs) ρ2 H2 A2 d2 (g1.trans g2) S2 ⟨u,us,rfl,Rep.keep g2.gt _ _ pr rr,rrs⟩ h2
def Ts (te:TD) (tr:TQs):TQs:=λρ φ=>te (hid l ρ) λr=>(match r.k with | .own=>False | _=>True) /\ tr ρ λds ρ2=>φ (r.d :: ds) ρ2
def y4 {te:TD} {tr:TQs} (he:ED Γ X e te) (hr:QA Γ l X es tr) (hs:starEach (e :: es) X.env=(false,eval e X.env) :: starEach es X.env:=by rfl):QA Γ l X (e :: es) (Ts (l:=l) te tr):=λH₀=>impA (yx (he H₀) (hr H₀) hs) λσ H Q q=>by
 obtain ⟨ρ,o,A,d,v,S,φ,hφ,k⟩:=q
 refine ⟨hid l ρ,_,S.Q,_,hφ,λu r H1 s1 rv h1=>⟨ρ,o,A,d,v,S.to s1,_,h1.2,λus rs ρ2 H2 A2 d2 g2 S2 rrs h2=>?_⟩⟩
 have rr:=rv.solid (vv h1.1)
 rw [wa] at rr
 exact k (u :: us) (r.d :: rs) ρ2 H2 A2 d2 ((Grow.same s1).trans g2) S2 ⟨u,us,rfl,Rep.grow g2.add _ _ rr,rrs⟩ h2
section
variable {st:Stmt} {rest a b:List Stmt} {t u:TQS}
def qNil:TQS:=λρ Z=>Z.nx ρ
def qSeq (t u:TQS):TQS:=λρ Z=>t ρ { Z with nx:=λρ'=>u ρ' Z }
def qRet (te:TQ):TQS:=λρ Z=>te ρ Z.rt
def Gf (te:TQ):TQS:=λρ Z=>te ρ λ_ ρ1=>Z.nx ρ1
def qIf (tc:TQb) (t u:TQS):TQS:=λρ Z=>tc ρ λb ρ1=>(b=true->t ρ1 Z) /\ (b=false->u ρ1 Z)
def qSet (l j:Nat) (te:TD):TQS:=λρ Z=>te (hid l ρ) λr=>(match r.k with | .own=>False | _=>True) /\ Z.nx (setS ρ j r.sto)
def Gc (j:Nat) (te:TQ):TQS:=λρ Z=>te ρ λd ρ1=>Z.nx (setS ρ1 j (dv d))
def fj:QSs Γ l X [] qNil:=λH₀=>jk j9 λDz σ H h=>by
 obtain ⟨ρ,o,A,d,v,S,Z,hZ,k1,k2,k3,k4⟩:=h
 exact k1 ρ σ H o A d S hZ
def y8 (h:QS Γ l X st t):QSs Γ l X [st] t:=λH₀=>qk (h H₀)
def yh (h:QS Γ l X st t) (hr:QSs Γ l X rest u):QSs Γ l X (st :: rest) (qSeq t u):=λH₀=>jk (xu (h H₀) (hr H₀)) λDz σ H h=>by
 obtain ⟨ρ,o,A,d,v,S,Z,hZ,k1,k2,k3,k4⟩:=h
 exact ⟨ρ,o,A,d,v,S,_,hZ,λρ' σ' H' o' A' d' S' h'=>⟨ρ',o',A',d',v,S',Z,h',k1,k2,k3,k4⟩,k2,k3,k4⟩
def Ws {te:TQ} (h:EQ Γ l X e te):QS Γ l X (.Return (some e) pos) (qRet te):=λH₀=>impS (Zm (h H₀)) λDz σ H h=>by
 obtain ⟨ρ,o,A,d,v,S,Z,hZ,k1,k2,k3,k4⟩:=h
 exact ⟨ρ,o,A,d,v,S,_,hZ,λu r ρ1 H1 A1 d1 g S1 pr rr h1=>k4 u r ρ1 σ H1 o A1 d1 S1 pr rr h1⟩
def xw {te:TQ} (h:EQ Γ l X e te) (hs:swapsWith e none pos.line X.env=pure false:=by rfl):QS Γ l X (.Expr e pos) (Gf te):=λH₀=>impS (ww (h H₀) hs) λDz σ H h=>by
 obtain ⟨ρ,o,A,d,v,S,Z,hZ,k1,k2,k3,k4⟩:=h
 exact ⟨ρ,o,A,d,v,S,_,hZ,λu r ρ1 H1 A1 d1 g S1 pr rr h1=>k1 ρ1 σ H1 o A1 d1 S1 h1⟩
def va {tc:TQb} (hc:QT Γ l X c tc) (ha:QSs Γ l X a t) (hb:QSs Γ l X b u):QS Γ l X (.If c a b pos) (qIf tc t u):=λH₀=>impS (Tx (hc H₀) (ha H₀) (hb H₀)) λDz σ H h=>by
 obtain ⟨ρ,o,A,d,v,S,Z,hZ,k1,k2,k3,k4⟩:=h
 refine ⟨ρ,o,A,d,v,S,_,hZ,λb ρ1 H1 A1 d1 g S1 h1=>?_⟩
 cases b with
 | true=>rw [if_pos rfl]; exact ⟨ρ1,o,A1,d1,v,S1,Z,h1.1 rfl,k1,k2,k3,k4⟩
 | false=>rw [if_neg (by decide)]; exact ⟨ρ1,o,A1,d1,v,S1,Z,h1.2 rfl,k1,k2,k3,k4⟩
def Tq (j:Nat) {x:Str} {pos':Pos} {te:TD} (hj:j ≠ l) (hN:X.N.Nodup) (he:ED Γ X e te) (hi:X.N[j]?=some x:=by rfl) (hx:Loc X.env.scope x:=by first | exact Or.inl rfl | exact Or.inr rfl) (hs:swapsWith e (some (.Name x pos')) pos.line X.env=pure false:=by rfl)
  (hf:X.fn x=true \/ X.env.scope.names.lookup x=some .local:=by first | exact .inl rfl | exact .inr rfl | assumption):QS Γ l X (.Assign [.Name x pos'] e pos) (qSet l j te):=λH₀=>impS (su hN hi hx (he H₀) hs hf) λDz σ H h=>by
 obtain ⟨ρ,o,A,d,v,S,Z,hZ,k1,k2,k3,k4⟩:=h
 refine ⟨hid l ρ,_,S.Q,_,hZ,λw r H1 s1 rv h1=>?_⟩
 obtain ⟨o',S'⟩:=S.set s1 hj rv (vv h1.1)
 exact k1 _ _ H1 o' A d S' h1.2
def qj (j:Nat) {x:Str} {pos':Pos} {te:TQ} (hj:j ≠ l) (hN:X.N.Nodup) (he:EQ Γ l X e te) (hi:X.N[j]?=some x:=by rfl) (hx:Loc X.env.scope x:=by first | exact Or.inl rfl | exact Or.inr rfl) (hs:swapsWith e (some (.Name x pos')) pos.line X.env=pure false:=by rfl)
  (hf:X.fn x=true \/ X.env.scope.names.lookup x=some .local:=by first | exact .inl rfl | exact .inr rfl | assumption):QS Γ l X (.Assign [.Name x pos'] e pos) (Gc j te):=λH₀=>impS (su hN hi hx (he H₀) hs hf) λDz σ H h=>by
 obtain ⟨ρ,o,A,d,v,S,Z,hZ,k1,k2,k3,k4⟩:=h
 refine ⟨ρ,o,A,d,v,S,_,hZ,λw r ρ1 H1 A1 d1 g S1 pr rr h1=>?_⟩
 exact k1 _ _ H1 o A1 d1 (S1.setP hj pr rr) h1
end
abbrev FTQ:=D->List D->(D->D->Prop)->Prop
def spQ (K:W.Frag) (n:Nat) (T:FTQ):Sp:=λvs H Q _=>∃ d ds v ws A φ,vs=v :: ws /\ ds.length + 1=n /\ Ft K H d v A /\ A.Nodup /\ Reps K H A ds ws /\ T d ds φ /\
 ∀ u r d' H' A',Grow A A' H H'->Ft K H' d' v A'->A'.Nodup->(∀ a ∈ A',a ∈ A \/ H a=none)->zk r->Rep K H' [] r u->φ r d'->Q u H'
def wl (A:List Addr) (H:Hp):Hp:=λb=>if b ∈ A then none else H b
def vq {A:List Addr} {H:Hp} {b:Addr} (h:b ∈ A):wl A H b=none:=if_pos h
def xo {A:List Addr} {H:Hp} {b:Addr} (h:b ∉ A):wl A H b=H b:=if_neg h
def uh (A:List Addr) (H:Hp):Same (wl A H) H:=λb u h=>by
 by_cases hb:b ∈ A
 ·rw [vq hb] at h; cases h
 ·rw [xo hb] at h; exact h
section
def Qo {a:Addr} {xs ys:List V} (h:H a=some (.lst xs)):Grow [a] [a] H (upd H a (.lst ys)) :=
 ⟨λb u hb n=>⟨by rw [y7 (λz=>n (by rw [z]; exact zao))]; exact hb,n⟩,λb zs hb=>by rw [y7 (λz=>by rw [z,h] at hb; cases hb)]; exact hb,λb ob u hb=>by rw [y7 (λz=>by rw [z,h] at hb; cases hb)]; exact hb⟩
end
def Fq (K:W.Frag) (H₀:Hp) (l:Nat) (t:TQs):TE:=λσ H Q=>∃ ρ o A d v,ST K H₀ H σ ρ o l A d v /\ ∃ φ,t ρ φ /\
 ∀ a xs es ρ' H' A' d',Grow A A' H H'->ST K H₀ H' σ ρ' o l A' d' v->H' a=some (.lst xs)->a ∉ A'->a ∉ o.map Prod.snd->zn es->Reps K H' [] es xs->φ es ρ'->Q (.ref a) H'
def QL (G:Hp->Prop) (l:Nat) (X:Cx) (e:Expr) (t:TQs):Prop:=∀ H₀:{H:Hp // G H},PE X e (Fq X.K H₀.1 l t)
variable {st:Stmt} {t u:TQS}
def qCut (t:TQS):TQS:=λρ Z=>∃ J:DE->Prop,t ρ { Z with nx:=J } /\ ∀ ρ',J ρ'->Z.nx ρ'
def xq (h:QS Γ l X st t):QS Γ l X st (qCut t):=λH₀=>impS (h H₀) λDz σ H h=>by
 obtain ⟨ρ,o,A,d,v,S,Z,⟨J,hZ,hJ⟩,k1,k2,k3,k4⟩:=h
 exact ⟨ρ,o,A,d,v,S,_,hZ,λρ2 σ2 H2 o2 A2 d2 S2 q2=>k1 ρ2 σ2 H2 o2 A2 d2 S2 (hJ ρ2 q2),k2,k3,k4⟩
def yj {ρ:DE} {Z:QZ} (J:DE->Prop) (h1:t ρ { Z with nx:=J }) (h2:∀ ρ2,J ρ2->u ρ2 Z):qSeq (qCut t) u ρ Z:=⟨J,h1,h2⟩
def Fts.length:∀ {ds:List D} {xs:List V} {A:List Addr},Fts K H ds xs A->xs.length=ds.length
 | [],_,_,h=>by rw [h.1]; rfl
 | d :: ds,xs,A,h=>by
  obtain ⟨v,r,B,C,rfl,_,_,t⟩:=h
  simp [Fts.length t]
def Fts.foc:∀ {ds:List D} {xs:List V} {A:List Addr} {i:Nat} {d:D},Fts K H ds xs A->ds[i]?=some d->∃ w A1 B C,xs[i]?=some w /\ A=B ++ A1 ++ C /\ Ft K H d w A1 /\
  ∀ H' e A1',Gt H H'->(∀ a ∈ B ++ C,∀ u,H a=some u->H' a=some u)->Ft K H' e w A1'->Fts K H' (ds.set i e) xs (B ++ A1' ++ C)
 | [],_,_,_,_,_,e=>by simp at e
 | d0 :: ds,xs,A,0,d,h,e=>by
  obtain ⟨v,r,B,C,rfl,rfl,q,t⟩:=h
  cases (show d0=d from by simpa using e)
  refine ⟨v,B,[],C,rfl,rfl,q,λH' e A1' g k f=>⟨v,r,A1',C,rfl,rfl,f,Fts.keep g _ _ _ (λa ha=>k a ha) t⟩⟩
 | d0 :: ds,xs,A,i + 1,d,h,e=>by
  obtain ⟨v,r,B,C,rfl,rfl,q,t⟩:=h
  obtain ⟨w,A1,B',C',ew,rfl,f,k⟩:=Fts.foc (i:=i) t (by simpa using e)
  refine ⟨w,A1,B ++ B',C',by simpa using ew,by simp,f,λH' e A1' g kk f'=>⟨v,r,B,B' ++ A1' ++ C',rfl,by simp,Ft.keep g _ _ _ (λa ha=>kk a (by simp [ha])) q,k H' e A1' g (λa ha=>kk a (by simp at ha ⊢; rcases ha with ha | ha <;> simp [ha])) f'⟩⟩
def Fts.put:∀ {ds:List D} {xs:List V} {A:List Addr} (i:Nat) {e:D} {u:V},Fts K H ds xs A->Ft K H e u []->∃ A',A'.Sublist A /\ Fts K H (ds.set i e) (xs.set i u) A'
 | [],_,_,_,_,_,h,_=>⟨_,List.Sublist.refl _,by obtain ⟨rfl,rfl⟩:=h; exact ⟨rfl,rfl⟩⟩
 | d :: ds,xs,A,0,e,u,h,f=>by
  obtain ⟨v,r,B,C,rfl,rfl,q,t⟩:=h
  exact ⟨C,List.sublist_append_right _ _,u,r,[],C,rfl,rfl,f,t⟩
 | d :: ds,xs,A,i + 1,e,u,h,f=>by
  obtain ⟨v,r,B,C,rfl,rfl,q,t⟩:=h
  obtain ⟨C',s,t'⟩:=Fts.put i t f
  exact ⟨B ++ C',List.Sublist.append (List.Sublist.refl _) s,v,_,B,C',rfl,rfl,q,t'⟩
def Fts.app:∀ {ds es:List D} {xs ys:List V} {A B:List Addr},Fts K H ds xs A->Fts K H es ys B->Fts K H (ds ++ es) (xs ++ ys) (A ++ B)
 | [],_,_,_,_,_,h,f=>by obtain ⟨rfl,rfl⟩:=h; exact f
 | d :: ds,es,xs,ys,A,B',h,f=>by
  obtain ⟨v,r,B,C,rfl,rfl,q,t⟩:=h
  exact ⟨v,r ++ ys,B,C ++ B',rfl,by simp,q,Fts.app t f⟩
mutual
def Ft.repN {P:Addr->Prop}:∀ (d:D) (v:V) (A:List Addr),(∀ a ∈ A,P a)->Ft K H d v A->RepN K H P d v
 | .lst ds,v,A,k,h=>by
  obtain ⟨a,xs,B,e,q,rfl,r⟩:=h
  exact ⟨a,xs,e,q,k a zao,Fts.repNs ds xs B (λb hb=>k b (zal _ hb)) r⟩
 | .dk ks ds,v,A,k,h=>by
  obtain ⟨a,xs,B,e,q,l,n,rfl,r⟩:=h
  exact ⟨a,xs,e,q,k a zao,l,n,Fts.repNs ds xs B (λb hb=>k b (zal _ hb)) r⟩
 | .tup ds,v,A,k,h=>by
  obtain ⟨a,xs,e,q,r⟩:=h
  exact ⟨a,xs,e,q,Fts.repNs ds xs A k r⟩
 | .non,_,_,_,h=>h.2
 | .bl _,_,_,_,h=>h.2
 | .int _,_,_,_,h=>h.2
 | .str _,_,_,_,h=>h.2
 | .ty _,_,_,_,h=>h.2
 | .scr ns,v,A,_,h=>h.2
 | .ob C ns ds,v,A,k,h=>by
  obtain ⟨a,dx,xs,B,e,q,l,n,rfl,r⟩:=h
  exact ⟨a,dx,xs,e,q,k a zao,l,n,Fts.repNs ds xs B (λb hb=>k b (zal _ hb)) r⟩
def Fts.repNs {P:Addr->Prop}:∀ (ds:List D) (xs:List V) (A:List Addr),(∀ a ∈ A,P a)->Fts K H ds xs A->xn K H P ds xs
 | [],_,_,_,h=>h.1
 | d :: ds,xs,A,k,h=>by
  obtain ⟨v,r,B,C,e,rfl,q,t⟩:=h
  exact ⟨v,r,e,Ft.repN d v B (λb hb=>k b (List.mem_append_left _ hb)) q,Fts.repNs ds r C (λb hb=>k b (List.mem_append_right _ hb)) t⟩
end
section
variable {o:List (Nat × Addr)} {A:List Addr} {d:D}
def ST.letgo (S:ST K H₀ H σ ρ o l A d v) {i:Nat} (hi:i ≠ l) (w:V):ST K H₀ H (σ.set i (some w)) (hid i ρ) o l A d v:=by
 refine ⟨⟨S.Q.same,S.Q.fresh,S.Q.trk,S.Q.mtb,S.Q.nda,λj r e=>?_,?_⟩,?_,?_,S.ft⟩
 ·obtain ⟨hj,e⟩:=qu e
  obtain ⟨hj2,e⟩:=qu e
  obtain ⟨u,eu,q⟩:=S.Q.slots j r (by rw [R7 hj]; exact e)
  exact ⟨u,by rw [List.getElem?_set_ne (Ne.symm hj2)]; exact eu,q⟩
 ·rw [List.length_set,S.Q.len]
  simp only [ue,List.length_set]
 ·rw [R7 (Ne.symm hi)]; exact S.hd
 ·rw [List.getElem?_set_ne hi]; exact S.hv
end
abbrev TP1:=DE->(List Nat->Prop)->Prop
variable {te:TD}
def Kh:TP1:=λ_ φ=>φ []
abbrev TF:=DE->(D->Prop)->Prop
abbrev TFs:=DE->(List D->Prop)->Prop
def Dl (K:W.Frag) (H₀:Hp) (l:Nat) (t:TF):TE:=λσ H Q=>∃ ρ o A d v,ST K H₀ H σ ρ o l A d v /\ ∃ φ,t ρ φ /\ ∀ u e B H',Same H H'->Ft K H' e u B->B.Nodup->(∀ b ∈ B,H b=none)->φ e->Q u H'
def Fv (K:W.Frag) (H₀:Hp) (l:Nat) (t:TFs):TA:=λσ H Q=>∃ ρ o A d v,ST K H₀ H σ ρ o l A d v /\ ∃ φ,t ρ φ /\ ∀ us es B H',Same H H'->Fts K H' es us B->B.Nodup->(∀ b ∈ B,H b=none)->φ es->Q us H'
def EF (G:Hp->Prop) (l:Nat) (X:Cx) (e:Expr) (t:TF):Prop:=∀ H₀:{H:Hp // G H},PE X e (Dl X.K H₀.1 l t)
def EFs (G:Hp->Prop) (l:Nat) (X:Cx) (es:List Expr) (t:TFs):Prop:=∀ H₀:{H:Hp // G H},PA X es (Fv X.K H₀.1 l t)
def frs1:EV->Prop
 | ⟨.fre,.lst ds⟩=>zn ds
 | ⟨.new,.lst ds⟩=>zn ds
 | ⟨_,d⟩=>zk d
def Ee {K:W.Frag} {H H':Hp} {O:List Addr} {r:EV} {v:V} (h:RV K H H' O r v) (p:frs1 r):∃ B,Ft K H' r.d v B /\ B.Nodup /\ ∀ b ∈ B,H b=none:=by
 have gen:zk r.d->∃ B,Ft K H' r.d v B /\ B.Nodup /\ ∀ b ∈ B,H b=none:=λpd=>⟨[],Rep.ft _ _ pd h.view.rep0,List.nodup_nil,λb hb=>by cases hb⟩
 obtain ⟨k,d⟩:=r
 unfold frs1 at p
 split at p
 ·rename_i ds eq
  cases eq
  obtain ⟨a,rfl,m,n,xs,hx,rr⟩:=h
  exact ⟨[a],⟨a,xs,[],rfl,hx,rfl,Reps.fts _ _ p rr⟩,by simp,λb hb=>by rw [List.mem_singleton.mp hb]; exact m⟩
 ·rename_i ds eq
  cases eq
  obtain ⟨a,xs,rfl,hx,pa,rr⟩:=h
  exact ⟨[a],⟨a,xs,[],rfl,hx,rfl,Reps.fts (O:=[]) _ _ p (xn.reps (λ_ _ z=>by cases z) _ _ rr)⟩,by simp,λb hb=>by rw [List.mem_singleton.mp hb]; exact pa.2⟩
 ·rename_i k' d' _ _ eq
  cases eq
  exact gen p
def fNil:TFs:=λ_ φ=>φ []
def Jg:EFs Γ l X [] fNil:=λH₀=>impA vi λσ H Q q=>by
 obtain ⟨ρ,o,A,d,v,S,φ,hφ,k⟩:=q
 exact k [] [] [] H (Same.refl H) ⟨rfl,rfl⟩ List.nodup_nil (λb hb=>by cases hb) hφ
def Je (te:TF) (tr:TFs):TFs:=λρ φ=>te ρ λd=>tr ρ λds=>φ (d :: ds)
def Vi {te:TF} {tr:TFs} (he:EF Γ l X e te) (hr:EFs Γ l X es tr) (hs:starEach (e :: es) X.env=(false,eval e X.env) :: starEach es X.env:=by rfl):EFs Γ l X (e :: es) (Je te tr):=λH₀=>impA (yx (he H₀) (hr H₀) hs) λσ H Q q=>by
 obtain ⟨ρ,o,A,d,v,S,φ,hφ,k⟩:=q
 refine ⟨ρ,o,A,d,v,S,_,hφ,λu e1 B1 H1 s1 f1 n1 fr1 h1=>⟨ρ,o,A,d,v,S.to s1,_,h1,λus es1 B2 H2 s2 f2 n2 fr2 h2=>?_⟩⟩
 have f1':Ft X.K H2 e1 u B1:=Ft.keep (Gt.same s2) _ _ _ (λa _ x hx=>s2 _ _ hx) f1
 refine k (u :: us) (e1 :: es1) (B1 ++ B2) H2 (s1.trans s2) ⟨u,us,B1,B2,rfl,rfl,f1',f2⟩ ?_ (λb hb=>?_) h2
 ·rw [List.nodup_append]
  refine ⟨n1,n2,λa ha b hb e=>?_⟩
  subst e
  obtain ⟨x,hx,_⟩:=Ft.dom _ _ _ f1 a ha
  rw [fr2 a hb] at hx
  cases hx
 ·rcases zas.mp hb with hb | hb
  ·exact fr1 b hb
  ·exact s1.free (fr2 b hb)
def V4 (K:W.Frag) (H₀:Hp) (l:Nat) (t:TQS):TS:=λDz σ H=>∃ ρ o A d v,ST K H₀ H σ ρ o l A d v /\ ∃ Z,t ρ Z /\
 (∀ ρ' σ' H' o' A' d',ST K H₀ H' σ' ρ' o' l A' d' v->Z.nx ρ'->Dz.nx σ' H') /\
 (∀ u e ρ' H',Same H₀ H'->RepN K H' (λa=>H₀ a=none) e u->Z.rt e ρ'->Dz.rt u H')
def RS (G:Hp->Prop) (l:Nat) (X:Cx) (st:Stmt) (t:TQS):Prop:=∀ H₀:{H:Hp // G H},PS X st (V4 X.K H₀.1 l t)
def RSs (G:Hp->Prop) (l:Nat) (X:Cx) (st:List Stmt) (t:TQS):Prop:=∀ H₀:{H:Hp // G H},PSs X st (V4 X.K H₀.1 l t)
section
variable {rest a b:List Stmt}
def Hw:RSs Γ l X [] qNil:=λH₀=>jk j9 λDz σ H h=>by
 obtain ⟨ρ,o,A,d,v,S,Z,hZ,k1,k2⟩:=h
 exact k1 _ _ _ _ _ _ S hZ
def Nt (h:RS Γ l X st t):RSs Γ l X [st] t:=λH₀=>qk (h H₀)
def Lq (h:RS Γ l X st t) (hr:RSs Γ l X rest u):RSs Γ l X (st :: rest) (qSeq t u):=λH₀=>jk (xu (h H₀) (hr H₀)) λDz σ H h=>by
 obtain ⟨ρ,o,A,d,v,S,Z,hZ,k1,k2⟩:=h
 exact ⟨ρ,o,A,d,v,S,_,hZ,λρ' σ' H' o' A' d' S' h'=>⟨ρ',o',A',d',v,S',Z,h',k1,k2⟩,k2⟩
def D5 {tc:TQb} (hc:QT Γ l X c tc) (ha:RSs Γ l X a t) (hb:RSs Γ l X b u):RS Γ l X (.If c a b pos) (qIf tc t u):=λH₀=>impS (Tx (hc H₀) (ha H₀) (hb H₀)) λDz σ H h=>by
 obtain ⟨ρ,o,A,d,v,S,Z,hZ,k1,k2⟩:=h
 refine ⟨ρ,o,A,d,v,S,_,hZ,λbb ρ1 H1 A1 d1 g S1 h1=>?_⟩
 cases bb
 ·exact ⟨ρ1,o,A1,d1,v,S1,Z,h1.2 rfl,k1,k2⟩
 ·exact ⟨ρ1,o,A1,d1,v,S1,Z,h1.1 rfl,k1,k2⟩
end
abbrev FTR:=D->List D->(D->Prop)->Prop
def spR (K:W.Frag) (n:Nat) (T:FTR):Sp:=λvs H Q _=>∃ d ds v ws A φ,vs=v :: ws /\ ds.length + 1=n /\ Ft K H d v A /\ A.Nodup /\ Reps K H A ds ws /\ T d ds φ /\
 ∀ u e H',(∀ b x,H b=some x->b ∉ A->H' b=some x)->RepN K H' (λa=>a ∈ A \/ H a=none) e u->φ e->Q u H'
structure FR (P:Program) (w:World) (K:W.Frag) (mg:Str->Option Value) (base:Heap) (k:Nat) (x:Str) (ps:List Str) (T:FTR):Prop where
 ex:∃ f fd,FnOk P w K mg base CX0 k f fd ps (spR K ps.length T) /\ Binds K fd ps [] /\ W.keepIn K (.ref f)=true /\ mg x=some (.ref f)
def Wi {N:List Str} {d:D} {ds:List D} {v:V} {ws:List V} {H:Hp} {Af:List Addr} (ft:Ft K H d v Af) (nd:Af.Nodup) (r:Reps K H Af ds ws):ST K (wl Af H) H (ZZ.start N (v :: ws)) (wc N.length (d :: ds)) [] 0 Af d v:=by
 have R0:=qi (N:=N) (ds:=d :: ds) (vs:=v :: ws) (H:=H) ⟨v,ws,rfl,Ft.rep _ _ _ (λa _ z=>by cases z) ft,Reps.sub (λa ha=>by cases ha) _ _ r⟩
 have s0:=uh Af H
 refine ⟨⟨s0,λp hp=>?_,λp hp=>?_,λp hp=>?_,?_,λi q e=>?_,?_⟩,rfl,rfl,ft⟩
 ·obtain ⟨a,ha,rfl⟩:=zah.mp (show p ∈ tg 0 Af from hp)
  exact vq ha
 ·obtain ⟨a,ha,rfl⟩:=zah.mp (show p ∈ tg 0 Af from hp)
  obtain ⟨u,hu,_⟩:=Ft.dom _ _ _ ft a ha
  exact ⟨u,hu⟩
 ·obtain ⟨a,ha,rfl⟩:=zah.mp (show p ∈ tg 0 Af from hp)
  obtain ⟨u,hu,n1,n2⟩:=Ft.dom _ _ _ ft a ha
  refine ⟨λxs z=>?_,λob w z=>?_⟩
  ·rw [hu] at z; cases z; exact n1 _ rfl
  ·rw [hu] at z; cases z; exact n2 _ _ rfl
 ·rw [wa]; exact nd
 ·obtain ⟨hi,e⟩:=qu e
  rw [wa]
  cases i with
  | zero=>exact absurd rfl hi
  | succ i =>
   have e':((ds.map λd=>some (dv d)) ++ List.replicate (N.length - (d :: ds).length) none)[i]?=some (some q):=e
   rcases Nat.lt_or_ge i ds.length with hi | hi
   ·rw [List.getElem?_append_left (by simpa using hi),zai] at e'
    have ed:ds[i]?=some ds[i]:=by simp [hi]
    rw [ed] at e'
    have e2:some (dv ds[i])=some q:=Option.some.inj e'
    cases e2
    obtain ⟨u,eu,ru⟩:=r.get ed
    refine ⟨u,?_,.inl ⟨rfl,ru⟩⟩
    unfold ZZ.start
    show ((ws.map some) ++ _)[i]?=_
    rw [List.getElem?_append_left (by rw [zLm,r.length]; exact hi),zai,eu]
    rfl
   ·rw [List.getElem?_append_right (by simpa using hi),List.getElem?_replicate] at e'
    split at e' <;> cases e'
 ·rw [ue,List.length_set]; exact R0.len
def Dr {x qual:Str} {st:Stmt} {f:Addr} {fd:FuncData} {N ps:List Str} {k:Nat} {T:FTR} (F:Fun K x qual st f fd) (S:zw N ps (ze st)) (b:Binds K fd ps []) (m:mg x=some (.ref f))
  (qY:∀ (qZ:Value) (A:Around) (outer:List Env) (s:Shared) (H:Hp) (E:XK) (d:D) (ds:List D) (φ:D->Prop),Room k (A.deeper (envOfC qual (ze st) s.heap.objs.size f qZ))->ds.length + 1=ps.length->T d ds φ ->
   ∃ t,RSs (λ_=>True) 0 (cxOf CX0 P w K mg base N qual (ze st) f qZ A outer s H E).nox (yq st) t /\ t (wc N.length (d :: ds)) { nx:=λ_=>False,rt:=λr _=>φ r }):FR P w K mg base (k + 1) x ps T:=by
 refine ⟨f,fd,F.ok S (λvs H Q E h=>?_) (λqZ A outer s H vs Q E hr h=>?_),b,F.kp,m⟩
 ·obtain ⟨d,ds,v,ws,A,φ,rfl,hl,_,_,r,_⟩:=h
  rw [zLc,r.length,hl]
 ·obtain ⟨d,ds,v,ws,Af,φ,rfl,hl,ft,nd,r,hT,kk⟩:=h
  obtain ⟨t,ht,hq⟩:=qY qZ A outer s H E d ds φ hr hl hT
  have S0:=Wi (N:=N) ft nd r
  refine ⟨V4 K (wl Af H) 0 t,ht ⟨wl Af H,trivial⟩,wc N.length (d :: ds),[],Af,d,v,S0,_,hq,λρ' σ' H' o' A' d2 S' h'=>h'.elim,λu e ρ' H' s' re h'=>?_⟩
  refine kk u e H' (λb x hb hn=>s' b x (by rw [xo hn]; exact hb)) (RepN.to (Same.refl _) (λa ha=>?_) _ _ re) h'
  by_cases hA:a ∈ Af
  ·exact .inl hA
  ·rw [xo hA] at ha
   exact .inr ha
def gn:bootBuiltins "reversed" = some (.type "reversed"):=by kernel_rfl
def fk:D->Option (List D)
 | .lst ds=>some ds
 | .tup ds=>some ds
 | .ob _ _ ds=>some ds
 | _=>none
def Ql:D->List D->D
 | .lst _,ds=>.lst ds
 | .tup _,ds=>.tup ds
 | .ob C ns _,ds=>.ob C ns ds
 | d,_=>d
def atQ:List Nat->D->Option D
 | [],d=>some d
 | i :: π,d=>match fk d with
  | some ds=>(match ds[i]? with
   | some x=>atQ π x
   | none=>none)
  | none=>none
def putQ:List Nat->D->D->D
 | [],_,e=>e
 | i :: π,d,e=>match fk d with
  | some ds=>(match ds[i]? with
   | some x=>Ql d (ds.set i (putQ π x e))
   | none=>d)
  | none=>d
def Kids (H:Hp) (a:Addr) (xs:List V):Prop:=H a=some (.lst xs) \/ H a=some (.tup xs) \/ ∃ C dx,∃ ns:List Str,H a=some (.ins C dx (ns.zip xs)) /\ ns.length=xs.length
def vd1 {α β:Type}:∀ {ns:List α} {xs:List β},ns.length=xs.length->(ns.zip xs).map Prod.snd=xs
 | [],[],_=>rfl
 | [],_ :: _,h=>by simp at h
 | _ :: _,[],h=>by simp at h
 | _ :: _,_ :: _,h=>by simp [vd1 (by simpa using h)]
def Kids.fn {H:Hp} {a:Addr} {xs ys:List V} (h:Kids H a xs) (h':Kids H a ys):xs=ys:=by
 rcases h with h | h | ⟨C,dx,ns,h,l⟩
 ·rcases h' with h' | h' | ⟨C',dx',ns',h',l'⟩
  ·rw [h] at h'; cases h'; rfl
  ·rw [h] at h'; cases h'
  ·rw [h] at h'; cases h'
 ·rcases h' with h' | h' | ⟨C',dx',ns',h',l'⟩
  ·rw [h] at h'; cases h'
  ·rw [h] at h'; cases h'; rfl
  ·rw [h] at h'; cases h'
 ·rcases h' with h' | h' | ⟨C',dx',ns',h',l'⟩
  ·rw [h] at h'; cases h'
  ·rw [h] at h'; cases h'
  ·rw [h] at h'
   injection h' with h'
   injection h' with _ _ e
   have:=congrArg (List.map Prod.snd) e
   rw [vd1 l,vd1 l'] at this
   exact this
def Kids.to {H H':Hp} {a:Addr} {xs:List V} (s:Same H H') (h:Kids H a xs):Kids H' a xs:=by
 rcases h with h | h | ⟨C,dx,ns,h,l⟩
 ·exact .inl (s _ _ h)
 ·exact .inr (.inl (s _ _ h))
 ·exact .inr (.inr ⟨C,dx,ns,s _ _ h,l⟩)
def valQ (H:Hp):List Nat->V->V->Prop
 | [],v,u=>u=v
 | i :: π,v,u=>∃ a xs w,v=.ref a /\ Kids H a xs /\ xs[i]?=some w /\ valQ H π w u
def valQ.fn {H:Hp}:∀ {π:List Nat} {v u u':V},valQ H π v u->valQ H π v u'->u=u'
 | [],_,_,_,h,h'=>h.trans h'.symm
 | i :: π,_,_,_,⟨a,xs,w,e,q,g,h⟩,⟨a',xs',w',e',q',g',h'⟩=>by
  rw [e] at e'
  cases e'
  cases q.fn q'
  rw [g] at g'
  cases g'
  exact h.fn h'
def valQ.to {H H':Hp} (s:Same H H'):∀ {π:List Nat} {v u:V},valQ H π v u->valQ H' π v u
 | [],_,_,h=>h
 | i :: π,_,_,⟨a,xs,w,e,q,g,h⟩=>⟨a,xs,w,e,q.to s,g,h.to s⟩
def valQ.snoc {H:Hp} {i:Nat} {a:Addr} {xs:List V} {w:V}:∀ {π:List Nat} {v:V},valQ H π v (.ref a)->Kids H a xs->xs[i]?=some w->valQ H (π ++ [i]) v w
 | [],v,h,q,g=>⟨a,xs,w,h.symm,q,g,rfl⟩
 | j :: π,v,⟨b,ys,z,e,q',g',h⟩,q,g=>⟨b,ys,z,e,q',g',h.snoc q g⟩
def Ft.parts {d:D} {v:V} {A:List Addr} {ds:List D} (h:Ft K H d v A) (p:fk d=some ds):∃ a xs T B,v=.ref a /\ Kids H a xs /\ A=T ++ B /\ Fts K H ds xs B /\
  ∀ H' ds' B',Gt H H'->(∀ b ∈ T,∀ u,H b=some u->H' b=some u)->ds'.length=ds.length->Fts K H' ds' xs B'->Ft K H' (Ql d ds') v (T ++ B'):=by
 cases d with
 | lst es =>
  cases p
  obtain ⟨a,xs,B,e,q,rfl,r⟩:=h
  exact ⟨a,xs,[a],B,e,.inl q,rfl,r,λH' ds' B' g k l f=>⟨a,xs,B',e,k a zao _ q,rfl,f⟩⟩
 | tup es =>
  cases p
  obtain ⟨a,xs,e,q,r⟩:=h
  exact ⟨a,xs,[],A,e,.inr (.inl q.2),rfl,r,λH' ds' B' g k l f=>⟨a,xs,e,T8 g q,f⟩⟩
 | ob C ns es =>
  cases p
  obtain ⟨a,dx,xs,B,e,q,l,n,rfl,r⟩:=h
  exact ⟨a,xs,[a],B,e,.inr (.inr ⟨C,dx,ns,q,by rw [l,r.length]⟩),rfl,r,λH' ds' B' g k l' f=>⟨a,dx,xs,B',e,k a zao _ q,by rw [l']; exact l,n,rfl,f⟩⟩
 | _=>cases p
def Ft.focQ:∀ {π:List Nat} {d:D} {v:V} {A:List Addr} {d1:D},Ft K H d v A->atQ π d=some d1->∃ u A1 B C,valQ H π v u /\ A=B ++ A1 ++ C /\ Ft K H d1 u A1 /\
  ∀ H' e A1',Gt H H'->(∀ a ∈ B ++ C,∀ u,H a=some u->H' a=some u)->Ft K H' e u A1'->Ft K H' (putQ π d e) v (B ++ A1' ++ C)
 | [],d,v,A,d1,h,e=>by
  cases (show d=d1 from Option.some.inj e)
  exact ⟨v,A,[],[],rfl,by simp,h,λH' e A1' _ _ f=>by simpa [putQ] using f⟩
 | i :: π,d,v,A,d1,h,e=>by
  have e:(match fk d with | some ds=>(match ds[i]? with | some x=>atQ π x | none=>none) | none=>none)=some d1:=e
  cases ep:fk d with
  | none=>rw [ep] at e; cases e
  | some ds =>
   rw [ep] at e
   have e:(match ds[i]? with | some x=>atQ π x | none=>none)=some d1:=e
   cases ed:ds[i]? with
   | none=>rw [ed] at e; cases e
   | some d2 =>
    rw [ed] at e
    obtain ⟨a,xs,T,AA,rfl,q,rfl,r,kk⟩:=h.parts ep
    obtain ⟨w,A1,B,C,ew,rfl,f,k⟩:=Fts.foc r ed
    obtain ⟨u,A2,B',C',hv,rfl,f2,k2⟩:=Ft.focQ (π:=π) f e
    refine ⟨u,A2,T ++ (B ++ B'),C' ++ C,⟨a,xs,w,rfl,q,ew,hv⟩,by simp,f2,λH' e' A1' g km f'=>?_⟩
    have h2:=k2 H' e' A1' g (λa ha=>km a (by simp at ha ⊢; rcases ha with ha | ha <;> simp [ha])) f'
    have h3:=k H' _ _ g (λa ha=>km a (by simp at ha ⊢; rcases ha with ha | ha <;> simp [ha])) h2
    show Ft K H' (match fk d with | some ds=>(match ds[i]? with | some x=>Ql d (ds.set i (putQ π x e')) | none=>d) | none=>d) _ _
    rw [ep]
    show Ft K H' (match ds[i]? with | some x=>Ql d (ds.set i (putQ π x e')) | none=>d) _ _
    rw [ed]
    have h4:=kk H' _ _ g (λb hb=>km b (by simp [hb])) (by rw [List.length_set]) h3
    simpa using h4
section
variable {o:List (Nat × Addr)} {A:List Addr} {d:D}
def ST.focQ (S:ST K H₀ H σ ρ o l A d v) {π:List Nat} {d1:D} (h:atQ π d=some d1):∃ u A1,valQ H π v u /\ Ft K H d1 u A1 /\ A1.Nodup /\ (∀ a ∈ A1,a ∈ A) /\ (∀ a ∈ A1,H a ≠ none) /\
  ∀ H' e A1',(∀ c x,H c=some x->c ∉ A1->H' c=some x)->Ft K H' e u A1'->A1'.Nodup->(∀ a ∈ A1',a ∈ A1 \/ H a=none)->∃ A',ST K H₀ H' σ (setS ρ l (dv (putQ π d e))) o l A' (putQ π d e) v /\ Grow A A' H H' /\ ∀ a ∈ A1,a ∉ A1'->a ∉ A':=by
 obtain ⟨u,A1,B,C,hv,hA,f,k⟩:=Ft.focQ S.ft h
 have nd:=S.ndA
 rw [hA] at nd
 have nd1:=List.nodup_append.mp nd
 have nd2:=List.nodup_append.mp nd1.1
 have dm:∀ a ∈ A,H a ≠ none:=λa ha e=>by
  obtain ⟨x,hx,_⟩:=Ft.dom _ _ _ S.ft a ha
  rw [e] at hx
  cases hx
 have mA:∀ a,a ∈ B \/ a ∈ A1 \/ a ∈ C ↔ a ∈ A:=λa=>by rw [hA]; simp [or_assoc]
 refine ⟨u,A1,hv,f,nd2.2.1,λa ha=>(mA a).mp (by simp [ha]),λa ha=>dm a ((mA a).mp (by simp [ha])),λH' e A1' kp f' nd' fr=>?_⟩
 have gt:Gt H H':=⟨λb xs hb=>kp b _ hb λz=>by
   obtain ⟨x,hx,n1,_⟩:=Ft.dom _ _ _ f b z
   rw [hb] at hx
   cases hx
   exact n1 _ rfl,λb ob w hb=>kp b _ hb λz=>by
   obtain ⟨x,hx,_,n2⟩:=Ft.dom _ _ _ f b z
   rw [hb] at hx
   cases hx
   exact n2 _ _ rfl⟩
 have nB:∀ a ∈ B ++ C,a ∉ A1:=λa ha z=>by
  rcases zas.mp ha with ha | ha
  ·exact nd2.2.2 a ha a z rfl
  ·exact nd1.2.2 a (List.mem_append_right _ z) a ha rfl
 have ftn:=k H' e A1' gt (λa ha x hx=>kp a x hx (nB a ha)) f'
 have mA':∀ a ∈ B ++ A1' ++ C,a ∈ A \/ H a=none:=λa ha=>by
  rw [zas,zas] at ha
  rcases ha with (ha | ha) | ha
  ·exact .inl ((mA a).mp (by simp [ha]))
  ·exact (fr a ha).imp (λz=>(mA a).mp (by simp [z])) id
  ·exact .inl ((mA a).mp (by simp [ha]))
 have ndn:(B ++ A1' ++ C).Nodup:=by
  rw [List.nodup_append,List.nodup_append]
  refine ⟨⟨nd2.1,nd',λx hx y hy e=>?_⟩,nd1.2.1,λx hx y hy e=>?_⟩
  ·subst e
   rcases fr x hy with z | z
   ·exact nd2.2.2 x hx x z rfl
   ·exact dm x ((mA x).mp (by simp [hx])) z
  ·subst e
   rcases zas.mp hx with hx | hx
   ·exact nd1.2.2 x (List.mem_append_left _ hx) x hy rfl
   ·rcases fr x hx with z | z
    ·exact nd1.2.2 x (List.mem_append_right _ z) x hy rfl
    ·exact dm x ((mA x).mp (by simp [hy])) z
 have gr:Grow A (B ++ A1' ++ C) H H':=⟨λc x hx hn=>⟨kp c x hx λz=>hn ((mA c).mp (by simp [z])),λz=>(mA' c z).elim hn λe=>by rw [hx] at e; cases e⟩,gt.tups,gt.frzs⟩
 refine ⟨_,S.chg gr ftn ndn mA',gr,λa ha na z=>?_⟩
 rw [zas,zas] at z
 rcases z with (z | z) | z
 ·exact nB a (by simp [z]) ha
 ·exact na z
 ·exact nB a (by simp [z]) ha
end
def Fu (K:W.Frag) (H₀:Hp) (l:Nat) (t:TP1):TE:=λσ H Q=>∃ ρ o A d v,ST K H₀ H σ ρ o l A d v /\ ∃ φ,t ρ φ /\ ∀ u π H',Same H H'->valQ H' π v u->φ π->Q u H'
def EPQ (G:Hp->Prop) (l:Nat) (X:Cx) (e:Expr) (t:TP1):Prop:=∀ H₀:{H:Hp // G H},PE X e (Fu X.K H₀.1 l t)
structure CO (K:W.Frag) (C:Addr) (ns:List Str):Prop where
 cl:Cls K C
 na:∀ f ∈ ns,k9 K C f
def ixF:List Str->Str->Option Nat
 | [],_=>none
 | n :: ns,f=>if n=f then some 0 else (ixF ns f).map (· + 1)
def vc {α:Type} {f:Str}:∀ {ns:List Str} {xs:List α} {i:Nat},ixF ns f=some i->ns.length=xs.length->(ns.zip xs).lookup f=xs[i]?
 | [],_,_,h,_=>by cases h
 | n :: ns,[],_,_,l=>by simp at l
 | n :: ns,x :: xs,i,h,l=>by
  unfold ixF at h
  by_cases e:n=f
  ·rw [if_pos e] at h
   cases h
   subst e
   simp [List.lookup]
  ·rw [if_neg e] at h
   obtain ⟨j,hj,rfl⟩:=zar.mp h
   have hne:(f == n)=false:=beq_eq_false_iff_ne.mpr (λz=>e z.symm)
   show (List.lookup f ((n,x) :: ns.zip xs))=_
   rw [List.lookup,hne]
   simpa using vc hj (by simpa using l)
def qr {f:Str}:∀ {ns:List Str} {i:Nat},ixF ns f=some i->f ∈ ns
 | [],_,h=>by cases h
 | n :: ns,i,h=>by
  unfold ixF at h
  by_cases e:n=f
  ·exact e ▸ zao
  ·rw [if_neg e] at h
   obtain ⟨j,hj,rfl⟩:=zar.mp h
   exact zal _ (qr hj)
def Wu {f:Str} {y:V}:∀ {ns:List Str} {xs:List V} {i:Nat},ixF ns f=some i->ns.length=xs.length->putF f y (ns.zip xs)=ns.zip (xs.set i y)
 | [],_,_,h,_=>by cases h
 | n :: ns,[],_,_,l=>by simp at l
 | n :: ns,x :: xs,i,h,l=>by
  unfold ixF at h
  show (if n=f then (n,y) :: ns.zip xs else (n,x) :: putF f y (ns.zip xs))=_
  by_cases e:n=f
  ·rw [if_pos e] at h ⊢
   cases h
   rfl
  ·rw [if_neg e] at h ⊢
   obtain ⟨j,hj,rfl⟩:=zar.mp h
   rw [Wu hj (by simpa using l)]
   rfl
section
variable {ns:List Str}
def ye (hN:X.N[l]?=some x:=by rfl) (hv:Vis X.env.scope x:=by walk_at "o") (hd:(x == ("__debug__" : Str))=false:=by decide)
  (hcd:(x == ("__classdict__" : Str))=false:=by decide):EPQ Γ l X (.Name x pos) Kh:=λH₀=>impE (wq hN hv hd hcd) λσ H Q q=>by
 obtain ⟨ρ,o,A,d,v,S,φ,hφ,k⟩:=q
 exact ⟨v,S.hv,k v [] H (Same.refl H) rfl hφ⟩
def pFld (l:Nat) (C:Addr) (ns:List Str) (f:Str) (tp:TP1):TP1:=λρ φ=>tp ρ λπ=>∃ d ds,slot ρ l=some (dv d) /\ atQ π d=some (.ob C ns ds) /\ (match ixF ns f with
 | some i=>φ (π ++ [i])
 | none=>False)
def xr (O:CO X.K C ns) (hp:EPQ Γ l X e tp) (hb:attributeBase e f X.env (eval e X.env)=eval e X.env:=by rfl):EPQ Γ l X (.Attribute e f pos) (pFld l C ns f tp):=λH₀=>impE (M5 (hp H₀) hb) λσ H Q q=>by
 obtain ⟨ρ,o,A,d,v,S,φ,hφ,k⟩:=q
 refine ⟨ρ,o,A,d,v,S,_,hφ,λu π H1 s1 vp h1=>?_⟩
 obtain ⟨d',ds,es,ea,h1⟩:=h1
 have e2:some (dv d')=some (dv d):=by rw [<- es]; exact w8 S.hd
 cases e2
 split at h1
 ·rename_i i ei
  obtain ⟨w,A1,vw,f1,_⟩:=(S.to s1).focQ ea
  have:=vp.fn vw
  subst this
  obtain ⟨a,dx,xs,B,rfl,q,ln,n,rfl,r⟩:=f1
  have lx:ns.length=xs.length:=by rw [ln,r.length]
  have hi:i < xs.length:=by
   have:=vc (xs:=ns) ei rfl
   rcases Nat.lt_or_ge i xs.length with z | z
   ·exact z
   ·have e3:=vc (xs:=xs) ei lx
    rw [List.getElem?_eq_none z] at e3
    exfalso
    have hm:=qr ei
    rw [List.getElem?_eq_none (by omega)] at this
    have:∀ ns:List Str,f ∈ ns->(ns.zip ns).lookup f ≠ none:=λns=>by
     induction ns with
     | nil=>intro h; cases h
     | cons a r ih =>
      intro h
      rw [List.zip_cons_cons,List.lookup]
      cases q:(f == a) with
      | true=>exact λz=>by cases z
      | false =>
       rcases zam.mp h with h | h
       ·rw [h] at q; simp at q
       ·exact ih h
    exact this ns hm (by assumption)
  have ey:xs[i]?=some xs[i]:=zaf hi
  exact ⟨a,C,dx,_,xs[i],rfl,q,O.cl,O.na f (qr ei),by rw [vc ei lx]; exact ey,k _ _ H1 s1 (vp.snoc (.inr (.inr ⟨C,dx,ns,q,lx⟩)) ey) h1⟩
 ·exact h1.elim
def pIxQ (l:Nat) (tp:TP1) (tk:TD):TP1:=λρ φ=>tp ρ λπ=>tk ρ λkr=>∃ d d1 ds i j,slot ρ l=some (dv d) /\ atQ π d=some d1 /\ (match d1 with
 | .lst es=>es=ds
 | .tup es=>es=ds
 | _=>False) /\ kr.d=.int i /\ ixN ds.length i=some j /\ φ (π ++ [j])
def Gq (hp:EPQ Γ l X e tp) (hk:ED Γ X ke tk) (hs:Wc ke:=by intro _ _; rfl):EPQ Γ l X (.Subscript e ke pos) (pIxQ l tp tk):=λH₀=>impE (Pm V7 (hp H₀) (hk H₀) hs) λσ H Q q=>by
 obtain ⟨ρ,o,A,d,v,S,φ,hφ,k⟩:=q
 refine ⟨ρ,o,A,d,v,S,_,hφ,λu π H1 s1 vp h1=>⟨ρ,o,(S.to s1).R,_,h1,λw r H2 s2 rv h2=>?_⟩⟩
 obtain ⟨d',d1,ds,i,j,es,ea,em,ei,ej,h2⟩:=h2
 have e2:some (dv d')=some (dv d):=by rw [<- es]; exact w8 S.hd
 cases e2
 obtain ⟨b,A1,vb,f1,_⟩:=(S.to (s1.trans s2)).focQ ea
 have:=(vp.to s2).fn vb
 subst this
 have vw:=rv.view
 rw [ei] at vw
 cases (show w=_ from vw)
 have hj:=(Xf ej).2.1
 split at em
 ·subst em
  obtain ⟨a,ys,B,rfl,q,rfl,fs⟩:=f1
  have hl:=fs.length
  obtain ⟨y,ey⟩:∃ y,ys[j]?=some y:=⟨ys[j]'(by omega),by simp [show j < ys.length by omega]⟩
  refine .inl ⟨a,ys,i,y,rfl,rfl,SqL.of q,?_,k _ _ H2 (s1.trans s2) (vb.snoc (.inl q) ey) h2⟩
  unfold atI
  rw [hl,ej]
  exact ey
 ·subst em
  obtain ⟨a,ys,rfl,q,fs⟩:=f1
  have hl:=fs.length
  obtain ⟨y,ey⟩:∃ y,ys[j]?=some y:=⟨ys[j]'(by omega),by simp [show j < ys.length by omega]⟩
  refine .inr (.inl ⟨a,ys,i,y,rfl,rfl,q.1,?_,k _ _ H2 (s1.trans s2) (vb.snoc (.inr (.inl q.2)) ey) h2⟩)
  unfold atI
  rw [hl,ej]
  exact ey
 ·exact em.elim
end
mutual
def Ft.uniq {K:W.Frag} {H:Hp}:∀ (d:D) (v:V) (A B:List Addr),Ft K H d v A->Ft K H d v B->A=B
 | .lst ds,v,A,B,h,g=>by
  obtain ⟨a,xs,A',rfl,q,rfl,r⟩:=h
  obtain ⟨a2,xs2,B',e,q2,rfl,r2⟩:=g
  cases e
  rw [q] at q2
  cases q2
  rw [Fts.uniq ds xs A' B' r r2]
 | .dk ks ds,v,A,B,h,g=>by
  obtain ⟨a,xs,A',rfl,q,l,n,rfl,r⟩:=h
  obtain ⟨a2,xs2,B',e,q2,l2,n2,rfl,r2⟩:=g
  cases e
  rw [q] at q2
  injection q2 with q2
  injection q2 with q2
  have e2:=congrArg (List.map Prod.snd) q2
  rw [vd1 (by rw [l,r.length]),vd1 (by rw [l2,r2.length])] at e2
  subst e2
  rw [Fts.uniq ds xs A' B' r r2]
 | .tup ds,v,A,B,h,g=>by
  obtain ⟨a,xs,rfl,q,r⟩:=h
  obtain ⟨a2,xs2,e,q2,r2⟩:=g
  cases e
  have q3:=q.2
  rw [q2.2] at q3
  cases q3
  exact Fts.uniq ds xs A B r r2
 | .ob C ns ds,v,A,B,h,g=>by
  obtain ⟨a,dx,xs,A',rfl,q,l,n,rfl,r⟩:=h
  obtain ⟨a2,dx2,xs2,B',e,q2,l2,n2,rfl,r2⟩:=g
  cases e
  rw [q] at q2
  injection q2 with q2
  injection q2 with _ _ q2
  have e2:=congrArg (List.map Prod.snd) q2
  rw [vd1 (by rw [l,r.length]),vd1 (by rw [l2,r2.length])] at e2
  subst e2
  rw [Fts.uniq ds xs A' B' r r2]
 | .non,_,_,_,h,g=>by rw [h.1,g.1]
 | .bl _,_,_,_,h,g=>by rw [h.1,g.1]
 | .int _,_,_,_,h,g=>by rw [h.1,g.1]
 | .str _,_,_,_,h,g=>by rw [h.1,g.1]
 | .ty _,_,_,_,h,g=>by rw [h.1,g.1]
 | .scr _,_,_,_,h,g=>by rw [h.1,g.1]
def Fts.uniq {K:W.Frag} {H:Hp}:∀ (ds:List D) (xs:List V) (A B:List Addr),Fts K H ds xs A->Fts K H ds xs B->A=B
 | [],_,_,_,h,g=>by rw [h.2,g.2]
 | d :: ds,xs,A,B,h,g=>by
  obtain ⟨v,r,A1,A2,rfl,rfl,q,t⟩:=h
  obtain ⟨v',r',B1,B2,e,rfl,q',t'⟩:=g
  cases e
  rw [Ft.uniq d v A1 B1 q q',Fts.uniq ds r A2 B2 t t']
end
section
variable {o:List (Nat × Addr)} {A:List Addr} {d:D}
def Fts.setA:∀ {ds:List D} {xs:List V} {A B:List Addr} {i:Nat} {e:D} {u:V},i < ds.length->Fts K H ds xs A->Ft K H e u B->∃ B0 A1 C0,A=B0 ++ A1 ++ C0 /\ Fts K H (ds.set i e) (xs.set i u) (B0 ++ B ++ C0)
 | [],_,_,_,_,_,_,hi,_,_=>by simp at hi
 | d :: ds,xs,A,B,0,e,u,_,h,f=>by
  obtain ⟨v,r,B',C,rfl,rfl,q,t⟩:=h
  exact ⟨[],B',C,rfl,u,r,B,C,rfl,rfl,f,t⟩
 | d :: ds,xs,A,B,i + 1,e,u,hi,h,f=>by
  obtain ⟨v,r,B',C,rfl,rfl,q,t⟩:=h
  obtain ⟨B0,A1,C0,rfl,t'⟩:=Fts.setA (i:=i) (by simpa using hi) t f
  exact ⟨B' ++ B0,A1,C0,by simp,v,_,B',B0 ++ B ++ C0,rfl,by simp,q,t'⟩
def Hk {A B B0 A1 C0:List Addr} {P:Addr->Prop} (e:A=B0 ++ A1 ++ C0) (nA:A.Nodup) (nB:B.Nodup) (dis:∀ a ∈ B,a ∉ A):(B0 ++ B ++ C0).Nodup /\ ∀ a ∈ B0 ++ B ++ C0,a ∈ A \/ a ∈ B:=by
 subst e
 have n1:=List.nodup_append.mp nA
 have n2:=List.nodup_append.mp n1.1
 refine ⟨?_,λa ha=>?_⟩
 ·rw [List.nodup_append,List.nodup_append]
  refine ⟨⟨n2.1,nB,λx hx y hy e=>?_⟩,n1.2.1,λx hx y hy e=>?_⟩
  ·subst e; exact dis x hy (by simp [hx])
  ·subst e
   rcases zas.mp hx with hx | hx
   ·exact n1.2.2 x (List.mem_append_left _ hx) x hy rfl
   ·exact dis x hx (by simp [hy])
 ·rw [zas,zas] at ha
  rcases ha with (ha | ha) | ha
  ·exact .inl (by simp [ha])
  ·exact .inr ha
  ·exact .inl (by simp [ha])
def ST.putH (S:ST K H₀ H σ ρ o l A d v) {π:List Nat} {d1 e:D} {b:Addr} {At A1':List Addr} {es':List D} {zs:List V} {ho:HO} (h:atQ π d=some d1) (f:Ft K H d1 (.ref b) (b :: At)) (nA:(b :: At).Nodup)
  (hu:∀ u A1,valQ H π v u->Ft K H d1 u A1->A1.Nodup->u=.ref b /\ A1=b :: At) (s:Same H H1) (f':Fts K H1 es' zs A1') (nd':A1'.Nodup) (fr:∀ a ∈ A1',a ∈ At \/ H a=none) (nt:∀ xs,ho ≠ .tup xs) (nz:∀ ob w,ho ≠ .frz ob w)
  (mk:∀ H',H' b=some ho->Fts K H' es' zs A1'->Ft K H' e (.ref b) (b :: A1')):∃ A',ST K H₀ (upd H1 b ho) σ (setS ρ l (dv (putQ π d e))) o l A' (putQ π d e) v /\ Grow A A' H (upd H1 b ho) /\ ∀ a ∈ At,a ∉ A1'->a ∉ A':=by
 obtain ⟨u,A1,hv,f1,n1,sub,dm,kk⟩:=S.focQ h
 obtain ⟨rfl,rfl⟩:=hu u A1 hv f1 n1
 have nb:=List.nodup_cons.mp nA
 have hb:H b ≠ none:=dm b zao
 have bn:b ∉ A1':=λz=>(fr b z).elim nb.1 hb
 obtain ⟨x,hx,nx1,nx2⟩:=Ft.dom _ _ _ f1 b zao
 have hb1:=s _ _ hx
 have gt:Gt H1 (upd H1 b ho):=⟨λc xs hc=>by rw [y7 (λz=>by subst z; rw [hb1] at hc; cases hc; exact nx1 _ rfl)]; exact hc,λc ob w hc=>by rw [y7 (λz=>by subst z; rw [hb1] at hc; cases hc; exact nx2 _ _ rfl)]; exact hc⟩
 obtain ⟨A',S',g,out⟩:=kk (upd H1 b ho) e (b :: A1') (λc x hc hn=>by rw [y7 (λz=>hn (by rw [z]; exact zao))]; exact s _ _ hc)
  (mk _ zy (Fts.keep gt _ _ _ (λa ha x hx=>by rw [y7 (λz=>bn (by rw [<- z]; exact ha))]; exact hx) f')) (List.nodup_cons.mpr ⟨bn,nd'⟩) (λa ha=>by
   rcases zam.mp ha with rfl | ha
   ·exact .inl zao
   ·exact (fr a ha).imp (λz=>zal _ z) id)
 refine ⟨A',S',g,λa ha na=>out a (zal _ ha) λz=>?_⟩
 rcases zam.mp z with rfl | z
 ·exact nb.1 ha
 ·exact na z
def ST.atL (S:ST K H₀ H σ ρ o l A d v) {π:List Nat} {es:List D} (h:atQ π d=some (.lst es)):∃ b ys At,valQ H π v (.ref b) /\ H b=some (.lst ys) /\ Fts K H es ys At /\ At.Nodup /\ (∀ a ∈ At,H a ≠ none) /\ (∀ a ∈ At,a ∈ A) /\
  ∀ H1 es' zs A1',Same H H1->Fts K H1 es' zs A1'->A1'.Nodup->(∀ a ∈ A1',a ∈ At \/ H a=none)->∃ A',ST K H₀ (upd H1 b (.lst zs)) σ (setS ρ l (dv (putQ π d (.lst es')))) o l A' (putQ π d (.lst es')) v /\ Grow A A' H (upd H1 b (.lst zs)) /\ ∀ a ∈ At,a ∉ A1'->a ∉ A':=by
 obtain ⟨u,A1,hv,f1,n1,sub,dm,kk⟩:=S.focQ h
 obtain ⟨b,ys,At,rfl,q,rfl,fs⟩:=f1
 refine ⟨b,ys,At,hv,q,fs,(List.nodup_cons.mp n1).2,λa ha=>dm a (zal _ ha),λa ha=>sub a (zal _ ha),λH1 es' zs A1' s f' nd' fr=>?_⟩
 have:=S.putH (e:=.lst es') (ho:=.lst zs) h ⟨b,ys,At,rfl,q,rfl,fs⟩ n1 (λu A2 hv2 f2 n2=>by
  cases hv.fn hv2
  obtain ⟨b2,ys2,At2,e,q2,rfl,fs2⟩:=f2
  cases e
  rw [q] at q2
  cases q2
  exact ⟨rfl,by rw [Fts.uniq es ys At At2 fs fs2]⟩) s f' nd' fr (λ_ z=>by cases z) (λ_ _ z=>by cases z) (λH' hb f=>⟨b,zs,A1',rfl,hb,rfl,f⟩)
 exact this
end
section
variable {oe:Expr} {ns:List Str}
def dFld (C:Addr) (ns:List Str) (f:Str) (te:TD):TD:=λρ φ=>te ρ λr=>match r.d with
 | .ob C' ns' ds=>C'=C /\ ns'=ns /\ (match ixF ns f with
  | some i=>(match ds[i]? with
   | some x=>φ (dv x)
   | none=>False)
  | none=>False)
 | _=>False
def wt (O:CO X.K C ns) (he:ED Γ X e te) (hb:attributeBase e f X.env (eval e X.env)=eval e X.env:=by rfl):ED Γ X (.Attribute e f pos) (dFld C ns f te):=λH₀=>impE (M5 (he H₀) hb) λσ H Q q=>by
 obtain ⟨ρ,o,R,φ,hφ,k⟩:=q
 refine ⟨ρ,o,R,_,hφ,λv r H1 s1 rv h1=>?_⟩
 have vw:=rv.view
 obtain ⟨kd,d⟩:=r
 cases d with
 | ob C' ns' ds =>
  obtain ⟨rfl,rfl,h1⟩:=h1
  obtain ⟨a,dx,xs,rfl,q,_,ln,nd,rr⟩:=vw
  split at h1
  ·rename_i i ei
   split at h1
   ·rename_i y ey
    obtain ⟨w,ew,rw'⟩:=rr.get ey
    exact ⟨a,_,dx,_,w,rfl,q,O.cl,O.na f (qr ei),by rw [vc ei (by rw [ln,rr.length])]; exact ew,k _ (dv y) H1 s1 rw' h1⟩
   ·exact h1.elim
  ·exact h1.elim
 | _=>exact h1.elim
def frs2:EV->Prop
 | ⟨.fre,.dk _ ds⟩=>zn ds
 | r=>frs1 r
def Rf {K:W.Frag} {H H':Hp} {O:List Addr} {r:EV} {v:V} (h:RV K H H' O r v) (p:frs2 r):∃ B,Ft K H' r.d v B /\ B.Nodup /\ ∀ b ∈ B,H b=none:=by
 unfold frs2 at p
 split at p
 ·obtain ⟨a,rfl,m,n,xs,hx,ln,nd,rr⟩:=h
  exact ⟨[a],⟨a,xs,[],rfl,hx,ln,nd,rfl,Reps.fts _ _ p rr⟩,by simp,λb hb=>by rw [List.mem_singleton.mp hb]; exact m⟩
 ·exact Ee h p
def fE2 (te:TD):TF:=λρ φ=>te ρ λr=>frs2 r /\ φ r.d
def x9 (he:ED Γ X e te):EF Γ l X e (fE2 te):=λH₀=>impE (he H₀) λσ H Q q=>by
 obtain ⟨ρ,o,A,d,v,S,φ,hφ,k⟩:=q
 refine ⟨ρ,o,S.R,_,hφ,λu r H1 s1 rv h1=>?_⟩
 obtain ⟨B,f,nd,fr⟩:=Rf rv h1.1
 exact k u r.d B H1 s1 f nd fr h1.2
def fTup (t:TFs):TF:=λρ φ=>t ρ λds=>ds.length <= 1000 /\ φ (.tup ds)
def Es {t:TFs} {x1} (h:EFs Γ l X es t):EF Γ l X (.Tuple es x1 pos) (fTup t):=λH₀=>impE (Wz (h H₀)) λσ H Q q=>by
 obtain ⟨ρ,o,A,d,v,S,φ,hφ,k⟩:=q
 refine ⟨ρ,o,A,d,v,S,_,hφ,λus es1 B H1 s1 f nd fr h1=>⟨by rw [f.length,sizeLine_eq]; omega,λp hp=>?_⟩⟩
 have n:=yc hp (HO.tup us)
 exact k (.ref p) (.tup es1) B _ (s1.trans n) ⟨p,us,rfl,⟨SqT.of zy,zy⟩,Fts.keep (Gt.same n) _ _ _ (λa _ x hx=>n _ _ hx) f⟩ nd fr h1.2
def qFld (l:Nat) (C:Addr) (ns:List Str) (f:Str) (tp:TP1) (tf:TF):TQS:=λρ Z=>tf ρ λx=>tp ρ λπ=>∃ d ds,slot ρ l=some (dv d) /\ atQ π d=some (.ob C ns ds) /\ ns.length <= 100 /\ (match ixF ns f with
 | some i=>Z.nx (setS ρ l (dv (putQ π d (.ob C ns (ds.set i x)))))
 | none=>False)
def Wt (O:CO X.K C ns) (hp:EPQ Γ l X oe tp) (he:EF Γ l X e tf) (hs:swapsWith e (some (.Attribute oe f pos')) pos.line X.env=pure false:=by rfl):QS Γ l X (.Assign [.Attribute oe f pos'] e pos) (qFld l C ns f tp tf):=λH₀=>impS (Ny (hp H₀) (he H₀) hs) λDz σ H h=>by
 obtain ⟨ρ,o,A,d,v,S,Z,hZ,k1,k2,k3,k4⟩:=h
 refine ⟨ρ,o,A,d,v,S,_,hZ,λw y B H1 s1 fy nB frB h1=>⟨ρ,o,A,d,v,S.to s1,_,h1,λu π H2 s2 vp h2=>?_⟩⟩
 obtain ⟨d',ds,es,ea,hn,h2⟩:=h2
 have e2:some (dv d')=some (dv d):=by rw [<- es]; exact w8 S.hd
 cases e2
 split at h2
 ·rename_i i ei
  obtain ⟨u',A1,hv,f1,n1,sub,dm,_⟩:=S.focQ ea
  have s12:=s1.trans s2
  cases (vp.fn (hv.to s12))
  obtain ⟨b,dx,xs,At,rfl,q,ln,nd,rfl,fs⟩:=f1
  have lx:ns.length=xs.length:=by rw [ln,fs.length]
  have hi:i < ds.length:=by
   have e3:=vc (xs:=ds) ei ln
   rcases Nat.lt_or_ge i ds.length with z | z
   ·exact z
   ·exfalso
    have hm:=qr ei
    have:∀ (ns:List Str) (ds:List D),ns.length=ds.length->f ∈ ns->(ns.zip ds).lookup f ≠ none:=λns=>by
     induction ns with
     | nil=>intro _ _ h; cases h
     | cons a r ih =>
      intro ds l h
      cases ds with
      | nil=>simp at l
      | cons d ds =>
       rw [List.zip_cons_cons,List.lookup]
       cases q:(f == a) with
       | true=>exact λz=>by cases z
       | false =>
        rcases zam.mp h with h | h
        ·rw [h] at q; simp at q
        ·exact ih ds (by simpa using l) h
    exact this ns ds ln hm (by rw [e3]; exact List.getElem?_eq_none z)
  have fs2:Fts X.K H2 ds xs At:=Fts.keep (Gt.same s12) _ _ _ (λa _ x hx=>s12 _ _ hx) fs
  have fy2:Ft X.K H2 y w B:=Ft.keep (Gt.same s2) _ _ _ (λa _ x hx=>s2 _ _ hx) fy
  obtain ⟨B0,A1,C0,eA,f3⟩:=Fts.setA hi fs2 fy2
  have ndc:=List.nodup_cons.mp n1
  obtain ⟨n3,m3⟩:=Hk (P:=λ_=>True) eA ndc.2 nB (λa ha z=>dm a (zal _ z) (frB a ha))
  obtain ⟨A',S',g,_⟩:=S.putH (e:=.ob C ns (ds.set i y)) (ho:=.ins C dx (ns.zip (xs.set i w))) ea ⟨b,dx,xs,At,rfl,q,ln,nd,rfl,fs⟩ n1 (λu A2 hv2 f2 n2=>by
   cases hv.fn hv2
   exact ⟨rfl,Ft.uniq _ _ _ _ f2 ⟨b,dx,xs,At,rfl,q,ln,nd,rfl,fs⟩⟩) s12 f3 n3 (λa ha=>(m3 a ha).imp id (frB a)) (λ_ z=>by cases z) (λ_ _ z=>by cases z) (λH' hb f=>⟨b,dx,_,_,rfl,hb,by rw [List.length_set]; exact ln,nd,rfl,f⟩)
  refine ⟨b,C,dx,_,rfl,s12 _ _ q,O.cl,O.na f (qr ei),by rw [List.length_zip]; omega,?_⟩
  rw [Wu ei lx]
  exact k1 _ _ _ _ _ _ S' h2
 ·exact h2.elim
def Gg (l:Nat) (tp:TP1) (tf:TF):TQS:=λρ Z=>tp ρ λπ=>∃ d ds,slot ρ l=some (dv d) /\ atQ π d=some (.lst ds) /\ ds.length <= 100000 /\ tf ρ λf=>Z.nx (setS ρ l (dv (putQ π d (.lst (ds ++ [f])))))
def wd (hp:EPQ Γ l X oe tp) (he:EF Γ l X e tf)
  (hpp:∀ {ta tb:TE},PE X oe ta->PE X e tb->PS X (.Expr (.Call (.Attribute oe "append" apos) [e] [] cpos) pos) (dt (tBM X.K "list" j8 ta (X1 tb tNil))):=by
   intro ta tb h1 h2
   exact ww (X8 PySem.F.plainAttrs_list PySem.F.slot_list_append PySem.F.type_list_append ul h1 (yx h2 vi))) :
  QS Γ l X (.Expr (.Call (.Attribute oe "append" apos) [e] [] cpos) pos) (Gg l tp tf):=λH₀=>impS (hpp (hp H₀) (he H₀)) λDz σ H h=>by
 obtain ⟨ρ,o,A,d,v,S,Z,hZ,k1,k2,k3,k4⟩:=h
 refine ⟨ρ,o,A,d,v,S,_,hZ,λu π H1 s1 vp h1=>?_⟩
 have S1:=S.to s1
 obtain ⟨d',ds,es,ea,hl,h1⟩:=h1
 have e2:some (dv d')=some (dv d):=by rw [<- es]; exact w8 S.hd
 cases e2
 obtain ⟨b,ys,A1,vb,hb,fs,n1,dm,sub,kk⟩:=S1.atL ea
 have:=vp.fn vb
 subst this
 refine ⟨.inl ⟨rfl,_,SqL.of hb⟩,ρ,o,A,d,v,S1,_,h1,λw f B H2 s2 ff nd fr h2=>?_⟩
 have f1:Fts X.K H2 ds ys A1:=Fts.keep (Gt.same s2) _ _ _ (λa _ x hx=>s2 _ _ hx) fs
 obtain ⟨A',S',g,_⟩:=kk H2 (ds ++ [f]) (ys ++ [w]) (A1 ++ B) s2 (f1.app ⟨w,[],B,[],rfl,by simp,ff,rfl,rfl⟩) (by
   rw [List.nodup_append]
   refine ⟨n1,nd,λa ha b hb e=>?_⟩
   subst e
   exact dm a ha (fr a hb)) (λa ha=>(zas.mp ha).imp id (fr a))
 refine ⟨b,ys,w,rfl,rfl,s2 _ _ hb,?_,k1 _ _ _ _ _ _ S' h2⟩
 rw [fs.length]
 exact Nat.lt_of_le_of_lt hl (by decide)
def Lz (l:Nat) (tp:TP1) (te:TD):TQS:=λρ Z=>tp ρ λπ=>∃ d ds,slot ρ l=some (dv d) /\ atQ π d=some (.lst ds) /\ ds.length <= 100000 /\ te ρ λr=>match r.d with
 | .lst gs=>zn gs /\ gs.length <= 1000 /\ Z.nx (setS ρ l (dv (putQ π d (.lst (ds ++ gs)))))
 | _=>False
def Lw (hp:EPQ Γ l X oe tp) (he:ED Γ X e te)
  (hpp:∀ {ta tb:TE},PE X oe ta->PE X e tb->PS X (.Expr (.Call (.Attribute oe "extend" apos) [e] [] cpos) pos) (dt (tBM X.K "list" X6 ta (X1 tb tNil))):=by
   intro ta tb h1 h2
   exact ww (X8 PySem.F.plainAttrs_list PySem.F.slot_list_extend PySem.F.type_list_extend Zq h1 (yx h2 vi))) :
  QS Γ l X (.Expr (.Call (.Attribute oe "extend" apos) [e] [] cpos) pos) (Lz l tp te):=λH₀=>impS (hpp (hp H₀) (he H₀)) λDz σ H h=>by
 obtain ⟨ρ,o,A,d,v,S,Z,hZ,k1,k2,k3,k4⟩:=h
 refine ⟨ρ,o,A,d,v,S,_,hZ,λu π H1 s1 vp h1=>?_⟩
 have S1:=S.to s1
 obtain ⟨d',ds,es,ea,hl,h1⟩:=h1
 have e2:some (dv d')=some (dv d):=by rw [<- es]; exact w8 S.hd
 cases e2
 obtain ⟨b,ys,A1,vb,hb,fs,n1,dm,sub,kk⟩:=S1.atL ea
 have:=vp.fn vb
 subst this
 refine ⟨.inl ⟨rfl,_,SqL.of hb⟩,ρ,o,S1.R,_,h1,λw r H2 s2 rv h2=>?_⟩
 have vw:=rv.view
 obtain ⟨kd,rd⟩:=r
 cases rd with
 | lst gs =>
  obtain ⟨pg,lg,h2⟩:=h2
  obtain ⟨c,zs,rfl,hc,rc⟩:=vw
  have f1:Fts X.K H2 ds ys A1:=Fts.keep (Gt.same s2) _ _ _ (λa _ x hx=>s2 _ _ hx) fs
  obtain ⟨A',S',g,_⟩:=kk H2 (ds ++ gs) (ys ++ zs) (A1 ++ []) s2 (f1.app (Reps.fts _ _ pg rc)) (by rw [List.append_nil]; exact n1) (λa ha=>by rw [List.append_nil] at ha; exact .inl ha)
  refine ⟨b,c,ys,zs,rfl,rfl,s2 _ _ hb,hc,?_,k1 _ _ _ _ _ _ S' h2⟩
  rw [fs.length,rc.length,sizeLine_eq]
  omega
 | _=>exact h2.elim
def Ge (l:Nat) (tp:TP1) (tk te:TD):TQS:=λρ Z=>te ρ λr=>zk r.d /\ tp ρ λπ=>tk ρ λkr=>∃ d ds i j,slot ρ l=some (dv d) /\ atQ π d=some (.lst ds) /\ kr.d=.int i /\ ixN ds.length i=some j /\ Z.nx (setS ρ l (dv (putQ π d (.lst (ds.set j r.d)))))
def Lv (hp:EPQ Γ l X oe tp) (hk:ED Γ X ke tk) (he:ED Γ X e te) (hs:swapsWithSole [.Subscript oe ke pos'] e pos.line X.env=pure false:=by rfl) (hw:swappedStores [.Subscript oe ke pos'] e X.env=pure none:=by rfl)
  (h1:(assignEach [.Subscript oe ke pos'] X.env).map (·.2)=[assign (.Subscript oe ke pos') X.env]:=by rfl)
  (ha:∀ v,assign (.Subscript oe ke pos') X.env v=(do
   let ov <- holding [v] (eval oe X.env)
   let iv <- holding [v,ov] (eval ke X.env)
   standAt pos'
   holding [v,ov,iv] (setItem ov iv v)
   release [v,ov,iv] []):=by intro _; rfl):QS Γ l X (.Assign [.Subscript oe ke pos'] e pos) (Ge l tp tk te):=λH₀ =>
 impS (Wy (he H₀) (Nz (hp H₀) (hk H₀) Wk ha) hs hw h1) λDz σ H h=>by
  obtain ⟨ρ,o,A,d,v,S,Z,hZ,k1,k2,k3,k4⟩:=h
  refine ⟨ρ,o,S.R,_,hZ,λw r H1 s1 rv h1=>⟨ρ,o,A,d,v,S.to s1,_,h1.2,λu π H2 s2 vp h2=>⟨ρ,o,(S.to (s1.trans s2)).R,_,h2,λw2 r2 H3 s3 rv2 h3=>?_⟩⟩⟩
  obtain ⟨d',ds,i,j,es,ea,ei,ej,h3⟩:=h3
  have e2:some (dv d')=some (dv d):=by rw [<- es]; exact w8 S.hd
  cases e2
  have S3:=S.to ((s1.trans s2).trans s3)
  obtain ⟨b,ys,A1,vb,hb,fs,n1,dm,sub,kk⟩:=S3.atL ea
  have:=(vp.to s3).fn vb
  subst this
  have vw:=rv2.view
  rw [ei] at vw
  cases (show w2=_ from vw)
  have fw:Ft X.K H3 r.d w []:=Rep.ft _ _ h1.1 (Rep.keep (O:=[]) (O':=[]) (Gt.same (s2.trans s3)) _ _ h1.1 rv.view.rep0)
  obtain ⟨A2,sl,f2⟩:=fs.put j fw
  obtain ⟨A',S',g,_⟩:=kk H3 _ _ A2 (Same.refl _) f2 (sl.nodup n1) (λa ha=>.inl (sl.subset ha))
  exact ⟨b,ys,i,j,rfl,rfl,hb,by rw [fs.length]; exact ej,k1 _ _ _ _ _ _ S' h3⟩
end
section
variable {o:List (Nat × Addr)} {A:List Addr} {d:D}
def Fts.last:∀ {ds:List D} {xs:List V} {A:List Addr},Fts K H ds xs A->ds ≠ []->∃ e u A2 Ae,ds[ds.length - 1]?=some e /\ xs[xs.length - 1]?=some u /\ A=A2 ++ Ae /\ Fts K H ds.dropLast xs.dropLast A2 /\ Ft K H e u Ae
 | [],_,_,_,h=>absurd rfl h
 | [d],xs,A,h,_=>by
  obtain ⟨v,r,B,C,rfl,rfl,q,t⟩:=h
  obtain ⟨rfl,rfl⟩:=t
  exact ⟨d,v,[],B,rfl,rfl,by simp,⟨rfl,rfl⟩,q⟩
 | d :: d' :: ds,xs,A,h,_=>by
  obtain ⟨v,r,B,C,rfl,rfl,q,t⟩:=h
  obtain ⟨e,u,A2,Ae,e1,e2,rfl,f,fe⟩:=Fts.last t (by simp)
  obtain ⟨v',r',_,_,rfl,_⟩:=t
  exact ⟨e,u,B ++ A2,Ae,by simpa using e1,by simpa using e2,by simp,⟨v,_,B,A2,rfl,rfl,q,f⟩,fe⟩
def ST.setR (S:ST K H₀ H σ ρ o l A d v) {j:Nat} {e:D} {w:V} (hj:j ≠ l) (h:Rep K H (o.map Prod.snd ++ A) e w):ST K H₀ H (σ.set j (some w)) (setS ρ j (dv e)) o l A d v:=by
 refine ⟨?_,?_,?_,S.ft⟩
 ·rw [t4 _ _ hj]; exact S.Q.setV j (by rw [wa]; exact h)
 ·rw [xb,List.getElem?_set_ne hj]; exact S.hd
 ·rw [List.getElem?_set_ne hj]; exact S.hv
def sv {α:Type} {f:Str}:∀ {ns:List Str} {xs:List α},f ∉ ns->(ns.zip xs).lookup f=none
 | [],_,_=>rfl
 | n :: ns,[],_=>rfl
 | n :: ns,x :: xs,h=>by
  rw [List.zip_cons_cons,List.lookup,beq_eq_false_iff_ne.mpr (λz=>h (by rw [z]; exact zao))]
  exact sv λz=>h (zal _ z)
def Wv {f:Str} {y:V}:∀ {ns:List Str} {xs:List V},f ∉ ns->ns.length=xs.length->putF f y (ns.zip xs)=(ns ++ [f]).zip (xs ++ [y])
 | [],[],_,_=>rfl
 | [],_ :: _,_,h=>by simp at h
 | _ :: _,[],_,h=>by simp at h
 | n :: ns,x :: xs,h,l=>by
  show (if n=f then (n,y) :: ns.zip xs else (n,x) :: putF f y (ns.zip xs))=_
  rw [if_neg (λz=>h (by rw [z]; exact zao)),Wv (λz=>h (zal _ z)) (by simpa using l)]
  rfl
end
section
variable {y m:Str} {oe:Expr} {ns:List Str} {t:TQs} {T:FTQ} {k:Nat} {ps:List Str}
def Tu (l j:Nat) (tp:TP1):TQS:=λρ Z=>tp ρ λπ=>∃ d ds e,slot ρ l=some (dv d) /\ atQ π d=some (.lst ds) /\ ds[ds.length - 1]?=some e /\ Z.nx (setS (setS ρ l (dv (putQ π d (.lst ds.dropLast)))) j (dv e))
def Zl (j:Nat) (hj:j ≠ l) (hN:X.N.Nodup) (hp:EPQ Γ l X oe tp) (hi:X.N[j]?=some x:=by rfl) (hx:Loc X.env.scope x:=by first | exact Or.inl rfl | exact Or.inr rfl)
  (hs:swapsWith (.Call (.Attribute oe "pop" apos) [] [] cpos) (some (.Name x pos')) pos.line X.env=pure false:=by rfl) (hf:X.fn x=true \/ X.env.scope.names.lookup x=some .local:=by first | exact .inl rfl | exact .inr rfl | assumption)
  (hpp:∀ {ta:TE},PE X oe ta->PE X (.Call (.Attribute oe "pop" apos) [] [] cpos) (tBM0 X.K "list" rPop ta):=by
   intro ta h1
   exact Sb PySem.F.plainAttrs_list PySem.F.slot_list_pop PySem.F.type_list_pop M8 h1) :
  QS Γ l X (.Assign [.Name x pos'] (.Call (.Attribute oe "pop" apos) [] [] cpos) pos) (Tu l j tp):=λH₀=>impS (su hN hi hx (hpp (hp H₀)) hs hf) λDz σ H h=>by
 obtain ⟨ρ,o,A,d,v,S,Z,hZ,k1,k2,k3,k4⟩:=h
 refine ⟨ρ,o,A,d,v,S,_,hZ,λu π H1 s1 vp h1=>?_⟩
 have S1:=S.to s1
 obtain ⟨d',ds,e,es,ea,ee,h1⟩:=h1
 have e2:some (dv d')=some (dv d):=by rw [<- es]; exact w8 S.hd
 cases e2
 obtain ⟨b,ys,At,vb,hb,fs,n1,dm,sub,kk⟩:=S1.atL ea
 have:=vp.fn vb
 subst this
 obtain ⟨e',w,A2,Ae,e1,ew,rfl,f2,fe⟩:=fs.last (λz=>by rw [z] at ee; cases ee)
 rw [ee] at e1
 cases e1
 have nd:=List.nodup_append.mp n1
 obtain ⟨A',S',g,out⟩:=kk H1 _ _ A2 (Same.refl _) f2 nd.1 (λa ha=>.inl (List.mem_append_left _ ha))
 refine ⟨.inl ⟨rfl,_,SqL.of hb⟩,b,ys,w,rfl,rfl,hb,ew,?_⟩
 have dis:∀ a ∈ Ae,a ∉ o.map Prod.snd ++ A':=λa ha z=>by
  rcases zas.mp z with z | z
  ·exact S1.dis a (sub a (List.mem_append_right _ ha)) z
  ·exact out a (List.mem_append_right _ ha) (λy=>nd.2.2 a y a ha rfl) z
 have fe':Ft X.K (upd H1 b (.lst ys.dropLast)) e w Ae:=by
  have g1:Grow [b] [b] H1 (upd H1 b (.lst ys.dropLast)):=Qo hb
  refine Ft.keep g1.gt _ _ _ (λa ha x hx=>?_) fe
  by_cases hab:a=b
  ·exfalso
   subst hab
   obtain ⟨u2,A3,hv3,f3,_,sub3,_,_⟩:=S1.focQ ea
   cases vb.fn hv3
   obtain ⟨b2,ys2,B2,e2,q2,rfl,r2⟩:=f3
   cases e2
   rw [hb] at q2
   cases q2
   have n3:(a :: B2).Nodup:=by assumption
   rw [Fts.uniq _ _ _ _ r2 fs] at n3
   exact (List.nodup_cons.mp n3).1 (List.mem_append_right _ ha)
  ·rw [y7 hab]; exact hx
 exact k1 _ _ _ _ _ _ (S'.setR hj (Ft.rep _ _ _ dis fe')) h1
structure FM (P:Program) (w:World) (K:W.Frag) (mg:Str->Option Value) (base:Heap) (k:Nat) (C:Addr) (ns:List Str) (m:Str) (ps:List Str) (T:FTQ):Prop where
 ex:∃ f fd,FnOk P w K mg base CX0 k f fd ps (spQ K ps.length T) /\ Binds K fd ps [] /\ Meth K C m f
 no:m ∉ ns
def Pg (l n:Nat) (C:Addr) (ns:List Str) (T:FTQ) (t:TQs):TQ:=λρ φ=>∃ ds,slot ρ l=some (dv (.ob C ns ds)) /\ t ρ λes ρ1=>match slot ρ1 l with
 | some ⟨.val,d⟩=>Nat.beq (es.length + 1) n=true /\ T d es λr d'=>φ r (setS ρ1 l (dv d'))
 | _=>False
def Zr {H₀:Hp} (no:m ∉ ns):∀ σ H Q,Fs X.K H₀ l (Pg l ps.length C ns T t) σ H Q->Qv C m (spQ X.K ps.length T) [] E0 (tVar l) (M9 X.K H₀ l t) σ H Q:=λσ H Q q=>by
 obtain ⟨ρ,o,A,d,v,S,φ,⟨ds,es0,hφ⟩,kk⟩:=q
 have e0:some (dv d)=some (dv (.ob C ns ds)):=by rw [<- es0]; exact (w8 S.hd).symm
 cases e0
 obtain ⟨a,dx,xs,B,ev,qa,ln,nn,eA,r⟩:=S.ft
 refine ⟨v,S.hv,a,dx,_,ev,qa,sv no,ρ,o,A,_,v,S,_,hφ,λus rs ρ1 H1 A1 d1 g1 S1 rrs h1=>?_⟩
 have es1:slot ρ1 l=some (dv d1):=w8 S1.hd
 rw [es1] at h1
 show spQ X.K ps.length T (v :: (us ++ [])) H1 Q E0
 rw [List.append_nil]
 refine ⟨d1,rs,v,us,A1,_,rfl,Nat.eq_of_beq_eq_true h1.1,S1.ft,S1.ndA,Reps.sub (λa ha=>List.mem_append_right _ ha) _ _ rrs,h1.2,λu r d' H' A' g ft nd fr pr rr h2=>?_⟩
 exact kk u r _ H' A' d' (g1.trans g) (S1.chg g ft nd fr) pr rr h2
def yk {pl:Sem Bool} (O:CO X.K C ns) (F:FM X.prog X.w X.K X.mg X.base k C ns m ps T) (hr:Room k X.A) (ha:QA Γ l X (e :: es) t) (hN:X.N[l]?=some y:=by rfl) (hv:Vis X.env.scope y:=by walk_at "o") (hd:(y == ("__debug__" : Str))=false:=by decide) (hcd:(y == ("__classdict__" : Str))=false:=by decide)
  (hst:starEach (e :: es) X.env=(false,eval e X.env) :: starEach es X.env:=by rfl) (hpl:(backTo pos (starEach es X.env)).any (·.1)=false:=by rfl)
  (ht:eval (.Call (.Attribute (.Name y np) m apos) (e :: es) [] pos) X.env=(do
   let ov <- eval (.Name y np) X.env
   standAt apos.atName
   let (f,first) <- holding [ov] (getMethod ov m pl)
   callWith pos f first (backTo pos (starEach (e :: es) X.env)) (backToKw pos (keywordEach [] X.env))):=by rfl) :
  EQ Γ l X (.Call (.Attribute (.Name y np) m apos) (e :: es) [] pos) (Pg l ps.length C ns T t):=λH₀=>by
 obtain ⟨f,fd,ok,b,hm⟩:=F.ex
 exact impE (S7 (wq hN hv hd hcd) O.cl hm ok hr b .nil ci (ha H₀) hst hpl ht) (Zr F.no)
def Vh {pl:Sem Bool} (O:CO X.K C ns) (F:FM X.prog X.w X.K X.mg X.base k C ns m ps T) (hr:Room k X.A) (hN:X.N[l]?=some y:=by rfl) (hv:Vis X.env.scope y:=by walk_at "o") (hd:(y == ("__debug__" : Str))=false:=by decide) (hcd:(y == ("__classdict__" : Str))=false:=by decide)
  (ht:eval (.Call (.Attribute (.Name y np) m apos) [] [] pos) X.env=(do
   let ov <- eval (.Name y np) X.env
   standAt apos.atName
   let (f,first) <- holding [ov] (getMethod ov m pl)
   callWith pos f first (backTo pos (starEach [] X.env)) (backToKw pos (keywordEach [] X.env))):=by rfl) :
  EQ Γ l X (.Call (.Attribute (.Name y np) m apos) [] [] pos) (Pg l ps.length C ns T Lx):=λH₀=>by
 obtain ⟨f,fd,ok,b,hm⟩:=F.ex
 refine impE (V0 (wq hN hv hd hcd) O.cl hm ok hr b .nil ci ht) λσ H Q q=>?_
 obtain ⟨v,hv',a,dx,fs,e1,q1,l1,z⟩:=Zr F.no σ H Q q
 refine ⟨v,hv',a,dx,fs,e1,q1,l1,?_⟩
 obtain ⟨ρ,o,A,d,v2,S,φ,hφ,k⟩:=z
 exact k [] [] ρ H A d Grow.refl S rfl hφ
def qWh (tc:TQb) (tb:TQS):TQS:=λρ Z=>∃ (P:DE->Prop) (μ:DE->Nat),P ρ /\ ∀ ρ1,P ρ1->tc ρ1 λb ρ2=>(b=true->tb ρ2 { nx:=λρ3=>P ρ3 /\ μ ρ3 < μ ρ1,rt:=Z.rt }) /\ (b=false->Z.nx ρ2)
def Pe {c:Expr} {body:List Stmt} {tc:TQb} {tb:TQS} (hc:QT Γ l X c tc) (hb:QSs Γ l X body tb) (hp:PassesOwn (model X.prog X.w) X.A X.env X.xe:=by exact PassesOwn.never):QS Γ l X (.While c body [] pos) (qWh tc tb):=λH₀=>impS (Wx hp (hc H₀) (hb H₀)) λDz σ H h=>by
 obtain ⟨ρ,o,A,d,v,S,Z,⟨P,μ,hP,turn⟩,k1,k2,k3,k4⟩:=h
 refine ⟨λm σ' H'=>∃ ρ' o' A' d',ST X.K H₀.1 H' σ' ρ' o' l A' d' v /\ P ρ' /\ μ ρ'=m,⟨_,ρ,o,A,d,S,hP,rfl⟩,?_⟩
 rintro m σ1 H1 ⟨ρ1,o1,A1,d1,S1,p1,rfl⟩
 refine ⟨ρ1,o1,A1,d1,v,S1,_,turn ρ1 p1,λb ρ2 H2 A2 d2 g2 S2 h2=>?_⟩
 cases b with
 | false =>
  rw [if_neg (by decide)]
  exact k1 _ _ _ _ _ _ S2 (h2.2 rfl)
 | true =>
  rw [if_pos rfl]
  refine ⟨λσ' H'=>∃ ρ' o' A' d',ST X.K H₀.1 H' σ' ρ' o' l A' d' v /\ P ρ' /\ μ ρ' < μ ρ1,λσ' H' ⟨ρ',o',A',d',S',p',q'⟩=>⟨_,q',ρ',o',A',d',S',p',rfl⟩,ρ2,o1,A2,d2,v,S2,_,h2.1 rfl,λρ3 σ3 H3 o3 A3 d3 S3 h3=>⟨ρ3,o3,A3,d3,S3,h3.1,h3.2⟩,λ_ _ _ _ _ _ _ q=>q.elim,λ_ _ _ _ _ _ _ q=>q.elim,k4⟩
def Ly (l:Nat) (C:Addr) (f:Str) (tp:TP1) (tf:TF):TQS:=λρ Z=>tf ρ λx=>tp ρ λπ=>∃ d ns ds,slot ρ l=some (dv d) /\ atQ π d=some (.ob C ns ds) /\ ns.length <= 100 /\ f ∉ ns /\ Z.nx (setS ρ l (dv (putQ π d (.ob C (ns ++ [f]) (ds ++ [x])))))
def uk (cl:Cls X.K C) (na:k9 X.K C f) (hp:EPQ Γ l X oe tp) (he:EF Γ l X e tf) (hs:swapsWith e (some (.Attribute oe f pos')) pos.line X.env=pure false:=by rfl):QS Γ l X (.Assign [.Attribute oe f pos'] e pos) (Ly l C f tp tf):=λH₀=>impS (Ny (hp H₀) (he H₀) hs) λDz σ H h=>by
 obtain ⟨ρ,o,A,d,v,S,Z,hZ,k1,k2,k3,k4⟩:=h
 refine ⟨ρ,o,A,d,v,S,_,hZ,λw y B H1 s1 fy nB frB h1=>⟨ρ,o,A,d,v,S.to s1,_,h1,λu π H2 s2 vp h2=>?_⟩⟩
 obtain ⟨d',ns,ds,es,ea,hn,hf,h2⟩:=h2
 have e2:some (dv d')=some (dv d):=by rw [<- es]; exact w8 S.hd
 cases e2
 obtain ⟨u',A1,hv,f1,n1,sub,dm,_⟩:=S.focQ ea
 have s12:=s1.trans s2
 cases (vp.fn (hv.to s12))
 obtain ⟨b,dx,xs,At,rfl,q,ln,nd,rfl,fs⟩:=f1
 have lx:ns.length=xs.length:=by rw [ln,fs.length]
 have fs2:Fts X.K H2 ds xs At:=Fts.keep (Gt.same s12) _ _ _ (λa _ x hx=>s12 _ _ hx) fs
 have fy2:Ft X.K H2 y w B:=Ft.keep (Gt.same s2) _ _ _ (λa _ x hx=>s2 _ _ hx) fy
 have ndc:=List.nodup_cons.mp n1
 have nd3:(ns ++ [f]).Nodup:=by
  rw [List.nodup_append]
  refine ⟨nd,by simp,λa ha c hc e=>?_⟩
  rw [List.mem_singleton.mp hc] at e
  exact hf (e ▸ ha)
 obtain ⟨A',S',g,_⟩:=S.putH (e:=.ob C (ns ++ [f]) (ds ++ [y])) (ho:=.ins C dx ((ns ++ [f]).zip (xs ++ [w]))) (A1':=At ++ B) ea ⟨b,dx,xs,At,rfl,q,ln,nd,rfl,fs⟩ n1 (λu A2 hv2 f2 n2=>by
  cases hv.fn hv2
  exact ⟨rfl,Ft.uniq _ _ _ _ f2 ⟨b,dx,xs,At,rfl,q,ln,nd,rfl,fs⟩⟩) s12 (fs2.app (es:=[y]) (ys:=[w]) ⟨w,[],B,[],rfl,by simp,fy2,rfl,rfl⟩) (by
   rw [List.nodup_append]
   refine ⟨ndc.2,nB,λa ha c hc e=>?_⟩
   subst e
   exact dm a (zal _ ha) (frB a hc)) (λa ha=>(zas.mp ha).imp id (frB a)) (λ_ z=>by cases z) (λ_ _ z=>by cases z) (λH' hb f'=>⟨b,dx,_,_,rfl,hb,by rw [zLa,zLa,ln]; rfl,nd3,rfl,f'⟩)
 refine ⟨b,C,dx,_,rfl,s12 _ _ q,cl,na,by rw [List.length_zip]; omega,?_⟩
 rw [Wv hf lx]
 exact k1 _ _ _ _ _ _ S' h2
end
def si {x qual m:Str} {st:Stmt} {f:Addr} {fd:FuncData} {N ps:List Str} {k:Nat} {T:FTQ} {C:Addr} {ns:List Str} (F:Fun K x qual st f fd) (S:zw N ps (ze st)) (b:Binds K fd ps []) (hm:Meth K C m f) (no:m ∉ ns)
  (qY:∀ (qZ:Value) (A:Around) (outer:List Env) (s:Shared) (H:Hp) (E:XK) (d:D) (ds:List D) (φ:D->D->Prop),Room k (A.deeper (envOfC qual (ze st) s.heap.objs.size f qZ))->ds.length + 1=ps.length->T d ds φ ->
   ∃ t,QSs (λ_=>True) 0 (cxOf CX0 P w K mg base N qual (ze st) f qZ A outer s H E).nox (yq st) t /\ t (wc N.length (d :: ds)) { nx:=λρ=>∃ d',slot ρ 0=some (dv d') /\ φ .non d',rt:=λr ρ=>∃ d',slot ρ 0=some (dv d') /\ φ r d' }):FM P w K mg base (k + 1) C ns m ps T:=by
 refine ⟨⟨f,fd,F.ok S (λvs H Q E h=>?_) (λqZ A outer s H vs Q E hr h=>?_),b,hm⟩,no⟩
 ·obtain ⟨d,ds,v,ws,A,φ,rfl,hl,_,_,r,_⟩:=h
  rw [zLc,r.length,hl]
 ·obtain ⟨d,ds,v,ws,Af,φ,rfl,hl,ft,nd,r,hT,kk⟩:=h
  obtain ⟨t,ht,hq⟩:=qY qZ A outer s H E d ds φ hr hl hT
  have R0:=qi (N:=N) (ds:=d :: ds) (vs:=v :: ws) (H:=H) ⟨v,ws,rfl,Ft.rep _ _ _ (λa _ z=>by cases z) ft,Reps.sub (λa ha=>by cases ha) _ _ r⟩
  have s0:=uh Af H
  have S0:ST K (wl Af H) H (ZZ.start N (v :: ws)) (wc N.length (d :: ds)) [] 0 Af d v:=by
   refine ⟨⟨s0,λp hp=>?_,λp hp=>?_,λp hp=>?_,?_,λi q e=>?_,?_⟩,rfl,rfl,ft⟩
   ·obtain ⟨a,ha,rfl⟩:=zah.mp (show p ∈ tg 0 Af from hp)
    exact vq ha
   ·obtain ⟨a,ha,rfl⟩:=zah.mp (show p ∈ tg 0 Af from hp)
    obtain ⟨u,hu,_⟩:=Ft.dom _ _ _ ft a ha
    exact ⟨u,hu⟩
   ·obtain ⟨a,ha,rfl⟩:=zah.mp (show p ∈ tg 0 Af from hp)
    obtain ⟨u,hu,n1,n2⟩:=Ft.dom _ _ _ ft a ha
    refine ⟨λxs z=>?_,λob w z=>?_⟩
    ·rw [hu] at z; cases z; exact n1 _ rfl
    ·rw [hu] at z; cases z; exact n2 _ _ rfl
   ·rw [wa]; exact nd
   ·obtain ⟨hi,e⟩:=qu e
    rw [wa]
    cases i with
    | zero=>exact absurd rfl hi
    | succ i =>
     have e':((ds.map λd=>some (dv d)) ++ List.replicate (N.length - (d :: ds).length) none)[i]?=some (some q):=e
     rcases Nat.lt_or_ge i ds.length with hi | hi
     ·rw [List.getElem?_append_left (by simpa using hi),zai] at e'
      have ed:ds[i]?=some ds[i]:=by simp [hi]
      rw [ed] at e'
      have e2:some (dv ds[i])=some q:=Option.some.inj e'
      cases e2
      obtain ⟨u,eu,ru⟩:=r.get ed
      refine ⟨u,?_,.inl ⟨rfl,ru⟩⟩
      unfold ZZ.start
      show ((ws.map some) ++ _)[i]?=_
      rw [List.getElem?_append_left (by rw [zLm,r.length]; exact hi),zai,eu]
      rfl
     ·rw [List.getElem?_append_right (by simpa using hi),List.getElem?_replicate] at e'
      split at e' <;> cases e'
   ·rw [ue,List.length_set]; exact R0.len
  have fin:∀ u e d' ρ' σ' H' o' A' d2,ST K (wl Af H) H' σ' ρ' o' 0 A' d2 v->zk e->Rep K H' [] e u->slot ρ' 0=some (dv d')->φ e d'->Q u H':=λu e d' ρ' σ' H' o' A' d2 S' pe re es h=>by
   have e2:some (dv d2)=some (dv d'):=by
    rw [<- es]
    exact (w8 S'.hd).symm
   cases e2
   have kp:∀ b x,H b=some x->b ∉ Af->H' b=some x:=λb x hb hn=>S'.Q.same b x (by rw [xo hn]; exact hb)
   refine kk u e d' H' A' ⟨λb x hb hn=>⟨kp b x hb hn,λz=>?_⟩,λb xs hb=>kp b _ hb λz=>?_,λb ob w hb=>kp b _ hb λz=>?_⟩ S'.ft S'.ndA (λa ha=>?_) pe re h
   ·have:=S'.frA b z
    rw [xo hn,hb] at this
    cases this
   ·obtain ⟨w,hw,n1,_⟩:=Ft.dom _ _ _ ft b z
    rw [hb] at hw
    cases hw
    exact n1 _ rfl
   ·obtain ⟨w',hw,_,n2⟩:=Ft.dom _ _ _ ft b z
    rw [hb] at hw
    cases hw
    exact n2 _ _ rfl
   ·have:=S'.frA a ha
    by_cases hA:a ∈ Af
    ·exact .inl hA
    ·rw [xo hA] at this
     exact .inr this
  refine ⟨Sv K (wl Af H) 0 t,ht ⟨wl Af H,trivial⟩,wc N.length (d :: ds),[],Af,d,v,S0,_,hq,λρ' σ' H' o' A' d2 S' ⟨d',es,h'⟩=>?_,λ_ _ _ _ _ _ _ q=>q.elim,λ_ _ _ _ _ _ _ q=>q.elim,λu e ρ' σ' H' o' A' d2 S' pe re ⟨d',es,h'⟩=>fin u e d' ρ' σ' H' o' A' d2 S' pe re es h'⟩
  exact fin .non .non d' ρ' σ' H' o' A' d2 S' trivial rfl es h'
def Ps:typeLookup (.type "zip") "keys" = pure none:=am_miss_of_fast (by kernel_rfl)
def dh:typeLookup (.type "zip") "__getattr__" = pure none:=am_miss_of_fast (by kernel_rfl)
def gm:entryFor table "zip.__getattribute__" = some Builtin.«object.__getattribute__»:=entryFor_alias (id':="object.__getattribute__") (by kernel_rfl) (by decide +kernel) (by decide +kernel) (by kernel_rfl)
def So (a:Addr) (fs:Array Value) (u:Tok):Meets (Builtin.«object.__getattribute__» ⟨[.ref a,.str "keys" u],[]⟩) (λA R s=>s.heap.get? a=some { cls:=.type "zip", dict:=none,data:=.fields fs,slots:=#[] } /\ raisesAttr (.ref a) "keys" A R s) :=
 Meets.of_wp λP w A R s hs=>by
  obtain ⟨hp,g,d,tk,os⟩:=s
  obtain ⟨hx,hs⟩:=hs
  have hT:(⟨hp,g,d,tk,os⟩:Shared).TypeIs (.ref a) "zip":=⟨_,hx,rfl⟩
  have hm:=Ps
  unfold Builtin.«object.__getattribute__»
  repeat (any_goals (first | exact hT | exact hm | assumption | wp_step))
  exact wpAny_raiseAttrError hs.1 hs.2 (attrMsg_fits (by decide +kernel) (by size_fits))
def ra1 {a:Addr} {fs:Array Value} {Q:Option Value->Shared->Prop} (hx:s.heap.get? a=some { cls:=.type "zip", dict:=none,data:=.fields fs,slots:=#[] }) (hA:A.handled=none)
  (h:∀ g tk,(∀ b u,s.heap.get? b=some u->g.get? b=some u)->Q none { s with heap:=g,toks:=tk }):wpAny (model P w) A (getAttr? (.ref a) "keys") Q E s:=by
 obtain ⟨hp,g,d,tk,os⟩:=s
 have hT:∀ tk',(⟨hp,g,d,tk',os⟩:Shared).TypeIs (.ref a) "zip":=λ_=>⟨_,hx,rfl⟩
 have f1:=sub_AttributeError
 have f3:=F.slot_zip_getattribute.lookup
 have f4:=F.slot_zip_getattribute.bind (.ref a)
 have f5:=dh
 unfold getAttr? getAttrBy? getAttrBy
 repeat (any_goals (first | assumption | exact hT _ | ((with_reducible show wpAny _ _ (call (Value.builtin "zip.__getattribute__") _ _) _ _ _); refine call_meets F.slot_zip_getattribute (hT _) gm (F.args_zip_getattribute_2 _ _) (So a fs _) ⟨hx,hA,λh' tk' e hx'=>?_⟩) | wp_step))
 obtain ⟨t',u',he⟩:=hx'.there
 have hE:∀ tk'',(⟨h',g,d,tk'',os⟩:Shared).TypeIs (.ref e) "AttributeError":=λ_=>⟨_,he,rfl⟩
 show wpAny _ _ (getattributeRaised _ _ _ _ _ _ _) _ _ _
 unfold getattributeRaised
 repeat (any_goals (first | assumption | exact hE _ | wp_step))
 exact h _ _ hx'.keeps
section
variable {R:Result->Shared->Prop} {b1 b2:Bool} {d z ti to i1 i2 l1 l2:Addr} {xs ys:Array Value} {h0:Heap}
def Vu {more:List (Key × Value)} (hh:A.handled=none) (D:ZZ.ZNe z ti to i1 i2) (d1:ZZ.ZOff z to i1 i2 l1) (d2:ZZ.ZOff z to i1 i2 l2) (lz:z < d) (lti:ti < d) (lto:to < d) (li1:i1 < d) (li2:i2 < d) (nl1:l1 ≠ d) (nl2:l2 ≠ d) (hxy:xs.size=ys.size) (hml:more.length=xs.size) (hn:xs.size <= 1000) (hnd:(more.map (·.1)).Nodup)
  (hv:∀ (i:Nat) x y,xs[i]?=some x->ys[i]?=some y->∃ k t,x=.str k t /\ more[i]?=some (Sum.inr k,y)) :
  ∀ (k i:Nat) (s:Shared) (tk:Tok) (as:List Addr),xs.size - i=k->i <= xs.size->as.length=i->ZZ.ZS b1 b2 z ti to i1 i2 l1 l2 as i s.heap->ZZ.PairsZ s.heap xs ys d as->ZZ.SqAt b1 s.heap l1 xs->ZZ.SqAt b2 s.heap l2 ys ->
   (∀ b o,b ≠ d->ZZ.ZOff z to i1 i2 b->h0.get? b=some o->s.heap.get? b=some o)->s.heap.DictOf (yt P w) d (more.take i) ->
   (∀ g tk,g.DictOf (yt P w) d more->(∀ b o,b ≠ d->ZZ.ZOff z to i1 i2 b->h0.get? b=some o->g.get? b=some o)->R (.ok (.ret .none)) { s with heap:=g,toks:=tk }) ->
   codeAny (model P w) A (.builtin "dict.update.loop" ⟨[.ref d,.ref z,.int i tk,.none],[]⟩) R s:=by
 have offd:ZZ.ZOff z to i1 i2 d:=⟨Nat.ne_of_gt lz,Nat.ne_of_gt lto,Nat.ne_of_gt li1,Nat.ne_of_gt li2⟩
 have offa:∀ {a:Addr},d < a->ZZ.ZOff z to i1 i2 a:=λ{a} q=>⟨Nat.ne_of_gt (Nat.lt_trans lz q),Nat.ne_of_gt (Nat.lt_trans lto q),Nat.ne_of_gt (Nat.lt_trans li1 q),Nat.ne_of_gt (Nat.lt_trans li2 q)⟩
 have hh1:A.in1.handled=none:=by simpa using hh
 intro k
 induction k with
 | zero =>
  intro i s tk as hk hi la Z pa t1 t2 hold q hR
  have e:i=xs.size:=by omega
  refine codeAny_builtin u4 ?_
  rw [Around.under_plainId xv _]
  show wpAny _ A.in1 (pyNext (.ref z) >>= _) _ _ s
  refine zaa (Jw hh1 D d1 d2 Z pa t1 t2 (by rw [e]; simp) λg kp=>?_)
  show wpAny _ A.in1 (Builtin.Dict.addKeywords d [] >>= _) _ _ _
  refine zaa (zab (zab (hR g s.toks ?_ λb o h1 h2 e=>kp b o h2 (hold b o h1 h2 e))))
  rw [List.take_of_length_le (by omega)] at q
  obtain ⟨o,es,ep,ho,mm⟩:=q
  exact ⟨o,es,ep,kp d o offd ho,mm⟩
 | succ k ih =>
  intro i s tk as hk hi la Z pa t1 t2 hold q hR
  have lt:i < xs.size:=by omega
  have ex:xs[i]?=some xs[i]:=by simp [lt]
  have ey:ys[i]?=some (ys[i]'(by omega)):=by simp [show i < ys.size by omega]
  obtain ⟨x,t,hx,hm⟩:=hv i _ _ ex ey
  obtain ⟨u,hu⟩:∃ u,u=ys[i]'(by omega):=⟨_,rfl⟩
  rw [<- hu] at ey hm
  rw [hx] at ex
  refine codeAny_builtin u4 ?_
  rw [Around.under_plainId xv _]
  show wpAny _ A.in1 (pyNext (.ref z) >>= _) _ _ s
  refine zaa (Mz D d1 d2 Z pa t1 t2 ex ey λg Z2 pr kp=>?_)
  have ld:d < s.heap.objs.size:=by obtain ⟨o,_,_,ho,_⟩:=q; exact zae ho
  have q2:g.DictOf (yt P w) d (more.take i):=by
   obtain ⟨o',es,ep,ho',mm⟩:=q
   exact ⟨o',es,ep,kp d o' offd ho',mm⟩
  have hnew:(Sum.inr x:Key) ∉ (more.take i).map (·.1):=by
   have e:more.take (i + 1)=more.take i ++ [(Sum.inr x,u)]:=by rw [List.take_succ,hm]; rfl
   have h4:((more.take (i + 1)).map (·.1)).Nodup:=hnd.sublist ((List.take_sublist _ _).map _)
   rw [e,zMa,List.nodup_append] at h4
   intro z
   exact h4.2.2 _ z (Sum.inr x) (by simp) rfl
  have pa2:ZZ.PairsZ g xs ys d (as ++ [s.heap.objs.size]):=(pa.to λa o ha e=>kp a o (offa (pa.1 a ha)) e).snoc ld (λm=>Nat.lt_irrefl _ (pa.lt m)) (by rw [la]; exact ex) (by rw [la]; exact ey) pr
  show wpAny _ A.in1 (holding [Value.ref s.heap.objs.size] _ >>= _) _ _ _
  refine zaa (wpAny_holding (zaa (wpAny_tryCatch ?_)))
  unfold Builtin.Dict.pairItems
  refine zaa (wpAny_typeOf (s:={ s with heap:=g }) ⟨_,pr,rfl⟩ ?_)
  rw [if_pos (by decide)]
  refine zaa (wpAny_seqItems (s:={ s with heap:=g }) pr rfl (zab ?_))
  show wpAny _ A.in1 (holding [Value.str x t,u] (dictSet d (.str x t) u)) _ _ _
  refine wpAny_holding (wpAny_dictSet_pairs (s:={ s with heap:=g }) (knd:=yt P w) (k:=Sum.inr x) (jb P w x t) q2 (λg2 q3 sb=>?_) (by rw [List.length_take]; exact zak (Nat.min_le_left _ _) (zak hi (zak hn (by decide)))))
  refine zab ⟨plainId_quiet xv _,?_⟩
  rw [gy hnew,show more.take i ++ [((Sum.inr x:Key),u)]=more.take (i + 1) by rw [List.take_succ,hm]; rfl] at q3
  show codeAny (model P w) A (.builtin "dict.update.loop" ⟨[.ref d,.ref z,.int ((i:Int) + 1) _,.none],[]⟩) R _
  have ei:((i:Int) + 1)=((i + 1:Nat):Int):=by omega
  rw [ei]
  refine ih (i + 1) _ _ (as ++ [s.heap.objs.size]) (by omega) lt (by rw [zLa,la]; rfl) (Z2.to λc o hc e=>sb.extBut c o (λz=>?_) e) (pa2.to λa o ha e=>sb.extBut a o (Nat.ne_of_gt (pa2.1 a ha)) e) ((t1.at λo e=>kp _ o d1 e).at λo e=>sb.extBut _ o nl1 e) ((t2.at λo e=>kp _ o d2 e).at λo e=>sb.extBut _ o nl2 e)
   (λb o' h1 h2 e=>sb.extBut b o' h1 (kp b o' h2 (hold b o' h1 h2 e))) q3 λg3 tk3 q4 k4=>hR g3 tk3 q4 k4
  subst z
  rcases hc with rfl | rfl | rfl | rfl | rfl
  ·exact Nat.lt_irrefl _ lz
  ·exact Nat.lt_irrefl _ lti
  ·exact Nat.lt_irrefl _ lto
  ·exact Nat.lt_irrefl _ li1
  ·exact Nat.lt_irrefl _ li2
end
variable {b1 b2:Bool} {z ti to i1 i2 l1 l2:Addr} {xs ys:Array Value}
def dict_zip {more:List (Key × Value)} {Q:Value->Shared->Prop} (hh:A.handled=none) (D:ZZ.ZNe z ti to i1 i2) (d1:ZZ.ZOff z to i1 i2 l1) (d2:ZZ.ZOff z to i1 i2 l2) (Z:ZZ.ZAt b1 b2 s.heap z ti to i1 i2 l1 l2 .none 0) (t1:ZZ.SqAt b1 s.heap l1 xs) (t2:ZZ.SqAt b2 s.heap l2 ys)
  (hxy:xs.size=ys.size) (hml:more.length=xs.size) (hn:xs.size <= 1000) (hnd:(more.map (·.1)).Nodup) (hv:∀ (i:Nat) x y,xs[i]?=some x->ys[i]?=some y->∃ k t,x=.str k t /\ more[i]?=some (Sum.inr k,y))
  (h:∀ g tk,g.DictOf (yt P w) s.heap.objs.size more->(∀ b o,ZZ.ZOff z to i1 i2 b->s.heap.get? b=some o->g.get? b=some o)->Q (.ref s.heap.objs.size) { s with heap:=g,toks:=tk }):wpAny (model P w) A (call (.type "dict") [.ref z]) Q E s:=by
 refine callType_codes (Q₁:=λobj y=>obj=.ref s.heap.objs.size /\ y={ s with heap:=s.heap.push { cls:=.type "dict", data:=.dict #[] } }) F.kt_called_dict (F.kt_typeCall_dict_1 _) F.entry_dict_init (kt_code_dict_new _ ⟨rfl,rfl⟩) ?_
 rintro obj y ⟨rfl,rfl⟩
 obtain ⟨zz,its,⟨oa,ob,out⟩,one,two⟩:=id Z
 have lz:z < s.heap.objs.size:=zae zz
 have lti:ti < s.heap.objs.size:=zae its
 have lto:to < s.heap.objs.size:=zae out
 have li:∀ {b:Bool} {it l:Addr} {i:Nat},ZZ.ItAt b s.heap it l i->it < s.heap.objs.size:=λ{b it l i} q=>by
  cases b with
  | true=>obtain ⟨o,e,_⟩:=(show s.heap.IsTupleIter it l i from q); exact zae e
  | false=>obtain ⟨o,e,_⟩:=(show s.heap.IsListIter it l i from q); exact zae e
 have ls:∀ {b:Bool} {l:Addr} {xs:Array Value},ZZ.SqAt b s.heap l xs->l < s.heap.objs.size:=λ{b l xs} q=>by
  cases b with
  | true=>obtain ⟨o,e,_⟩:=(show s.heap.IsTuple l xs from q); exact zae e
  | false=>obtain ⟨o,e,_⟩:=(show s.heap.IsList l xs from q); exact zae e
 have new:(s.heap.push { cls:=.type "dict", data:=.dict #[] }).DictOf (yt P w) s.heap.objs.size []:=Heap.DictOf.new s.heap
 have kp1:∀ b u,s.heap.get? b=some u->(s.heap.push { cls:=.type "dict", data:=.dict #[] }).get? b=some u:=λb u e=>zac _ e
 have zz1:=kp1 z _ zz
 have ty1:Shared.TypeIs { s with heap:=s.heap.push { cls:=.type "dict", data:=.dict #[] } } (.ref z) "zip":=⟨_,zz1,rfl⟩
 refine ⟨new.typeIs,F.args_dict_init_2 _ _,?_⟩
 unfold Builtin.«dict.__init__»
 refine zaa ?_
 unfold Builtin.Dict.selfAndRest
 refine zaa (wpAny_notOrdered_dict new.typeIs ?_)
 show wpAny _ _ (pure (s.heap.objs.size,[Value.ref z])) _ _ _
 refine zab ?_
 show wpAny _ _ (Builtin.Dict.updateFrom "dict.__init__" s.heap.objs.size (.ref z) [] .none) _ _ _
 unfold Builtin.Dict.updateFrom
 refine zaa (wpAny_typeOf ty1 ?_)
 rw [if_pos (by decide)]
 refine zaa (ra1 zz1 (by simpa using hh) λg tk kp2=>?_)
 rw [if_pos (show (Option.none:Option Value).isNone=true from rfl)]
 have up:∀ b o,s.heap.get? b=some o->g.get? b=some o:=λb o e=>kp2 b o (kp1 b o e)
 refine zaa (wpAny_rule (zaa (wpAny_pyIter_zip (s:={ s with heap:=g,toks:=tk }) (up z _ zz) ?_)))
 refine zab ⟨plainId_quiet xv _,?_⟩
 have q0:g.DictOf (yt P w) s.heap.objs.size []:=by
  obtain ⟨o,es,ep,ho,mm⟩:=new
  exact ⟨o,es,ep,kp2 _ _ ho,mm⟩
 refine Vu (h0:=s.heap) (b1:=b1) (b2:=b2) (ys:=ys) (by simpa using hh) D d1 d2 lz lti lto (li one) (li two) (Nat.ne_of_lt (ls t1)) (Nat.ne_of_lt (ls t2)) hxy hml hn hnd hv xs.size 0 _ _ [] (Nat.sub_zero _) (Nat.zero_le _) rfl
  (.inl ⟨rfl,up _ _ zz,up _ _ its,⟨oa,ob,up _ _ out⟩,one.at λo e=>up _ o e,two.at λo e=>up _ o e⟩) ⟨(λ_ q=>nomatch q),List.nodup_nil,λj a e=>by simp at e⟩ (t1.at λo e=>up _ o e) (t2.at λo e=>up _ o e) (λb o _ _ e=>up b o e) q0 λg2 tk2 q2 k2=>?_
 exact ⟨rfl,h g2 tk2 q2 λb o q e=>k2 b o (Nat.ne_of_lt (zae e)) q e⟩
def Qx (K:W.Frag) (ta:TA):TE:=λσ H Q=>ta σ H λvs H1=>∃ b1 b2 l1 l2 xs ys,∃ zs:List Str,vs=[.ref l1,.ref l2] /\ SqK b1 K H1 l1 xs /\ SqK b2 K H1 l2 ys /\ xs=zs.map V.str /\ xs.length=ys.length /\ xs.length <= 1000 /\ zs.Nodup /\
 ∀ l,H1 l=none->Q (.ref l) (upd H1 l (.dK ((zs.map Sum.inr).zip ys)))
def U2 {X:Cx} {a b:Expr} {ta:TA} {p p2 pos pos2:Pos} (hc:X.calm=true) (hg:Gl X "dict") (hm:X.mg "dict" = none) (hg2:Gl X "zip") (hm2:X.mg "zip" = none) (ha:PA X [a,b] ta)
  (h1:starEach [.Call (.Name "zip" p2) [a,b] [] pos2] X.env=(false,eval (.Call (.Name "zip" p2) [a,b] [] pos2) X.env) :: starEach [] X.env:=by rfl)
  (he:starEach [a,b] X.env=(false,eval a X.env) :: starEach [b] X.env:=by rfl) (hpl:(backTo pos2 (starEach [b] X.env)).any (·.1)=false:=by rfl) :
  PE X (.Call (.Name "dict" p) [.Call (.Name "zip" p2) [a,b] [] pos2] [] pos) (Qx X.K ta):=by
 intro pn s σ H Q I h
 refine wpAny_Call_Name_kw (k5 I hg hm ZZ.boot_dict' ?_ (by decide) (by decide))
 refine PyProof.Rows.callWith_type1 ?_ h1 (by rfl)
 rw [h1]
 show wpAny _ _ (spliced ((false,eval _ X.env) :: backTo pos (starEach [] X.env))) _ _ s
 refine Calls.spliced_cons ?_
 refine wpAny_Call_Name_kw (k5 I hg2 hm2 Yr ?_ (by decide) (by decide))
 refine PyProof.Rows.callWith_type1 (thn (ha pos2 pn s σ H _ I h) λus s1 ⟨vs,H1,I1,r1,b1,b2,l1,l2,xs,ys,zs,e,e1,e2,ez,hl,hn,nd,q⟩=>?_) he hpl
 subst e
 obtain ⟨u,v,rfl,ru,rv⟩:=Qm r1
 cases ru
 cases rv
 obtain ⟨its1,r1,g1⟩:=Ze I1 e1
 obtain ⟨its2,r2,g2⟩:=Ze I1 e2
 refine Wd (xs:=its1.toArray) (ys:=its2.toArray) g1 g2 λg Z kp=>Calls.spliced_nil ?_
 have D:ZNe (s1.heap.objs.size + 4) (s1.heap.objs.size + 2) (s1.heap.objs.size + 3) s1.heap.objs.size (s1.heap.objs.size + 1):=by
  constructor <;> (intro z; exact absurd (show (_:Nat)=_ from z) (by omega))
 have off:∀ {c:Addr},c < s1.heap.objs.size->ZOff (s1.heap.objs.size + 4) (s1.heap.objs.size + 3) s1.heap.objs.size (s1.heap.objs.size + 1) c:=λ{c} q=>⟨Nat.ne_of_lt (Nat.lt_of_lt_of_le q (Nat.le_add_right _ _)),Nat.ne_of_lt (Nat.lt_of_lt_of_le q (Nat.le_add_right _ _)),Nat.ne_of_lt q,Nat.ne_of_lt (Nat.lt_of_lt_of_le q (Nat.le_add_right _ _))⟩
 have lts:∀ {b:Bool} {l:Addr} {its:List Value},SqAt b s1.heap l its.toArray->l < s1.heap.objs.size:=λ{b l its} q=>by
  cases b with
  | true=>obtain ⟨o,e,_⟩:=(show s1.heap.IsTuple _ _ from q); exact zae e
  | false=>obtain ⟨o,e,_⟩:=(show s1.heap.IsList _ _ from q); exact zae e
 have big:s1.heap.objs.size + 4 < g.objs.size:=zae Z.zz
 have n1:=r1.length
 have n2:=r2.length
 have hb:=I1.big
 have ex:∀ (zs:List Str) (its1 its2:List Value) (ys:List V),Vals (zs.map V.str) its1->Vals ys its2->zs.length=ys.length->∃ more:List (Key × Value),KV ((zs.map (Sum.inr:Str->Key)).zip ys) more /\ more.length=its1.length /\ more.map (·.1)=zs.map (Sum.inr:Str->Key) /\
   ∀ (i:Nat) x y,its1[i]?=some x->its2[i]?=some y->∃ k t,x=.str k t /\ more[i]?=some (Sum.inr k,y):=by
  intro zs
  induction zs with
  | nil =>
   intro its1 its2 ys r1 r2 l
   cases r1
   cases ys with
   | nil=>exact ⟨[],.nil,rfl,rfl,λi x y e=>by simp at e⟩
   | cons _ _=>simp at l
  | cons zt zs ih =>
   intro its1 its2 ys r1 r2 l
   cases ys with
   | nil=>simp at l
   | cons y ys =>
    cases r1 with
    | cons h1 t1 =>
     cases r2 with
     | cons h2 t2 =>
      obtain ⟨more,k1,k2,k3,k4⟩:=ih _ _ ys t1 t2 (by simpa using l)
      obtain ⟨tt,rfl⟩:=h1
      rename_i u2 _
      refine ⟨(Sum.inr zt,u2) :: more,.cons ⟨rfl,h2⟩ k1,by simp [k2],by simp [k3],λi x y' e e'=>?_⟩
      cases i with
      | zero =>
       simp at e e'
       subst e e'
       exact ⟨zt,tt,rfl,rfl⟩
      | succ i =>
       obtain ⟨k,t,e3,e4⟩:=k4 i x y' (by simpa using e) (by simpa using e')
       exact ⟨k,t,e3,by simpa using e4⟩
 subst ez
 obtain ⟨more,k1,k2,k3,k4⟩:=ex zs its1 its2 ys r1 r2 (by simpa using hl)
 rw [zLm] at hn n1 hl
 refine ZZ.dict_zip (s:={ s1 with heap:=g }) (A:=X.A) (more:=more) (I1.ok.hd hc) D (off (lts g1)) (off (lts g2)) Z (g1.at λo e=>kp _ o e) (g2.at λo e=>kp _ o e) (by rw [zap,zap]; omega) (by rw [zap]; exact k2) (by rw [zap]; omega) (by
   rw [k3]
   exact List.Pairwise.map _ (λa b h e=>h (Sum.inr.inj e)) nd) (λi x y e e'=>k4 i x y (by simpa using e) (by simpa using e')) λh' tk qd keep=>?_
 dsimp only at keep qd ⊢
 have keep':∀ b o,s1.heap.get? b=some o->h'.get? b=some o:=λb o e=>keep b o (off (zae e)) (kp b o e)
 have gb:(s1.heap.objs.size:Nat) <= g.objs.size:=by have:(s1.heap.objs.size + 4:Nat) < g.objs.size:=big; omega
 have fr:H1 g.objs.size=none:=I1.hok.fresh gb
 refine ⟨.ref g.objs.size,_,I1.laid (o:=.dK ((zs.map Sum.inr).zip ys)) (t':=tk) keep' gb ?_,rfl,q _ fr⟩
 have lk:=k1.length
 exact Q1 (by rw [lk,k2,<- n1]; exact zak hn (by decide)) (by simpa using Nat.ne_of_gt (Nat.lt_of_lt_of_le hb gb)) k1 qd
variable {oe:Expr} {t:TDs} {pos2:Pos}
def Ms (t:TDs):TD:=λρ φ=>t ρ λrs=>∃ (zs:List Str) (ds:List D),(match rs with
 | [r1,r2]=>(r1.d=.lst (zs.map D.str) \/ r1.d=.tup (zs.map D.str)) /\ (r2.d=.lst ds \/ r2.d=.tup ds)
 | _=>False) /\ zs.length=ds.length /\ zs.length <= 1000 /\ zs.Nodup /\ φ (df (.dk (zs.map Sum.inr) ds))
def Us {K:W.Frag} {H:Hp} {O:List Addr} {d:D} {v:V} {ds:List D} (h:View K H O d v) (e:d=.lst ds \/ d=.tup ds):∃ b l xs,v=.ref l /\ SqK b K H l xs /\ Reps K H O ds xs:=by
 rcases e with rfl | rfl
 ·obtain ⟨a,xs,rfl,q,r⟩:=h
  exact ⟨false,a,xs,rfl,SqL.of q,r⟩
 ·obtain ⟨a,xs,rfl,q,r⟩:=h
  exact ⟨true,a,xs,rfl,q.1,r⟩
def Vj (hm:X.mg "dict" = none) (hm2:X.mg "zip" = none) (ha:EA Γ X [a,b] t) (hc:X.calm=true:=by rfl) (hg:Gl X "dict":=by rfl) (hg2:Gl X "zip":=by rfl)
  (h1:starEach [.Call (.Name "zip" p2) [a,b] [] pos2] X.env=(false,eval (.Call (.Name "zip" p2) [a,b] [] pos2) X.env) :: starEach [] X.env:=by rfl)
  (he:starEach [a,b] X.env=(false,eval a X.env) :: starEach [b] X.env:=by rfl) (hpl:(backTo pos2 (starEach [b] X.env)).any (·.1)=false:=by rfl) :
  ED Γ X (.Call (.Name "dict" p) [.Call (.Name "zip" p2) [a,b] [] pos2] [] pos) (Ms t):=λH₀ =>
 impE (U2 hc hg hm hg2 hm2 (ha H₀) h1 he hpl) λσ H Q q=>by
  obtain ⟨ρ,oo,R,φ,hφ,kk⟩:=q
  refine ⟨ρ,oo,R,_,hφ,λvs rs H1 s1 rvs h1=>?_⟩
  obtain ⟨zs,ds,h0,hl,hn,nd,h1⟩:=h1
  split at h0
  ·rename_i r1 r2
   obtain ⟨v1,ws,rfl,rv1,v2,ws2,rfl,rv2,e⟩:=rvs
   cases (show ws2=[] from e)
   obtain ⟨b1,l1,xs,rfl,q1,rp1⟩:=Us rv1.view h0.1
   obtain ⟨b2,l2,ys,rfl,q2,rp2⟩:=Us rv2.view h0.2
   have ex:=Zh rp1
   have m2:=rp2.length
   refine ⟨b1,b2,l1,l2,xs,ys,zs,rfl,q1,q2,ex,by rw [ex,zLm]; omega,by rw [ex,zLm]; exact hn,nd,λp hp=>?_⟩
   have n:=yc hp (HO.dK ((zs.map Sum.inr).zip ys))
   refine kk (.ref p) (df (.dk (zs.map Sum.inr) ds)) _ (s1.trans n) ⟨p,rfl,s1.free hp,R.ofree (s1.free hp),ys,zy,by rw [zLm]; exact hl,List.Pairwise.map _ (λa b h e=>h (Sum.inr.inj e)) nd,Reps.grow (bg hp) _ _ rp2⟩ h1
  ·exact h0.elim
def Nw (l j:Nat) (tp:TP1) (te:TD):TQS:=λρ Z=>tp ρ λπ=>∃ d ks ds,slot ρ l=some (dv d) /\ atQ π d=some (.dk ks ds) /\ j < ρ.length /\ te (hid j ρ) λr=>match r with
 | ⟨.fre,.dk ks2 ds2⟩=>zn ds2 /\ ks.length + ks2.length <= 1000 /\ (ks ++ ks2).Nodup /\ Z.nx (hid j (setS ρ l (dv (putQ π d (.dk (ks ++ ks2) (ds ++ ds2))))))
 | _=>False
def Pf (j:Nat) (hj:j ≠ l) (hN:X.N.Nodup) (hp:EPQ Γ l X oe tp) (he:ED Γ X e te) (hi:X.N[j]?=some x:=by rfl) (hx:Loc X.env.scope x:=by first | exact Or.inl rfl | exact Or.inr rfl)
  (hs:swapsWith oe (some (.Name x pos')) pos.line X.env=pure false:=by rfl) (hf:X.fn x=true \/ X.env.scope.names.lookup x=some .local:=by first | exact .inl rfl | exact .inr rfl | assumption)
  (hv:Vis X.env.scope x:=by walk_at "o") (hd:(x == ("__debug__" : Str))=false:=by decide) (hcd:(x == ("__classdict__" : Str))=false:=by decide)
  (hpp:∀ {ta tb:TE},PE X (.Name x np) ta->PE X e tb->PS X (.Expr (.Call (.Attribute (.Name x np) "update" apos) [e] [] cpos) pos2) (dt (Hh ta tb)):=by
   intro ta tb h1 h2
   exact ww (Ke h1 h2 ⟨rfl,rfl,rfl,rfl⟩)) :
  QSs Γ l X [.Assign [.Name x pos'] oe pos,.Expr (.Call (.Attribute (.Name x np) "update" apos) [e] [] cpos) pos2] (Nw l j tp te):=λH₀ =>
 jk (xu (su hN hi hx (hp H₀) hs hf) (qk (hpp (wq hi hv hd hcd) (he H₀)))) λDz σ H h=>by
  obtain ⟨ρ,o,A,d,v,S,Z,hZ,k1,k2,k3,k4⟩:=h
  refine ⟨ρ,o,A,d,v,S,_,hZ,λu π H1 s1 vp h1=>?_⟩
  obtain ⟨d',ks,ds,es,ea,hjl,h1⟩:=h1
  have e2:some (dv d')=some (dv d):=by rw [<- es]; exact w8 S.hd
  cases e2
  have S1:=(S.to s1).letgo hj u
  have sl:σ.length=ρ.length:=S.R.len
  obtain ⟨u',A1,hv1,f1,n1,sub,dm,_⟩:=S1.focQ ea
  cases vp.fn hv1
  obtain ⟨b,xs,At,rfl,q,ln,nd,rfl,fs⟩:=f1
  have xl:ks.length=xs.length:=by rw [ln,fs.length]
  refine ⟨.ref b,List.getElem?_set_self (by omega),b,_,rfl,q,hid j ρ,o,S1.R,_,h1,λw r H2 s2 rv h2=>?_⟩
  split at h2
  ·rename_i ks2 ds2
   obtain ⟨pd,hlen,hnd,h2⟩:=h2
   obtain ⟨c,rfl,mc,nc,ys,qc,ln2,nd2,rc⟩:=rv
   have yl:ks2.length=ys.length:=by rw [ln2,rc.length]
   have hne:b ≠ c:=λz=>by
    subst z
    rw [q] at mc
    cases mc
   have fs2:Fts X.K H2 ds xs At:=Fts.keep (Gt.same s2) _ _ _ (λa _ x hx=>s2 _ _ hx) fs
   have ndc:=List.nodup_cons.mp n1
   obtain ⟨A',S',g,_⟩:=S1.putH (e:=.dk (ks ++ ks2) (ds ++ ds2)) (ho:=.dK ((ks ++ ks2).zip (xs ++ ys))) (A1':=At ++ []) ea ⟨b,xs,At,rfl,q,ln,nd,rfl,fs⟩ n1 (λu A2 hv2 f2 n2=>by
    cases hv1.fn hv2
    exact ⟨rfl,Ft.uniq _ _ _ _ f2 ⟨b,xs,At,rfl,q,ln,nd,rfl,fs⟩⟩) s2 (fs2.app (Reps.fts _ _ pd rc)) (by rw [List.append_nil]; exact ndc.2) (λa ha=>by rw [List.append_nil] at ha; exact .inl ha) (λ_ z=>by cases z) (λ_ _ z=>by cases z)
    (λH' hb f=>⟨b,_,_,rfl,hb,by rw [zLa,zLa,ln,ln2],hnd,rfl,f⟩)
   refine ⟨c,_,_,rfl,hne,s2 _ _ q,qc,?_,?_,?_⟩
   ·rw [List.length_zip,List.length_zip,<- xl,<- yl,Nat.min_self,Nat.min_self]
    exact zak hlen (by decide)
   ·rw [<- Yx ks xs ks2 ys xl,ra _ _ (by rw [zLa,zLa,xl,yl])]
    exact hnd
   ·rw [<- Yx ks xs ks2 ys xl]
    rw [<- t4 _ _ (Ne.symm hj)] at S'
    exact k1 _ _ _ _ _ _ S' h2
  ·exact h2.elim
def Fw (K:W.Frag) (H₀:Hp) (l:Nat) (t:TF):TE:=λσ H Q=>∃ ρ o A d v,ST K H₀ H σ ρ o l A d v /\ ∃ φ,t ρ φ /\ ∀ u e H',Same H H'->RepN K H' (λa=>H₀ a=none) e u->φ e->Q u H'
def Kw (K:W.Frag) (H₀:Hp) (l:Nat) (t:TFs):TA:=λσ H Q=>∃ ρ o A d v,ST K H₀ H σ ρ o l A d v /\ ∃ φ,t ρ φ /\ ∀ us es H',Same H H'->xn K H' (λa=>H₀ a=none) es us->φ es->Q us H'
def ER (G:Hp->Prop) (l:Nat) (X:Cx) (e:Expr) (t:TF):Prop:=∀ H₀:{H:Hp // G H},PE X e (Fw X.K H₀.1 l t)
def ERs (G:Hp->Prop) (l:Nat) (X:Cx) (es:List Expr) (t:TFs):Prop:=∀ H₀:{H:Hp // G H},PA X es (Kw X.K H₀.1 l t)
def rE (te:TD):TF:=λρ φ=>te ρ λr=>zk r.d /\ φ r.d
def Ot (he:ED Γ X e te):ER Γ l X e (rE te):=λH₀=>impE (he H₀) λσ H Q q=>by
 obtain ⟨ρ,o,A,d,v,S,φ,hφ,k⟩:=q
 exact ⟨ρ,o,S.R,_,hφ,λu r H1 s1 rv h1=>k u r.d H1 s1 (Rep.toN _ _ h1.1 rv.view.rep0) h1.2⟩
def rP (l:Nat) (tp:TP1):TF:=λρ φ=>tp ρ λπ=>∃ d d1,slot ρ l=some (dv d) /\ atQ π d=some d1 /\ φ d1
def kl (hp:EPQ Γ l X e tp):ER Γ l X e (rP l tp):=λH₀=>impE (hp H₀) λσ H Q q=>by
 obtain ⟨ρ,o,A,d,v,S,φ,hφ,k⟩:=q
 refine ⟨ρ,o,A,d,v,S,_,hφ,λu π H1 s1 vp h1=>?_⟩
 obtain ⟨d',d1,es,ea,h1⟩:=h1
 have e2:some (dv d')=some (dv d):=by rw [<- es]; exact w8 S.hd
 cases e2
 obtain ⟨u',A1,hv,f1,_,sub,_⟩:=(S.to s1).focQ ea
 cases vp.fn hv
 exact k u d1 H1 s1 (Ft.repN _ _ _ (λa ha=>S.frA a (sub a ha)) f1) h1
def Rp:ERs Γ l X [] fNil:=λH₀=>impA vi λσ H Q q=>by
 obtain ⟨ρ,o,A,d,v,S,φ,hφ,k⟩:=q
 exact k [] [] H (Same.refl H) rfl hφ
def vj {te:TF} {tr:TFs} (he:ER Γ l X e te) (hr:ERs Γ l X es tr) (hs:starEach (e :: es) X.env=(false,eval e X.env) :: starEach es X.env:=by rfl):ERs Γ l X (e :: es) (Je te tr):=λH₀=>impA (yx (he H₀) (hr H₀) hs) λσ H Q q=>by
 obtain ⟨ρ,o,A,d,v,S,φ,hφ,k⟩:=q
 refine ⟨ρ,o,A,d,v,S,_,hφ,λu e1 H1 s1 f1 h1=>⟨ρ,o,A,d,v,S.to s1,_,h1,λus es1 H2 s2 f2 h2=>?_⟩⟩
 exact k (u :: us) (e1 :: es1) H2 (s1.trans s2) ⟨u,us,rfl,RepN.to s2 (λ_ z=>z) _ _ f1,f2⟩ h2
def Mp {t:TFs} {x1} (h:ERs Γ l X es t):ER Γ l X (.Tuple es x1 pos) (fTup t):=λH₀=>impE (Wz (h H₀)) λσ H Q q=>by
 obtain ⟨ρ,o,A,d,v,S,φ,hφ,k⟩:=q
 refine ⟨ρ,o,A,d,v,S,_,hφ,λus es1 H1 s1 f h1=>⟨by rw [f.length,sizeLine_eq]; omega,λp hp=>?_⟩⟩
 have n:=yc hp (HO.tup us)
 exact k (.ref p) (.tup es1) _ (s1.trans n) ⟨p,us,rfl,⟨SqT.of zy,zy⟩,xn.to n (λ_ z=>z) _ _ f⟩ h1.2
def Hz (t:TF):TQS:=λρ Z=>t ρ λd=>Z.rt d ρ
def Tp {t:TF} (h:ER Γ l X e t):RS Γ l X (.Return (some e) pos) (Hz t):=λH₀=>impS (Zm (h H₀)) λDz σ H h=>by
 obtain ⟨ρ,o,A,d,v,S,Z,hZ,k1,k2⟩:=h
 exact ⟨ρ,o,A,d,v,S,_,hZ,λu e H1 s1 r h1=>k2 u e ρ H1 (S.Q.same.trans s1) r h1⟩
structure FMR (P:Program) (w:World) (K:W.Frag) (mg:Str->Option Value) (base:Heap) (k:Nat) (C:Addr) (ns:List Str) (m:Str) (ps:List Str) (T:FTR):Prop where
 ex:∃ f fd,FnOk P w K mg base CX0 k f fd ps (spR K ps.length T) /\ Binds K fd ps [] /\ Meth K C m f
 no:m ∉ ns
def Eh {x qual m:Str} {st:Stmt} {f:Addr} {fd:FuncData} {N ps:List Str} {k:Nat} {T:FTR} {C:Addr} {ns:List Str} (F:Fun K x qual st f fd) (S:zw N ps (ze st)) (b:Binds K fd ps []) (hm:Meth K C m f) (no:m ∉ ns)
  (qY:∀ (qZ:Value) (A:Around) (outer:List Env) (s:Shared) (H:Hp) (E:XK) (d:D) (ds:List D) (φ:D->Prop),Room k (A.deeper (envOfC qual (ze st) s.heap.objs.size f qZ))->ds.length + 1=ps.length->T d ds φ ->
   ∃ t,RSs (λ_=>True) 0 (cxOf CX0 P w K mg base N qual (ze st) f qZ A outer s H E).nox (yq st) t /\ t (wc N.length (d :: ds)) { nx:=λ_=>False,rt:=λr _=>φ r }):FMR P w K mg base (k + 1) C ns m ps T:=by
 obtain ⟨f',fd',ok,b',kp',e⟩:=(Dr (mg:=λ_=>some (.ref f)) (P:=P) (w:=w) (base:=base) (x:=x) (k:=0) (T:=λ_ _ _=>False) F S b rfl λ_ _ _ _ _ _ _ _ _ _ _ h=>h.elim).ex
 refine ⟨⟨f,fd,F.ok S (λvs H Q E h=>?_) (λqZ A outer s H vs Q E hr h=>?_),b,hm⟩,no⟩
 ·obtain ⟨d,ds,v,ws,A,φ,rfl,hl,_,_,r,_⟩:=h
  rw [zLc,r.length,hl]
 ·obtain ⟨d,ds,v,ws,Af,φ,rfl,hl,ft,nd,r,hT,kk⟩:=h
  obtain ⟨t,ht,hq⟩:=qY qZ A outer s H E d ds φ hr hl hT
  have S0:=Wi (N:=N) ft nd r
  refine ⟨V4 K (wl Af H) 0 t,ht ⟨wl Af H,trivial⟩,wc N.length (d :: ds),[],Af,d,v,S0,_,hq,λρ' σ' H' o' A' d2 S' h'=>h'.elim,λu e ρ' H' s' re h'=>?_⟩
  refine kk u e H' (λb x hb hn=>s' b x (by rw [xo hn]; exact hb)) (RepN.to (Same.refl _) (λa ha=>?_) _ _ re) h'
  by_cases hA:a ∈ Af
  ·exact .inl hA
  ·rw [xo hA] at ha
   exact .inr ha
def ST.make {H₀ H H2:Hp} {σ:St} {ρ:DE} {o:List (Nat × Addr)} {l:Nat} {A:List Addr} {d:D} {v:V} (R:REnv K H₀ H σ ρ o) (hl:l < ρ.length) (s:Same H H2) (f:Ft K H2 d v A) (nd:A.Nodup) (fr:∀ a ∈ A,H a=none) :
  ST K H₀ H2 (σ.set l (some v)) (setS ρ l (dv d)) o l A d v:=by
 have R2:=R.to s
 have dis:∀ a ∈ A,a ∉ o.map Prod.snd:=λa ha=>R.ofree (fr a ha)
 refine ⟨⟨R2.same,λp hp=>?_,λp hp=>?_,λp hp=>?_,?_,λi q e=>?_,?_⟩,?_,?_,f⟩
 ·rcases zas.mp hp with hp | hp
  ·exact R.fresh p hp
  ·obtain ⟨a,ha,rfl⟩:=zah.mp hp
   exact R.same.free (fr a ha)
 ·rcases zas.mp hp with hp | hp
  ·exact R2.trk p hp
  ·obtain ⟨a,ha,rfl⟩:=zah.mp hp
   obtain ⟨u,hu,_⟩:=Ft.dom _ _ _ f a ha
   exact ⟨u,hu⟩
 ·rcases zas.mp hp with hp | hp
  ·exact R2.mtb p hp
  ·obtain ⟨a,ha,rfl⟩:=zah.mp hp
   obtain ⟨u,hu,n1,n2⟩:=Ft.dom _ _ _ f a ha
   refine ⟨λxs z=>?_,λob w z=>?_⟩
   ·rw [hu] at z; cases z; exact n1 _ rfl
   ·rw [hu] at z; cases z; exact n2 _ _ rfl
 ·rw [wa,List.nodup_append]
  exact ⟨R.nda,nd,λa ha b hb e=>dis b hb (e ▸ ha)⟩
 ·rw [bf] at e
  obtain ⟨hi,e⟩:=qu e
  obtain ⟨w,ew,q⟩:=R.slots i q e
  refine ⟨w,by rw [List.getElem?_set_ne (Ne.symm hi)]; exact ew,?_⟩
  rw [wa]
  have g:Grow (o.map Prod.snd) (o.map Prod.snd ++ A) H H2:=⟨λb u hb n=>⟨s _ _ hb,λz=>(zas.mp z).elim n λz=>by rw [fr b z] at hb; cases hb⟩,λb xs hb=>s _ _ hb,λb ob u hb=>s _ _ hb⟩
  rcases q with ⟨k,q⟩ | ⟨k,c,e1,m,cc⟩
  ·exact .inl ⟨k,Rep.grow g _ _ q⟩
  ·exact .inr ⟨k,c,e1,List.mem_append_left _ m,cc.grow (λu h=>s _ _ h) g⟩
 ·rw [bf,ue,List.length_set,List.length_set]; exact R.len
 ·rw [xb,List.getElem?_set_self hl]
 ·rw [List.getElem?_set_self (by rw [R.len]; exact hl)]
def Gd (j:Nat) (te:TD):TQS:=λρ Z=>te ρ λr=>frs2 r /\ Z.nx (setS ρ j (dv r.d))
def Lu (j:Nat) (hj:j ≠ l) (hN:X.N.Nodup) (he:ED Γ X e te) (hi:X.N[j]?=some x:=by rfl) (hx:Loc X.env.scope x:=by first | exact Or.inl rfl | exact Or.inr rfl) (hs:swapsWith e (some (.Name x pos')) pos.line X.env=pure false:=by rfl)
  (hf:X.fn x=true \/ X.env.scope.names.lookup x=some .local:=by first | exact .inl rfl | exact .inr rfl | assumption):QS Γ l X (.Assign [.Name x pos'] e pos) (Gd j te):=λH₀=>impS (su hN hi hx (he H₀) hs hf) λDz σ H h=>by
 obtain ⟨ρ,o,A,d,v,S,Z,hZ,k1,k2,k3,k4⟩:=h
 refine ⟨ρ,o,S.R,_,hZ,λw r H1 s1 rv h1=>?_⟩
 obtain ⟨B,f,nd,fr⟩:=Rf rv h1.1
 refine k1 _ _ H1 o A d ((S.to s1).setR hj (Ft.rep _ _ _ (λa ha z=>?_) f)) h1.2
 rcases zas.mp z with z | z
 ·exact S.R.ofree (fr a ha) z
 ·obtain ⟨y,hy,_⟩:=Ft.dom _ _ _ S.ft a z
  rw [fr a ha] at hy
  cases hy
def at_0 {α:Type} (a:α) (r:List α):atI (a :: r) (0:Int)=some a:=by
 unfold atI ixN
 rw [if_pos (by decide),if_pos (by rw [zLc]; omega)]
 rfl
def N7 {α:Type} (a b:α) (r:List α):atI (a :: b :: r) (1:Int)=some b:=by
 unfold atI ixN
 rw [if_pos (by decide),if_pos (by rw [zLc,zLc]; omega)]
 rfl
def Q8 (rs us:List D) (h:us ≠ []):cutD (rs ++ us) (some (-(us.length:Int))) none=us /\ cutD (rs ++ us) none (some (-(us.length:Int)))=rs:=by
 have hp:=List.length_pos_iff.mpr h
 have e:ZZ.sIx (rs ++ us).length 0 (some (-(us.length:Int)))=rs.length:=by
  unfold ZZ.sIx
  simp only [zLa]
  rw [if_pos (by omega)]
  omega
 have e2:ZZ.sIx (rs ++ us).length (rs ++ us).length (some (-(us.length:Int)))=rs.length:=by
  unfold ZZ.sIx
  simp only [zLa]
  rw [if_pos (by omega)]
  omega
 refine ⟨?_,?_⟩
 ·unfold cutD
  rw [e]
  rw [List.drop_left]
  show us.take ((rs ++ us).length - rs.length)=us
  rw [zLa]
  exact List.take_of_length_le (by omega)
 ·unfold cutD
  rw [e2]
  show (rs ++ us).take (rs.length - 0)=rs
  rw [Nat.sub_zero,List.take_left]
def O8 (n:Nat):ixN (n + 1) (-1:Int)=some n:=by
 unfold ixN
 rw [if_neg (by decide),if_pos (by omega)]
 congr 1
 omega
def Wp:Manifest.owners.lookup (String.ofList ['d','e','s','r','e','v','e','r'].reverse)=some Manifest.sig_reversed:=by kernel_rfl
def j6:Slot "reversed" "__next__" "reversed.__next__" :=
 .of (owner:="reversed") (n:="__next__") (by rw [typeLookup_type,builtinLookup_eq_fast]; kernel_rfl) (by decide +kernel) (by decide +kernel) (by decide +kernel)
  (by first | exact .inl (by decide +kernel) | exact .inr (by decide +kernel)) (by rw [isSubtype_type]; kernel_rfl)
def Wq:entryFor table "reversed.__next__" = some Builtin.«reversed.__next__»:=entryFor_of_tree (by kernel_rfl)
def To (a:Value):argsOk "reversed.__next__" ⟨[a],[]⟩:=by
 unfold argsOk; rw [signature?_of (id:="reversed.__next__") (n:=['_','_','t','x','e','n','_','_']) (o:=['d','e','s','r','e','v','e','r']) (by kernel_rfl) Wp]; kernel_rfl
def Ti:Slot "reversed" "__iter__" "reversed.__iter__" :=
 .of (owner:="reversed") (n:="__iter__") (by rw [typeLookup_type,builtinLookup_eq_fast]; kernel_rfl) (by decide +kernel) (by decide +kernel) (by decide +kernel)
  (by first | exact .inl (by decide +kernel) | exact .inr (by decide +kernel)) (by rw [isSubtype_type]; kernel_rfl)
def P9 (a:Value):argsOk "reversed.__iter__" ⟨[a],[]⟩:=by
 unfold argsOk; rw [signature?_of (id:="reversed.__iter__") (n:=['_','_','r','e','t','i','_','_']) (o:=['d','e','s','r','e','v','e','r']) (by kernel_rfl) Wp]; kernel_rfl
def Tj:entryFor table "reversed.__iter__" = some Builtin.«dict_keyiterator.__iter__» :=
 entryFor_alias (id':="dict_keyiterator.__iter__") (by kernel_rfl) (by first | rfl | decide +kernel | (unfold String.splitOn; simp +decide [String.splitOnAux])) (by decide +kernel) (by kernel_rfl)
def P8:typeLookup (.type "tuple") "__reversed__" = pure none:=by rw [typeLookup_type,builtinLookup_eq_fast]; kernel_rfl
def Th:isSubtype (.type "tuple") (.type "dict")=pure false:=by rw [isSubtype_type]; kernel_rfl
def Lp:Slot "reversed" "__init__" "object.__init__" :=
 .of (owner:="object") (n:="__init__") (by rw [typeLookup_type,builtinLookup_eq_fast]; kernel_rfl) (by decide +kernel) (by decide +kernel) (by decide +kernel)
  (by first | exact .inl (by decide +kernel) | exact .inr (by decide +kernel)) (by rw [isSubtype_type]; kernel_rfl)
def Tl:TypeCalled "reversed" "reversed.__new__" "object.__init__":=⟨by decide +kernel,F.create_reversed,⟨_,_,F.mro_reversed⟩,F.made_reversed,F.plain_reversed_new,F.sub_reversed_self,Lp⟩
def Hv (l:Addr) (i:Int):Obj:={ cls:=.type "reversed", data:=.fields #[.ref l,rawInt i] }
def RtIt (h:Heap) (a l:Addr) (i:Int):Prop:=∃ o,h.get? a=some o /\ o.cls=.type "reversed" /\ o.data=.fields #[.ref l,rawInt i]
def RtIt.typeIs {s:Shared} {a l:Addr} {i:Int} (x:RtIt s.heap a l i):s.TypeIs (.ref a) "reversed":=let ⟨o,ho,hc,_⟩:=x; ⟨o,ho,hc⟩
def RtIt.at {h h':Heap} {a l:Addr} {i:Int} (x:RtIt h a l i) (e:∀ o,h.get? a=some o->h'.get? a=some o):RtIt h' a l i:=let ⟨o,ho,r⟩:=x; ⟨o,e _ ho,r⟩
def Ht (l:Addr) (items:Array Value) (hfit:(items.size:Int) < 2 ^ 63) :
  Meets (Builtin.«reversed.__new__» ⟨[.type "reversed", .ref l],[]⟩) (λ_ R s=>IsTup s.heap l items /\ R (.ok (.ret (.ref s.heap.objs.size))) { s with heap:=s.heap.push (Hv l ((items.size:Int) - 1)),toks:=s.toks + 1 + 1 }) :=
 .of_wp λprog w A R s h=>by
  obtain ⟨ht,h⟩:=h
  unfold Builtin.«reversed.__new__»
  refine zaa (wpAny_of_eq (newClass_reversed _) ?_)
  try dsimp only
  refine zaa (wpAny_of_eq (a:=()) (by first | rfl | kernel_rfl) ?_)
  refine zaa (wpAny_of_eq (a:=()) (by first | rfl | kernel_rfl) ?_)
  try dsimp only
  refine zaa (wpAny_specialOf ht.typeIs P8 ?_)
  try dsimp only
  refine zaa ?_
  show wpAny _ _ (isInstance (.ref l) (.type "dict") >>= _) _ _ s
  refine zaa (wpAny_isInstance ht.typeIs Th ?_)
  rw [if_neg Bool.false_ne_true]
  refine zaa (wpAny_specialOf ht.typeIs F.slot_tuple_getitem.lookup ?_)
  show wpAny _ _ (if (["tuple.__getitem__", "str.__getitem__", "bytes.__getitem__", "bytearray.__getitem__", "memoryview.__getitem__", "numpy.ndarray.__getitem__", "sqlite3.Row.__getitem__"].contains "tuple.__getitem__")=true then _ else _) _ _ s
  rw [if_pos (by decide)]
  refine zab ?_
  rw [if_neg (by decide)]
  refine zaa (len_tuple ht hfit ?_)
  refine zaa (wpAny_of_eq (a:=some ((items.size:Int))) rfl ?_)
  refine zaa ?_
  show wpAny _ _ (newObj (Value.type "reversed") (.fields #[Value.ref l,rawInt ((items.size:Int) - 1)])) _ _ _
  exact wpAny_newObj_type (zab ⟨_,rfl,h⟩) (by size_fits)
def Lo {it l:Addr} {i:Nat} {items:Array Value} {x:Value} {Q:Option Value->Shared->Prop} (hfit:(items.size:Int) < 2 ^ 63) (hit:RtIt s.heap it l (i:Int)) (hl:IsTup s.heap l items) (hx:items[i]?=some x)
  (hQ:∀ h',RtIt h' it l ((i:Int) - 1)->Heap.SameBut it s.heap h'->Q (some x) { s with heap:=h',toks:=s.toks + 1 }):wpAny (model prog w) A (pyNext (.ref it)) Q E s:=by
 obtain ⟨o,ho,hc,hd⟩:=id hit
 have hi:i < items.size:=(Array.getElem?_eq_some_iff.mp hx).1
 unfold pyNext
 refine zaa (wpAny_attempt (wpAny_callSpecial?_slot (name:=Str.ofString "__next__") hit.typeIs j6
  (wpAny_call_entry j6 hit.typeIs Wq ?_ (To _))))
 unfold Builtin.«reversed.__next__»
 refine zaa (wpAny_of_eq (a:=(Value.ref it,[])) rfl ?_)
 try dsimp only
 refine zaa (wpAny_field ho hd (x:=.ref l) rfl ?_)
 refine zaa (wpAny_field ho hd (x:=rawInt (i:Int)) rfl ?_)
 show wpAny _ _ (if (i:Int) < 0 then _ else _) _ _ s
 rw [if_neg (by omega)]
 refine zaa (wpAny_specialOf hl.typeIs F.slot_tuple_getitem.lookup ?_)
 show wpAny _ _ (if (Option.isNone (some (Value.builtin "tuple.__getitem__")))=true then _ else _) _ _ s
 rw [if_neg (by decide)]
 refine zaa (wpAny_mkInt ?_)
 refine zaa (wpAny_attempt (PyProof.Rows.getItem_tuple (s:={ s with toks:=s.toks + 1 }) hl (by omega) (by omega) (j:=i) ?_ hx ?_))
 ·exact seqIndex_of (by omega) (by omega)
 refine zaa (wpAny_field (s:={ s with toks:=s.toks + 1 }) ho hd (x:=rawInt (i:Int)) rfl ?_)
 show wpAny _ _ (setField (.ref it) 1 (rawInt ((i:Int) - 1)) >>= _) _ _ _
 refine zaa (wpAny_setField (s:={ s with toks:=s.toks + 1 }) ho hd (by simp) ?_)
 first
 | refine zab ⟨x,rfl,zab (hQ _ ?_ (Heap.SameBut.update ..))⟩
 | refine zaa (zab (zab ⟨x,rfl,zab (hQ _ ?_ (Heap.SameBut.update ..))⟩))
 exact ⟨_,Heap.get?_update_self _ ho (Obj.isFreed_of_fields (Obj.data_mapFields hd _)),(Obj.cls_mapFields ..).trans hc,by
  rw [Obj.data_mapFields hd]; simp⟩
def Hu {it l:Addr} {Q:Option Value->Shared->Prop} (hh:A.handled=none) (hit:RtIt s.heap it l (-1))
  (hQ:∀ h',Heap.ExtBut it s.heap h'->Q none { s with heap:=h' }):wpAny (model prog w) A (pyNext (.ref it)) Q E s:=by
 obtain ⟨o,ho,hc,hd⟩:=id hit
 unfold pyNext
 refine zaa (wpAny_attempt (wpAny_callSpecial?_slot (name:=Str.ofString "__next__") hit.typeIs j6
  (wpAny_call_entry j6 hit.typeIs Wq ?_ (To _))))
 unfold Builtin.«reversed.__next__»
 refine zaa (wpAny_of_eq (a:=(Value.ref it,[])) rfl ?_)
 try dsimp only
 refine zaa (wpAny_field ho hd (x:=.ref l) rfl ?_)
 refine zaa (wpAny_field ho hd (x:=rawInt (-1)) rfl ?_)
 show wpAny _ _ (if (-1:Int) < 0 then _ else _) _ _ s
 rw [if_pos (by decide)]
 refine zaa (wpAny_rule ?_)
 refine zaa ?_
 show wpAny _ _ (setField (.ref it) 1 (rawInt (-1)) >>= _) _ _ _
 refine zaa (wpAny_setField ho hd (by simp) ?_)
 have g1:=Heap.get?_update_self (h:=s.heap) (Obj.mapFields (·.setIfInBounds 1 (rawInt (-1)))) ho (Obj.isFreed_of_fields (Obj.data_mapFields hd _))
 have d1:(Obj.mapFields (·.setIfInBounds 1 (rawInt (-1))) o).data=_:=Obj.data_mapFields hd _
 refine wpAny_setField g1 d1 (by simp) ?_
 refine zaa ?_
 show wpAny _ _ (newExc (.type "StopIteration") [] >>= _) _ _ _
 refine zaa ?_
 simp only [newExc,newTuple]
 refine zaa (wpAny_newObj_type ?_ (by size_fits))
 refine zaa (m:=firstArgMember _ _) (wpAny_of_eq (a:=Value.none) (by first | rfl | (simp only [firstArgMember]; rfl)) ?_)
 refine wpAny_newObj_type ?_ (by size_fits)
 simp only [raiseNew]
 refine zaa (wpAny_handled ?_)
 first | rw [show A.in1.handled=none from hh] | rw [hh]
 refine zaa (zab (wpAny_throw ?_))
 refine zaa (wpAny_isInstance (T:="StopIteration") (b:=true) ⟨_,zad _ rfl,rfl⟩ isSubtype_stop ?_)
 refine zab (hQ _ ?_)
 exact ((((Heap.SameBut.update ..).trans (Heap.SameBut.update ..)).extBut).push _).push _
def Tg {it l:Addr} {i:Int} {Q:Value->Shared->Prop} (hit:RtIt s.heap it l i) (h:Q (.ref it) s):wpAny (model prog w) A (pyIter (.ref it)) Q E s:=by
 refine wpAny_pyIter_slot hit.typeIs Ti (wpAny_call_entry Ti hit.typeIs Tj ?_ (P9 _))
 show wpAny _ _ (ret (.ref it)) _ _ s
 exact zab ⟨_,rfl, "reversed", _,hit.typeIs,j6.lookup,h⟩
def Itbt (K:W.Frag) (a:Addr) (n:Nat):It:=⟨λi H=>(∃ xs,SqT K H a xs /\ xs.length=n) /\ i < n,λi H x H'=>H'=H /\ ∀ xs,SqT K H a xs->xs[n - 1 - i]?=some x,λi H=>(∃ xs,SqT K H a xs /\ xs.length=n) /\ i=n⟩
def Uu {P:Program} {w:World} {K:W.Frag} {tg:Expr} (a it:Addr) (n:Nat):Turn P w K tg (Itbt K a n) [it] it (λi h=>RtIt h it a ((n:Int) - 1 - (i:Int))) where
 mem:=by simp
 obj:=λi h st b hb=>by
  have e:b=it:=by simpa using hb
  subst e
  obtain ⟨o,e,c,d⟩:=st
  exact ⟨o,e,λv z=>by rw [d] at z; cases z⟩
 keep:=λi h h' st k=>st.at λo e=>k it (by simp) o e
 item:=by
  intro X hP hw hK hc i pn s σ H E I hf st hg
  subst hP hw hK
  obtain ⟨⟨xs,hq,hl⟩,hi⟩:=hg
  obtain ⟨its,rv,p,hz⟩:=I.tuple hq
  obtain ⟨x,hx⟩:∃ x,xs[n - 1 - i]?=some x:=⟨xs[n - 1 - i]'(by omega),by simp⟩
  obtain ⟨u,hu,ru⟩:=rv.get hx
  obtain ⟨f0,f1,f2,f3,f4,f5⟩:=hf it (by simp)
  have en:(n:Int) - 1 - (i:Int)=((n - 1 - i:Nat):Int):=by omega
  rw [en] at st
  have h63:=sw
  have hln:=rv.length
  refine Lo (by rw [zap]; omega) st p (x:=u) (by simpa using hu) λh' st' sb=>?_
  have I1:Inv X pn σ H { s with heap:=h',toks:=s.toks + 1 }:=I.turned (t':=s.toks + 1) (λb o hb e=>(sb.2 b hb).trans e) f0 f1 f3 f4 f5
  obtain ⟨o,e,c,d⟩:=id st'
  have en2:((n - 1 - i:Nat):Int) - 1=(n:Int) - 1 - ((i + 1:Nat):Int):=by omega
  rw [en2] at st'
  exact ⟨u,rfl,Ra (s:={ s with heap:=h',toks:=s.toks + 1 }) e c d (by decide) ⟨x,H,I1,ru,⟨rfl,λys hy=>by rw [I.tuple_inj hy hq]; exact hx⟩,st',λb hb=>(hf b hb).1⟩⟩
 done:=by
  intro X hP hw hK hc i pn s σ H E I hf st hg
  subst hP hw hK
  obtain ⟨⟨xs,hq,hl⟩,hi⟩:=hg
  obtain ⟨f0,f1,f2,f3,f4,f5⟩:=hf it (by simp)
  have en:(n:Int) - 1 - (i:Int) = -1:=by omega
  rw [en] at st
  exact Hu (I.ok.hd hc) st λh' eb=>⟨rfl,I.turned (t':=s.toks) (λb o hb e=>eb b o hb e) f0 f1 f3 f4 f5⟩
 self:=λ_ _ _ _ _ st h=>Tg st h
def Dq (K:W.Frag) (ta:TA):TI:=λσ H R=>ta σ H λvs H1=>∃ l xs,vs=[.ref l] /\ SqT K H1 l xs /\ R (Itbt K l xs.length) H1
def Ka {X:Cx} {tg a:Expr} {ta:TA} {p pos:Pos} (hg:Gl X "reversed") (hm:X.mg "reversed" = none) (ha:PA X [a] ta)
  (he:starEach [a] X.env=(false,eval a X.env) :: starEach [] X.env:=by rfl):PI X tg (.Call (.Name "reversed" p) [a] [] pos) (Dq X.K ta):=by
 intro pn s σ H R I h
 refine wpAny_Call_Name_kw (k5 I hg hm gn ?_ (by decide) (by decide))
 refine PyProof.Rows.callWith_type1 (thn (ha pos pn s σ H _ I h) λus s1 ⟨vs,H1,I1,r1,l,xs,e,e1,q⟩=>?_) he (by rfl)
 subst e
 obtain ⟨u,rfl,ru⟩:=ga r1
 cases ru
 obtain ⟨its,rv,pl,hz⟩:=I1.tuple e1
 have hl:=rv.length
 have h63:=sw
 refine callType_new Tl (by decide) (F.typeCall_reversed_1 _) (F.newCall_reversed_1 _) (λobj=>F.args_object_init_2 obj _) F.entry_reversed_new (Ht l its.toArray (by rw [zap]; omega)) ⟨pl,?_⟩
 have st:RtIt (s1.heap.push (Hv l ((its.toArray.size:Int) - 1))) s1.heap.objs.size l ((xs.length:Int) - 1 - ((0:Nat):Int)):=by
  refine ⟨_,zad _ rfl,rfl,?_⟩
  show Data.fields #[.ref l,rawInt ((its.toArray.size:Int) - 1)]=_
  rw [show ((its.toArray.size:Int) - 1)=(xs.length:Int) - 1 - ((0:Nat):Int) by rw [zap]; omega]
 refine ⟨⟨_,zad _ rfl,rfl⟩,?_⟩
 refine Tg st ?_
 refine ⟨s1.heap.objs.size,[s1.heap.objs.size],_,_,H1,rfl,I1.kept (t':=s1.toks + 1 + 1) λb o e=>zac _ e,Uu l _ xs.length,st,λb hb=>?_,q⟩
 have e:b=s1.heap.objs.size:=by simpa using hb
 subst e
 exact I1.fpOk (zaj _) (I1.hok.fresh (zaj _))
def iBT (t:TDs):TID:=λρ φ=>t ρ λrs=>match rs with
 | [r]=>(match r.k with | .own=>False | _=>True) /\ (match r.d with
  | .tup l=>φ l.reverse
  | _=>False)
 | _=>False
def J3 {K:W.Frag} {l:Addr} {ds:List D}:ItD K (Itbt K l ds.length) ds.reverse (λH O=>Rep K H O (.tup ds) (.ref l)) where
 go:=λH O i d hp e=>by
  obtain ⟨a,xs,ea,q,r⟩:=hp
  cases ea
  have hi:i < ds.length:=by have:=(zag.mp e).1; simpa using this
  rw [List.getElem?_reverse hi] at e
  obtain ⟨v,ev,rv⟩:=r.get e
  refine ⟨⟨⟨xs,q.1,r.length⟩,hi⟩,λx H' y=>?_⟩
  obtain ⟨e1,y⟩:=y
  subst e1
  have:=y xs q.1
  rw [ev] at this
  cases this
  exact ⟨Same.refl _,rv⟩
 stop:=λH O hp=>by
  obtain ⟨a,xs,ea,q,r⟩:=hp
  cases ea
  exact ⟨⟨xs,q.1,r.length⟩,by rw [List.length_reverse]⟩
 keep:=λO O' H H' hp g=>Rep.grow g _ _ hp
def Yk {tg a:Expr} {t:TDs} {p pos:Pos} (hm:X.mg "reversed" = none) (ha:EA Γ X [a] t) (hg:Gl X "reversed":=by rfl)
  (he:starEach [a] X.env=(false,eval a X.env) :: starEach [] X.env:=by rfl):EI Γ X tg (.Call (.Name "reversed" p) [a] [] pos) (iBT t):=λH₀=>impI (Ka hg hm (ha H₀) he) λσ H R q=>by
 obtain ⟨ρ,o,RE,φ,hφ,k⟩:=q
 refine ⟨ρ,o,RE,_,hφ,λvs rs H1 s1 rvs h1=>?_⟩
 split at h1
 ·rename_i r
  obtain ⟨n1,h1⟩:=h1
  obtain ⟨v1,w1,rfl,q1,rfl⟩:=rvs
  have p1:=q1.solid (vv n1)
  obtain ⟨kd,d⟩:=r
  cases d with
  | tup l =>
   obtain ⟨a,xs,rfl,q,r⟩:=id p1
   refine ⟨a,xs,rfl,q.1,?_⟩
   rw [r.length]
   exact k _ _ _ H1 s1 J3 p1 h1
  | _=>exact h1.elim
 ·exact h1.elim
section
variable {ns ps:List Str} {m:Str} {T:FT} {k:Nat}
structure FMD (P:Program) (w:World) (K:W.Frag) (mg:Str->Option Value) (base:Heap) (k:Nat) (C:Addr) (ns:List Str) (m:Str) (ps:List Str) (T:FT):Prop where
 ex:∃ f fd,FnOk P w K mg base CX0 k f fd ps (spD K ps.length T) /\ Binds K fd ps [] /\ Meth K C m f
 no:m ∉ ns
def Ew (n:Nat) (C:Addr) (ns:List Str) (T:FT) (te:TD) (t:TDs):TD:=λρ φ=>te ρ λr=>(∃ ds,r.d=.ob C ns ds) /\ t ρ λrs=>Nat.beq (rs.length + 1) n=true /\ T (r.d :: rs.map EV.d) φ
def Ji {pl:Sem Bool} (O:CO X.K C ns) (F:FMD X.prog X.w X.K X.mg X.base k C ns m ps T) (hr:Room k X.A) (ho:ED Γ X o te) (ha:EA Γ X (e :: es) t)
  (hst:starEach (e :: es) X.env=(false,eval e X.env) :: starEach es X.env:=by rfl) (hpl:(backTo pos (starEach es X.env)).any (·.1)=false:=by rfl)
  (ht:eval (.Call (.Attribute o m apos) (e :: es) [] pos) X.env=(do
   let ov <- eval o X.env
   standAt apos.atName
   let (f,first) <- holding [ov] (getMethod ov m pl)
   callWith pos f first (backTo pos (starEach (e :: es) X.env)) (backToKw pos (keywordEach [] X.env))):=by rfl) :
  ED Γ X (.Call (.Attribute o m apos) (e :: es) [] pos) (Ew ps.length C ns T te t):=λH₀=>by
 obtain ⟨f,fd,ok,b,hm⟩:=F.ex
 refine impE (S7 (ho H₀) O.cl hm ok hr b .nil ci (ha H₀) hst hpl ht) λσ H Q q=>?_
 obtain ⟨ρ,o,R,φ,hφ,k⟩:=q
 refine ⟨ρ,o,R,_,hφ,λv r H1 s1 rv h1=>?_⟩
 obtain ⟨⟨ds,ed⟩,h1⟩:=h1
 have vw:=rv.view
 obtain ⟨kd,d⟩:=r
 cases ed
 have v0:Rep X.K H1 [] (.ob C ns ds) v:=vw.rep0
 obtain ⟨a,dx,xs,rfl,q,_,ln,nd,rr⟩:=vw
 refine ⟨a,dx,_,rfl,q,sv F.no,ρ,o,R.to s1,_,h1,λvs rs H2 s2 rvs h2=>?_⟩
 show spD X.K ps.length T (.ref a :: (vs ++ [])) H2 Q E0
 rw [List.append_nil]
 refine ⟨.ob C ns ds :: rs.map EV.d,φ,by rw [zLc,zLm]; exact Nat.eq_of_beq_eq_true h2.1,⟨_,_,rfl,Rep.grow (Grow.same s2) _ _ v0,rvs.reps0⟩,h2.2,λu r' H3 s3 rv' pr h3=>?_⟩
 exact k u r' H3 ((s1.trans s2).trans s3) (RV.start (rv'.lift pr λa e=>R.ofree ((s1.trans s2).free e)) (s1.trans s2)) h3
def Ei {P:Program} {w:World} {K:W.Frag} {mg:Str->Option Value} {base:Heap} {x qual m:Str} {st:Stmt} {f:Addr} {fd:FuncData} {N ps:List Str} {k:Nat} {T:FT} {C:Addr} {ns:List Str} (F:Fun K x qual st f fd) (S:zw N ps (ze st)) (b:Binds K fd ps []) (hm:Meth K C m f) (no:m ∉ ns)
  (qY:∀ (qZ:Value) (A:Around) (outer:List Env) (s:Shared) (H:Hp) (E:XK) (ds:List D) (φ:EV->Prop),Room k (A.deeper (envOfC qual (ze st) s.heap.objs.size f qZ))->ds.length=ps.length->T ds φ ->
   ∃ t,SDs (λ_=>True) (cxOf CX0 P w K mg base N qual (ze st) f qZ A outer s H E).nox (yq st) t /\ t (wc N.length ds) { nx:=λ_=>φ (dv .non),rt:=λr=>uc r /\ φ r }):FMD P w K mg base (k + 1) C ns m ps T :=
 ⟨⟨f,fd,Rj F S qY,b,hm⟩,no⟩
end
structure FunV (K:W.Frag) (x qual:Str) (st:Stmt) (f:Addr) (v:Value) (fd:FuncData):Prop where
 ex:∃ (T:Addr) (oT:Obj) (n:Nat) (oc:Value) (od:Option Addr) (kV doc pm:Value) (an:Option Addr) (qZ ct:Value) (osl:Array (Option Value)),
  fd=W.fnOf x qual (wz st) (yq st) (ze st) (.ref T) kV doc pm an qZ ct /\ K.lookup f=some ⟨oc,od,.func fd,osl⟩ /\ W.codeIn K qZ qual=true /\ K.lookup T=some oT /\ oT.data=.seq #[v] n
 kp:W.keepIn K (.ref f)=true
def FunV.ok {x qual:Str} {st:Stmt} {f:Addr} {v:Value} {fd:FuncData} {N ps:List Str} {k:Nat} {sp:Sp} (F:FunV K x qual st f v fd) (S:zw N ps (ze st)) (len:∀ vs H Q E,sp vs H Q E->vs.length=ps.length)
  (qY:∀ (qZ:Value) (A:Around) (outer:List Env) (s:Shared) (H:Hp) (vs:List V) (Q:VK) (E:XK),Room k (A.deeper (envOfC qual (ze st) s.heap.objs.size f qZ))->sp vs H Q E ->
   ∃ t,PSs (cxOf CX0 P w K mg base N qual (ze st) f qZ A outer s H E).nox (yq st) t /\ t { nx:=λ_ H'=>Q .non H',rt:=Q } (start N vs) H):FnOk P w K mg base CX0 (k + 1) f fd ps sp:=by
 obtain ⟨T,oT,n,oc,od,kV,doc,pm,an,qZ,ct,osl,rfl,lk,hcd,_⟩:=F.ex
 refine Eg lk hcd S len λA outer s H vs Q E hr hsp=>?_
 obtain ⟨t,h,q⟩:=qY qZ A outer s H vs Q E hr hsp
 exact ⟨t,h.nox,q⟩
def FunV.binds {x qual:Str} {st:Stmt} {f:Addr} {v:Value} {fd:FuncData} {ps:List Str} {ds:List Value} (F:FunV K x qual st f v fd)
  (h:∀ (T:Addr) (kV doc pm:Value) (an:Option Addr) (qZ ct:Value) (us:List Value),(us ++ ds).length=ps.length->∃ k:Option (Array Value)->Sem (List (Str × Value)),bindArgs (W.fnOf x qual (wz st) (yq st) (ze st) (.ref T) kV doc pm an qZ ct) ⟨us,[]⟩=seqItems? (.ref T) >>= k /\ k (some #[v])=pure (ps.zip (us ++ ds))):Binds K fd ps ds:=by
 obtain ⟨T,oT,n,oc,od,kV,doc,pm,an,qZ,ct,osl,rfl,lk,hcd,lT,dT⟩:=F.ex
 intro s us KX hl
 obtain ⟨k,h1,h2⟩:=h T kV doc pm an qZ ct us hl
 exact .of_defaults (T:=T) (o:=oT) (items:=#[v]) (n:=n) rfl (KX _ _ lT) dT h1 h2
structure FDV (P:Program) (w:World) (K:W.Frag) (mg:Str->Option Value) (base:Heap) (k:Nat) (x:Str) (ps:List Str) (c:Int) (T:FT):Prop where
 ex:∃ f fd t,FnOk P w K mg base CX0 k f fd ps (spD K ps.length T) /\ Binds K fd ps [.int c t] /\ W.keepIn K (.ref f)=true /\ mg x=some (.ref f)
variable {ps:List Str} {T:FT} {k:Nat} {c:Int}
def Mt (n:Nat) (c:Int) (T:FT) (t:TDs):TD:=λρ φ=>t ρ λrs=>Nat.beq (rs.length + 1) n=true /\ T (rs.map EV.d ++ [.int c]) φ
def Vl (F:FDV X.prog X.w X.K X.mg X.base k x ps c T) (hr:Room k X.A) (ha:EA Γ X (e :: es) t) (hg:Gl X x:=by rfl) (hdb:(x == ("__debug__" : Str))=false:=by decide)
  (he:starEach (e :: es) X.env=(false,eval e X.env) :: starEach es X.env:=by rfl) (hpl:(backTo pos (starEach es X.env)).any (·.1)=false:=by rfl):ED Γ X (.Call (.Name x p) (e :: es) [] pos) (Mt ps.length c T t):=λH₀=>by
 obtain ⟨f,fd,tk,ok,b,kp,m⟩:=F.ex
 refine impE (cg ok hr hg m kp b (dvs:=[.int c]) (.cons ⟨tk,rfl⟩ .nil) ci (ha H₀) hdb he hpl) λσ H Q q=>?_
 obtain ⟨ρ,o,R,φ,hφ,kk⟩:=q
 refine ⟨ρ,o,R,_,hφ,λvs rs H1 s1 rvs h1=>?_⟩
 show spD X.K ps.length T (vs ++ [.int c]) H1 Q E0
 refine ⟨rs.map EV.d ++ [.int c],φ,by rw [zLa,zLm]; exact Nat.eq_of_beq_eq_true h1.1,rvs.reps0.append (Reps.one (show Rep X.K H1 [] (.int c) (.int c) from rfl)),h1.2,λv r H2 s2 rv pr h2=>?_⟩
 exact kk v r H2 (s1.trans s2) (RV.start (rv.lift pr λa e=>R.ofree (s1.free e)) s1) h2
def Ef {qual m:Str} {st s0 s1 s2 s3 s4:Stmt} {f C:Addr} {fd:FuncData} {N ps:List Str} {k nI nM l:Nat} {T:FT} {TI:FTQ} {TM:FTR} {ns:List Str} {as1:List Expr}
  (hok:∀ {sp:Sp},(∀ vs H Q E,sp vs H Q E->vs.length=ps.length)->(∀ (qZ:Value) (A:Around) (outer:List Env) (s:Shared) (H:Hp) (vs:List V) (Q:VK) (E:XK),Room k (A.deeper (envOfC qual (ze st) s.heap.objs.size f qZ))->sp vs H Q E ->
   ∃ t,PSs (cxOf CX0 P w K mg base N qual (ze st) f qZ A outer s H E).nox (yq st) t /\ t { nx:=λ_ H'=>Q .non H',rt:=Q } (ZZ.start N vs) H)->FnOk P w K mg base CX0 (k + 1) f fd ps sp) (no:m ∉ ns) (hb:yq st=[s0,s1,s2,s3,s4]) (lM:nM=1)
  (qY:∀ (qZ:Value) (A:Around) (outer:List Env) (s:Shared) (H:Hp) (E:XK) (ds:List D) (φ:EV->Prop),Room k (A.deeper (envOfC qual (ze st) s.heap.objs.size f qZ))->ds.length=ps.length->T ds φ ->
   ∃ t0 ta t2 t3,SD (λ_=>True) (cxOf CX0 P w K mg base N qual (ze st) f qZ A outer s H E).nox s0 t0 /\ EA (λ_=>True) (cxOf CX0 P w K mg base N qual (ze st) f qZ A outer s H E).nox as1 ta /\
    (∀ {t:TA},PA (cxOf CX0 P w K mg base N qual (ze st) f qZ A outer s H E).nox as1 t->PS (cxOf CX0 P w K mg base N qual (ze st) f qZ A outer s H E).nox s1 (tAsg (dr C (spQ K nI TI) [] E0 t) (se l))) /\
    QS (λ_=>True) l (cxOf CX0 P w K mg base N qual (ze st) f qZ A outer s H E).nox s2 t2 /\ QS (λ_=>True) l (cxOf CX0 P w K mg base N qual (ze st) f qZ A outer s H E).nox s3 t3 /\
    PS (cxOf CX0 P w K mg base N qual (ze st) f qZ A outer s H E).nox s4 (tRet (Qv C m (spR K nM TM) [] E0 (tVar l) tNil)) /\
    t0 (wc N.length ds) { nx:=λρ=>l < ρ.length /\ ta ρ λrs=>(∀ r ∈ rs,r.k ≠ .own) /\ rs.length + 1=nI /\ TI (.ob C [] []) (rs.map EV.d) λr0 d=>r0=.non /\ t2 (setS ρ l (dv d)) { nx:=λρ1=>t3 ρ1 { nx:=λρ2=>∃ ds,slot ρ2 l=some (dv (.ob C ns ds)) /\ TM (.ob C ns ds) [] λe=>φ ⟨.new,e⟩,rt:=λ_ _=>False },rt:=λ_ _=>False },rt:=λ_=>False }):FnOk P w K mg base CX0 (k + 1) f fd ps (spD K ps.length T):=by
 refine hok (λvs H Q E h=>?_) (λqZ A outer s H vs Q E hr h=>?_)
 ·obtain ⟨ds,φ,hl,r,_⟩:=h
  rw [r.length,hl]
 ·obtain ⟨ds,φ,hl,r,hT,kk⟩:=h
  obtain ⟨t0,ta,t2,t3,h0,ha,h1,h2,h3,h4,hq⟩:=qY qZ A outer s H E ds φ hr hl hT
  rw [hb]
  refine ⟨_,xu (h0 ⟨H,trivial⟩) (xu (h1 (ha ⟨H,trivial⟩)) (xu (h2 ⟨H,trivial⟩) (xu (h3 ⟨H,trivial⟩) (qk h4)))),?_⟩
  have R0:=qi (N:=N) (ds:=ds) (vs:=vs) (H:=H) r
  refine ⟨_,[],R0,_,hq,λρ σ1 H1 o1 g1 R1 hn=>?_,λ_ _ _ _ _ _ q=>q.elim,λ_ _ _ _ _ _ q=>q.elim,λ_ _ _ _ _ q=>q.elim⟩
  obtain ⟨hlt,hn⟩:=hn
  refine ⟨ρ,o1,R1,_,hn,λus rs H2 s2' rvs hn2=>?_⟩
  obtain ⟨hown,hlen,hn2⟩:=hn2
  intro x0 dx hx0 hdx hne
  have sx:Same H2 (upd (upd H2 dx (.own x0)) x0 (.ins C dx [])):=(yc hdx _).trans (yc (by rw [y7 (Ne.symm hne)]; exact hx0) _)
  show spQ K nI TI (.ref x0 :: (us ++ [])) _ _ E0
  rw [List.append_nil]
  have rr:=rvs.reps hown
  have gx:Grow (o1.map Prod.snd) [x0] H2 (upd (upd H2 dx (.own x0)) x0 (.ins C dx [])):=⟨λc u hc _=>⟨sx _ _ hc,λz=>by rw [List.mem_singleton.mp z,hx0] at hc; cases hc⟩,λc xs hc=>sx _ _ hc,λc ob u hc=>sx _ _ hc⟩
  refine ⟨.ob C [] [],rs.map EV.d,.ref x0,us,[x0],_,rfl,by rw [zLm]; exact hlen,⟨x0,dx,[],[],rfl,zy,rfl,List.nodup_nil,rfl,rfl,rfl⟩,by simp,Reps.grow gx _ _ rr,hn2,λu r0 d H3 A3 g3 ft3 nd3 fr3 pr3 rp3 hn3=>?_⟩
  obtain ⟨rfl,hn3⟩:=hn3
  have s13:Same H1 H3:=λc u hc=>(g3.keep c u (sx _ _ (s2' _ _ hc)) λz=>by rw [List.mem_singleton.mp z] at hc; rw [s2' _ _ hc] at hx0; cases hx0).1
  have fr13:∀ a ∈ A3,H1 a=none:=λa ha=>by
   rcases fr3 a ha with z | z
   ·rw [List.mem_singleton.mp z]; exact s2'.free hx0
   ·exact s2'.free (sx.free z)
  refine ⟨rp3,?_⟩
  have S3:=ST.make (l:=l) R1 hlt s13 ft3 nd3 fr13
  refine ⟨_,o1,A3,d,.ref x0,S3,_,hn3,λρ4 σ4 H4 o4 A4 d4 S4 hn4=>⟨ρ4,o4,A4,d4,.ref x0,S4,_,hn4,λρ5 σ5 H5 o5 A5 d5 S5 hn5=>?_,λ_ _ _ _ _ _ _ q=>q.elim,λ_ _ _ _ _ _ _ q=>q.elim,λ_ _ _ _ _ _ _ _ _ _ _ q=>q.elim⟩,λ_ _ _ _ _ _ _ q=>q.elim,λ_ _ _ _ _ _ _ q=>q.elim,λ_ _ _ _ _ _ _ _ _ _ _ q=>q.elim⟩
  obtain ⟨es,esl,hn5⟩:=hn5
  have e5:some (dv d5)=some (dv (.ob C ns es)):=by rw [<- esl]; exact (w8 S5.hd).symm
  cases e5
  obtain ⟨a5,dx5,xs5,B5,ev5,q5,ln5,nn5,eA5,r5⟩:=id S5.ft
  refine ⟨.ref x0,S5.hv,a5,dx5,_,ev5,q5,sv no,?_⟩
  show spR K nM TM (.ref x0 :: ([] ++ [])) H5 Q E0
  refine ⟨_,[],.ref x0,[],A5,_,rfl,by rw [lM]; rfl,S5.ft,S5.ndA,rfl,hn5,λu5 e H6 k6 rn6 hn6=>?_⟩
  refine kk u5 ⟨.new,e⟩ H6 (λc u hc=>k6 c u (S5.Q.same _ _ hc) λz=>by have z2:H c=none:=S5.frA c z; rw [z2] at hc; cases hc) (RepN.to (Same.refl _) (λa ha=>⟨by simp,?_⟩) _ _ rn6) trivial hn6
  exact ha.elim (S5.frA a) λz=>S5.Q.same.free z
def REnv.clrV {K:W.Frag} {H₀ H:Hp} {σ:St} {ρ:DE} {o:List (Nat × Addr)} (R:REnv K H₀ H σ ρ o) (i:Nat) (v:V):REnv K H₀ H (σ.set i (some v)) (clrS ρ i) o where
 same:=R.same
 fresh:=R.fresh
 trk:=R.trk
 mtb:=R.mtb
 nda:=R.nda
 len:=by rw [W7,List.length_set,List.length_set]; exact R.len
 slots:=λj r e=>by
  rw [W7] at e
  by_cases hj:j=i
  ·subst hj
   rcases Nat.lt_or_ge j ρ.length with z | z
   ·rw [List.getElem?_set_self z] at e
    cases e
   ·rw [List.getElem?_eq_none (by rw [List.length_set]; exact z)] at e
    cases e
  ·rw [List.getElem?_set_ne (Ne.symm hj)] at e
   obtain ⟨w,ew,q⟩:=R.slots j r e
   exact ⟨w,by rw [List.getElem?_set_ne (Ne.symm hj)]; exact ew,q⟩
def j7 {K:W.Frag} {H:Hp} {P:Addr->Prop}:∀ {ds:List D} {xs:List V} {i:Nat} {d:D},xn K H P ds xs->ds[i]?=some d->∃ v,xs[i]?=some v /\ RepN K H P d v
 | [],_,_,_,_,e=>by simp at e
 | d :: ds,xs,0,d',⟨v,r,e,q,t⟩,h=>by
  subst e
  cases h
  exact ⟨v,rfl,q⟩
 | d :: ds,xs,i + 1,d',⟨v,r,e,q,t⟩,h=>by
  subst e
  exact j7 (i:=i) t (by simpa using h)
variable {c:Expr} {tc:TDb} {i:Nat} {xp kp:Pos} {j:Nat}
def Qw (K:W.Frag) (i k:Nat):TS:=λDz σ H=>∃ p xs a ys,σ[i]?=some (some (.ref p)) /\ SqT K H p xs /\ xs[k]?=some (.ref a) /\ H a=some (.lst ys) /\ ys.length <= 200000 /\ ∀ H2 ys',Same H H2->ys'.length <= ys.length + 1->Dz.nx σ (upd H2 a (.lst ys'))
def Tw (hi:X.N[i]?=some x:=by rfl) (hv:Vis X.env.scope x:=by walk_at "o") (hd:(x == ("__debug__" : Str))=false:=by decide) (hcd:(x == ("__classdict__" : Str))=false:=by decide)
  (hp:∀ {ta:TE},PE X (.Subscript (.Name x np) (.Constant (.int (k:Int)) j kp) xp) ta->PS X (.Expr (.Call (.Attribute (.Subscript (.Name x np) (.Constant (.int (k:Int)) j kp) xp) "clear" apos) [] [] cpos) pos) (dt (tBM0 X.K "list" Nu ta)):=by
   intro ta h1
   exact ww (Sb PySem.F.plainAttrs_list PySem.F.slot_list_clear PySem.F.type_list_clear Pr h1)) :
  PS X (.Expr (.Call (.Attribute (.Subscript (.Name x np) (.Constant (.int (k:Int)) j kp) xp) "clear" apos) [] [] cpos) pos) (Qw X.K i k):=impS (hp (Pm V7 (wq hi hv hd hcd) S8 (by intro _ _; rfl))) λDz σ H h=>by
 obtain ⟨p,xs,a,ys,h1,h2,h3,h4,h5,h6⟩:=h
 refine ⟨.ref p,h1,.inr (.inl ⟨p,xs,(k:Int),.ref a,rfl,rfl,h2,tu (by omega) (by simpa using h3),?_⟩)⟩
 exact ⟨.inl ⟨rfl,_,SqL.of h4⟩,a,ys,rfl,rfl,h4,h6 H [] (Same.refl H) (by simp)⟩
def K4 {te:TE} (he:PE X e te) (hte:∀ σ H Q,(∀ v H',Same H H'->Q v H')->te σ H Q) (hi:X.N[i]?=some x:=by rfl) (hv:Vis X.env.scope x:=by walk_at "o") (hd:(x == ("__debug__" : Str))=false:=by decide) (hcd:(x == ("__classdict__" : Str))=false:=by decide)
  (hp:∀ {ta tb:TE},PE X (.Subscript (.Name x np) (.Constant (.int (k:Int)) j kp) xp) ta->PE X e tb->PS X (.Expr (.Call (.Attribute (.Subscript (.Name x np) (.Constant (.int (k:Int)) j kp) xp) "append" apos) [e] [] cpos) pos) (dt (tBM X.K "list" j8 ta (X1 tb tNil))):=by
   intro ta tb h1 h2
   exact ww (X8 PySem.F.plainAttrs_list PySem.F.slot_list_append PySem.F.type_list_append ul h1 (yx h2 vi))) :
  PS X (.Expr (.Call (.Attribute (.Subscript (.Name x np) (.Constant (.int (k:Int)) j kp) xp) "append" apos) [e] [] cpos) pos) (Qw X.K i k):=impS (hp (Pm V7 (wq hi hv hd hcd) S8 (by intro _ _; rfl)) he) λDz σ H h=>by
 obtain ⟨p,xs,a,ys,h1,h2,h3,h4,h5,h6⟩:=h
 refine ⟨.ref p,h1,.inr (.inl ⟨p,xs,(k:Int),.ref a,rfl,rfl,h2,tu (by omega) (by simpa using h3),?_⟩)⟩
 refine ⟨.inl ⟨rfl,_,SqL.of h4⟩,hte σ H _ λv H' s'=>?_⟩
 exact ⟨a,ys,v,rfl,rfl,s' _ _ h4,Nat.lt_of_le_of_lt h5 (by decide),h6 H' _ s' (by rw [zLa]; simp)⟩
def Hn (i k1 k2:Nat) (te:TD) (tc:TDb):TDS:=λρ Z=>te ρ λr=>r.k=.new /\ i < ρ.length /\ tc (setS ρ i (dv r.d)) λb=>b=false /\ (∃ ds l1 l2,r.d=.tup ds /\ ds[k1]?=some (.lst l1) /\ ds[k2]?=some (.lst l2) /\ l1.length <= 100000 /\ l2.length <= 100000) /\ Z.nx (clrS ρ i)
def Le {a rest:List Stmt} {s3 s4:Stmt} {ta u:TDS} (i k1 k2:Nat) (hN:X.N.Nodup) (he:ED Γ X e te) (hc:ET Γ X c tc) (ha:SDs Γ X a ta) (h3:PS X s3 (Qw X.K i k1)) (h4:PS X s4 (Qw X.K i k2)) (hr:SDs Γ X rest u)
  (hi:X.N[i]?=some x:=by rfl) (hx:Loc X.env.scope x:=by first | exact Or.inl rfl | exact Or.inr rfl) (hs:swapsWith e (some (.Name x pos')) pos.line X.env=pure false:=by rfl)
  (hf:X.fn x=true \/ X.env.scope.names.lookup x=some .local:=by first | exact .inl rfl | exact .inr rfl | assumption):SDs Γ X (.Assign [.Name x pos'] e pos :: .If c a [] p2 :: s3 :: s4 :: rest) (sSeq (sCut (Hn i k1 k2 te tc)) u):=λH₀ =>
 jk (xu (su hN hi hx (he H₀) hs hf) (xu (Tx (hc H₀) (ha H₀) j9) (xu h3 (xu h4 (hr H₀))))) λDz σ H h=>by
  obtain ⟨ρ,o,R,Z,⟨J,hZ,hJ⟩,k1',k2',k3',k4'⟩:=h
  refine ⟨ρ,o,R,_,hZ,λv r H1 s1 rv h1=>?_⟩
  obtain ⟨ek,hlt,h1⟩:=h1
  obtain ⟨kd,d⟩:=r
  cases ek
  have rn:RepN X.K H1 (λa=>a ∉ o.map Prod.snd /\ H a=none) d v:=rv
  have rp:Rep X.K H1 (o.map Prod.snd) d v:=RepN.rep (λa z=>z.1) _ _ rn
  have R1:=(R.to s1).setV i rp
  refine ⟨_,o,R1,_,h1,λb H2 s2 h2=>?_⟩
  obtain ⟨rfl,⟨ds,l1,l2,ed,e1,e2,n1,n2⟩,h2⟩:=h2
  cases ed
  refine iteF ?_
  obtain ⟨p,xs,rfl,sq,rr⟩:=rn
  obtain ⟨w1,x1,q1⟩:=j7 rr e1
  obtain ⟨w2,x2,q2⟩:=j7 rr e2
  obtain ⟨a1,ys1,rfl,g1,f1,t1⟩:=q1
  obtain ⟨a2,ys2,rfl,g2,f2,t2⟩:=q2
  have li:i < σ.length:=by rw [R.len]; exact hlt
  have m1:ys1.length=l1.length:=t1.length
  have m2:ys2.length=l2.length:=t2.length
  have hσ:(σ.set i (some (V.ref p)))[i]?=some (some (.ref p)):=List.getElem?_set_self li
  have n1':p ≠ a1:=λz=>by have:=sq.2; rw [z,g1] at this; cases this
  have n2':p ≠ a2:=λz=>by have:=sq.2; rw [z,g2] at this; cases this
  have lt1:=t1
  refine ⟨p,xs,a1,ys1,hσ,SqT.of (s2 _ _ sq.2),x1,s2 _ _ g1,?_,λH3 zs1 s3' z1=>?_⟩
  ·omega
  have g2':∃ ws,(upd H3 a1 (HO.lst zs1)) a2=some (.lst ws) /\ ws.length <= 200000:=by
   by_cases z:a2=a1
   ·subst z
    exact ⟨zs1,zy,by omega⟩
   ·exact ⟨ys2,by rw [y7 z]; exact s3' _ _ (s2 _ _ g2),by omega⟩
  obtain ⟨ws,g2',lw⟩:=g2'
  refine ⟨p,xs,a2,ws,hσ,SqT.of (by rw [y7 n1']; exact s3' _ _ (s2 _ _ sq.2)),x2,g2',lw,λH4 zs2 s4' z2=>?_⟩
  have sH:Same H (upd H4 a2 (.lst zs2)):=λb u hb=>by
   have b1:b ≠ a1:=zr hb f1.2
   have b2:b ≠ a2:=zr hb f2.2
   rw [y7 b2]
   refine s4' _ _ ?_
   rw [y7 b1]
   exact s3' _ _ (s2 _ _ (s1 _ _ hb))
  exact ⟨_,o,(R.to sH).clrV i _,Z,hJ _ h2,λρ2 σ2 H5 o2 g2 R2 q2=>k1' ρ2 σ2 H5 o2 ((Grow.same sH).trans g2) R2 q2,λρ2 σ2 H5 o2 g2 R2 q2=>k2' ρ2 σ2 H5 o2 ((Grow.same sH).trans g2) R2 q2,λρ2 σ2 H5 o2 g2 R2 q2=>k3' ρ2 σ2 H5 o2 ((Grow.same sH).trans g2) R2 q2,k4'⟩
def sMin2:FT:=λds φ=>match ds with
 | [.int i,.int j]=>φ (dv (.int (if j < i then j else i)))
 | _=>False
def Jh (hm:X.mg "min" = none) (ha:EA Γ X (e :: es) t) (hc:X.calm=true:=by rfl) (hg:Gl X "min":=by rfl) (he:starEach (e :: es) X.env=(false,eval e X.env) :: starEach es X.env:=by rfl) (hpl:(backTo pos (starEach es X.env)).any (·.1)=false:=by rfl):ED Γ X (.Call (.Name "min" p) (e :: es) [] pos) (dCB sMin2 t) :=
 kn (Qb hc) (λH O ds vs φ Q ho hv h k=>by
  unfold sMin2 at h
  split at h
  ·obtain ⟨v,ws,rfl,h1,v2,ws2,rfl,h2,rfl⟩:=hv
   cases (show v=_ from h1)
   cases (show v2=_ from h2)
   exact ⟨_,_,rfl,k _ _ H (Same.refl H) (by exact rfl) h⟩
  ·exact h.elim) hm (by rfl) ha hg (by decide) (by decide) he hpl
def Room.far {k:Nat} {A:Around} (r:Room k A):A.units + 200 < cLine:=by have:=r.un; omega
def rEqH (K:W.Frag) (neg:Bool):R2:=λx y H Q=>∃ d e,Rep K H [] d x /\ Rep K H [] e y /\ okD 150 d /\ okD 150 e /\ Q (.bl (if neg then !eqD d e else eqD d e)) H
def Fc (hu:X.A.units + 200 < cLine):OpR X (compareOp .NotEq) (rEqH X.K true):=by
 intro pn s σ H x y v u Q I rx ry h
 obtain ⟨d,e,h1,h2,o1,o2,q⟩:=h
 exact (W2 I 150 d e x y v u X.A o1 o2 h1 h2 rx ry (by omega)).2.1 X.prog X.w X.xe _ ⟨.bl _,H,I,rfl,q⟩
def sNeH:D->D->(EV->Prop)->Prop:=λx y φ=>okD 150 x /\ okD 150 y /\ φ (dv (.bl (!eqD x y)))
def Mo (hu:X.A.units + 200 < cLine) (ha:ED Γ X a ta) (hb:ED Γ X b tb):ET Γ X (.Compare a [.NotEq] [b] pos) (tBo (d2 sNeH ta tb)) :=
 rg (Fc hu) (λH O x y vx vy φ Q ho hx hy h k=>⟨x,y,hx.rep0,hy.rep0,h.1,h.2.1,k _ _ H (Same.refl H) (by exact rfl) h.2.2⟩) ha hb (ud _)
variable {o:List (Nat × Addr)}
def REnv.chg2 (R:REnv K H₀ H σ ρ o) {i j:Nat} {a b:Addr} {d d' e e':D} (hs:ρ[i]?=some (some (dO d))) (hσ:σ[i]?=some (some (.ref a))) (hm:(i,a) ∈ o) (hs2:ρ[j]?=some (some (dO e))) (hσ2:σ[j]?=some (some (.ref b))) (hm2:(j,b) ∈ o) (hij:i ≠ j)
  (g:Grow [a,b] [a,b] H H') (c:Con1 K H' (o.map Prod.snd) d' a) (c2:Con1 K H' (o.map Prod.snd) e' b) :
  REnv K H₀ H' σ (setS (setS ρ i (dO d')) j (dO e')) o /\ Grow (o.map Prod.snd) (o.map Prod.snd) H H':=by
 have ha:a ∈ o.map Prod.snd:=zah.mpr ⟨_,hm,rfl⟩
 have hb:b ∈ o.map Prod.snd:=zah.mpr ⟨_,hm2,rfl⟩
 have kp:∀ c u,H c=some u->c ≠ a->c ≠ b->H' c=some u:=λc u h n n2=>(g.keep c u h λz=>(zam.mp z).elim n λz=>n2 (List.mem_singleton.mp z)).1
 have gO:Grow (o.map Prod.snd) (o.map Prod.snd) H H':=⟨λc u h n=>⟨kp c u h (λz=>n (by rw [z]; exact ha)) (λz=>n (by rw [z]; exact hb)),n⟩,g.tups,g.frzs⟩
 refine ⟨⟨λc u h=>kp c u (R.same c u h) (λz=>?_) (λz=>?_),R.fresh,λp hp=>?_,λp hp=>?_,R.nda,λl r q=>?_,?_⟩,gO⟩
 ·subst z
  rw [R.fresh _ hm] at h
  cases h
 ·subst z
  rw [R.fresh _ hm2] at h
  cases h
 ·by_cases hpa:p.2=a
  ·rw [hpa]; exact c.mtb.1
  by_cases hpb:p.2=b
  ·rw [hpb]; exact c2.mtb.1
  obtain ⟨u,e⟩:=R.trk p hp
  exact ⟨u,kp _ _ e hpa hpb⟩
 ·by_cases hpa:p.2=a
  ·rw [hpa]; exact c.mtb.2
  by_cases hpb:p.2=b
  ·rw [hpb]; exact c2.mtb.2
  obtain ⟨u,e⟩:=R.trk p hp
  obtain ⟨m1,m2⟩:=R.mtb p hp
  have e':=kp _ _ e hpa hpb
  refine ⟨λxs z=>?_,λob w z=>?_⟩
  ·rw [e'] at z; rw [<- e] at z; exact m1 xs z
  ·rw [e'] at z; rw [<- e] at z; exact m2 ob w z
 ·rw [xb,xb] at q
  by_cases hj:l=j
  ·subst hj
   have hl:l < ρ.length:=(zag.mp hs2).1
   rw [List.getElem?_set_self (by rw [List.length_set]; exact hl)] at q
   cases q
   exact ⟨_,hσ2,.inr ⟨rfl,b,rfl,hm2,c2⟩⟩
  rw [List.getElem?_set_ne (Ne.symm hj)] at q
  by_cases hi:l=i
  ·subst hi
   have hl:l < ρ.length:=(zag.mp hs).1
   rw [List.getElem?_set_self hl] at q
   cases q
   exact ⟨_,hσ,.inr ⟨rfl,a,rfl,hm,c⟩⟩
  rw [List.getElem?_set_ne (Ne.symm hi)] at q
  obtain ⟨w,ew,q⟩:=R.slots l r q
  refine ⟨w,ew,?_⟩
  rcases q with ⟨k,q⟩ | ⟨k,c0,e1,m,c'⟩
  ·exact .inl ⟨k,Rep.grow gO _ _ q⟩
  ·have h1:c0 ≠ a:=λz=>by
    subst z
    exact hi (congrArg Prod.fst (qt R.nda m hm rfl))
   have h2:c0 ≠ b:=λz=>by
    subst z
    exact hj (congrArg Prod.fst (qt R.nda m hm2 rfl))
   exact .inr ⟨k,c0,e1,m,c'.grow (λu h=>kp _ _ h h1 h2) gO⟩
 ·rw [xb,xb,List.length_set,List.length_set]; exact R.len
abbrev FT2:=D->D->List D->List D->(List D->List D->Prop)->Prop
def LsA (K:W.Frag) (H:Hp) (a:Addr) (cs:List D):Prop:=zn cs /\ ∃ xs,H a=some (.lst xs) /\ Reps K H [] cs xs
def LsA.con {K:W.Frag} {H:Hp} {a:Addr} {cs:List D} (h:LsA K H a cs) (O:List Addr):Con1 K H O (.lst cs) a:=let ⟨p,xs,hx,rx⟩:=h; ⟨xs,hx,Reps.pure _ _ p rx⟩
def sp2 (K:W.Frag) (T:FT2):Sp:=λvs H Q _=>∃ d0 d1 cs ss v0 v1 a b φ,vs=[v0,v1,.ref a,.ref b] /\ a ≠ b /\ zk d0 /\ zk d1 /\ Rep K H [] d0 v0 /\ Rep K H [] d1 v1 /\ LsA K H a cs /\ LsA K H b ss /\ T d0 d1 cs ss φ /\
 ∀ H' cs' ss',Grow [a,b] [a,b] H H'->LsA K H' a cs'->LsA K H' b ss'->φ cs' ss'->Q .non H'
structure F2 (P:Program) (w:World) (K:W.Frag) (mg:Str->Option Value) (base:Heap) (k:Nat) (x:Str) (ps:List Str) (T:FT2):Prop where
 ex:∃ f fd,FnOk P w K mg base CX0 k f fd ps (sp2 K T) /\ Binds K fd ps [] /\ W.keepIn K (.ref f)=true /\ mg x=some (.ref f)
abbrev TW:=DE->(DE->Prop)->Prop
def Ku (K:W.Frag) (H₀:Hp) (a b:Addr) (t:TW):TS:=λDz σ H=>∃ ρ,REnv K H₀ H σ ρ [(2,a),(3,b)] /\ ∃ Z,t ρ Z /\ ∀ ρ' σ' H',Grow [a,b] [a,b] H H'->REnv K H₀ H' σ' ρ' [(2,a),(3,b)]->Z ρ'->Dz.nx σ' H'
def WS (a b:Addr) (X:Cx) (st:Stmt) (t:TW):Prop:=∀ H₀:Hp,PS X st (Ku X.K H₀ a b t)
def WSs (a b:Addr) (X:Cx) (st:List Stmt) (t:TW):Prop:=∀ H₀:Hp,PSs X st (Ku X.K H₀ a b t)
section
variable {a b:Addr} {e1:Expr} {te1:TD} {rest l1 l2:List Stmt} {t u:TW} {y z:Str}
def wNil:TW:=λρ Z=>Z ρ
def L5:WSs a b X [] wNil:=λH₀=>jk j9 λDz σ H h=>by
 obtain ⟨ρ,R,Z,hZ,k⟩:=h
 exact k ρ σ H Grow.refl R hZ
def wSeq (t u:TW):TW:=λρ Z=>t ρ λρ'=>u ρ' Z
def uw (h1:WS a b X st t) (h2:WSs a b X rest u):WSs a b X (st :: rest) (wSeq t u):=λH₀=>jk (xu (h1 H₀) (h2 H₀)) λDz σ H h=>by
 obtain ⟨ρ,R,Z,hZ,k⟩:=h
 exact ⟨ρ,R,_,hZ,λρ' σ' H' g R' q=>⟨ρ',R',Z,q,λρ2 σ2 H2 g2 R2 q2=>k ρ2 σ2 H2 (g.trans g2) R2 q2⟩⟩
def Yy (h1:WS a b X st t):WSs a b X [st] t:=λH₀=>qk (h1 H₀)
def wSet (i:Nat) (te:TD):TW:=λρ Z=>te ρ λr=>r.k=.val /\ Z (setS ρ i (dv r.d))
def Jx (i:Nat) (hN:X.N.Nodup) (he:ED (λ_=>True) X e te) (hi:X.N[i]?=some x:=by rfl) (hx:Loc X.env.scope x:=by first | exact Or.inl rfl | exact Or.inr rfl) (hs:swapsWith e (some (.Name x pos')) pos.line X.env=pure false:=by rfl)
  (hf:X.fn x=true \/ X.env.scope.names.lookup x=some .local:=by first | exact .inl rfl | exact .inr rfl | assumption):WS a b X (.Assign [.Name x pos'] e pos) (wSet i te):=λH₀=>impS (su hN hi hx (he ⟨H₀,trivial⟩) hs hf) λDz σ H h=>by
 obtain ⟨ρ,R,Z,hZ,k⟩:=h
 refine ⟨ρ,_,R,_,hZ,λv r H1 s1 rv h1=>?_⟩
 obtain ⟨kd,d⟩:=r
 obtain ⟨rfl,h1⟩:=h1
 exact k _ _ _ (Grow.same s1) ((R.to s1).setV i rv) h1
def wApp (i:Nat) (te:TD):TW:=λρ Z=>match slot ρ i with
 | some ⟨.own,.lst ds⟩=>te ρ λr=>r.k=.val /\ ds.length <= 100000 /\ Z (setS ρ i (dO (.lst (ds ++ [r.d]))))
 | _=>False
def Z7 (i:Nat) (he:ED (λ_=>True) X e te) (hN:X.N[i]?=some x:=by rfl) (hv:Vis X.env.scope x:=by walk_at "o") (hd:(x == ("__debug__" : Str))=false:=by decide)
  (hcd:(x == ("__classdict__" : Str))=false:=by decide)
  (hp:∀ {ta tb:TE},PE X (.Name x np) ta->PE X e tb->PS X (.Expr (.Call (.Attribute (.Name x np) "append" apos) [e] [] cpos) pos) (dt (tBM X.K "list" j8 ta (X1 tb tNil))):=by
   intro ta tb h1 h2
   exact ww (X8 PySem.F.plainAttrs_list PySem.F.slot_list_append PySem.F.type_list_append ul h1 (yx h2 vi))) :
  WS a b X (.Expr (.Call (.Attribute (.Name x np) "append" apos) [e] [] cpos) pos) (wApp i te):=λH₀=>impS (hp (wq hN hv hd hcd) (he ⟨H₀,trivial⟩)) λD σ H h=>by
 obtain ⟨ρ,R,Z,hZ,k⟩:=h
 unfold wApp at hZ
 split at hZ
 ·rename_i ds es
  obtain ⟨v0,ev0,q0⟩:=R.slots i _ (yo es)
  rcases q0 with ⟨k,_⟩ | ⟨_,a0,rfl,m,c⟩
  ·cases k
  obtain ⟨xs,hx,rx⟩:=c
  refine ⟨.ref a0,ev0,.inl ⟨rfl,xs,SqL.of hx⟩,?_⟩
  refine ⟨ρ,_,R,_,hZ,λv r H1 s1 rv h1=>?_⟩
  obtain ⟨h0,hl,hn⟩:=h1
  have hx1:=s1 _ _ hx
  have R1:=R.to s1
  have rx1:=Reps.grow (Grow.same s1) _ _ rx
  refine ⟨a0,xs,v,rfl,rfl,hx1,?_,?_⟩
  ·rw [rx.length]
   exact Nat.lt_of_le_of_lt hl (by decide)
  ·obtain ⟨R2,g2⟩:=R1.chg (d':=.lst (ds ++ [r.d])) (ho:=.lst (xs ++ [v])) (yo es) ev0 m ⟨λ_ z=>(by cases z),λ_ _ z=>(by cases z)⟩ λgr=>⟨xs ++ [v],zy,gr _ _ (rx1.append (Reps.one (rv.solid (by rw [h0]; exact λz=>nomatch z))))⟩
   exact k _ σ _ ((Grow.same s1).trans g2) R2 hn
 ·exact hZ.elim
def wIf (tc:TDb) (t u:TW):TW:=λρ Z=>tc ρ λc=>(c=true->t ρ Z) /\ (c=false->u ρ Z)
def Ex {tc:TDb} (hc:ET (λ_=>True) X c tc) (h1:WSs a b X l1 t) (h2:WSs a b X l2 u):WS a b X (.If c l1 l2 pos) (wIf tc t u):=λH₀=>impS (Tx (hc ⟨H₀,trivial⟩) (h1 H₀) (h2 H₀)) λDz σ H h=>by
 obtain ⟨ρ,R,Z,hZ,k⟩:=h
 refine ⟨ρ,_,R,_,hZ,λc H1 s1 q=>?_⟩
 have kk:∀ ρ' σ' H',Grow [a,b] [a,b] H1 H'->REnv X.K H₀ H' σ' ρ' [(2,a),(3,b)]->Z ρ'->Dz.nx σ' H':=λρ' σ' H' g R' z=>k ρ' σ' H' ((Grow.same s1).trans g) R' z
 cases c with
 | true=>exact iteT ⟨ρ,R.to s1,Z,q.1 rfl,kk⟩
 | false=>exact iteF ⟨ρ,R.to s1,Z,q.2 rfl,kk⟩
def Jy (i:Nat) (te:TD) (tb:TW):TW:=λρ Z=>te ρ λr=>∃ n:Nat,r.d=.int n /\ n <= 1000 /\ ∃ P:Nat->DE->Prop,P 0 ρ /\ (∀ j ρ',j < n->P j ρ'->tb (setS ρ' i (dv (.int j))) (P (j + 1))) /\ ∀ ρ',P n ρ'->Z ρ'
def L6 (i:Nat) {tg:Expr} {p:Pos} {body:List Stmt} {tb:TW} (hm:X.mg "range" = none) (he:ED (λ_=>True) X e te) (hgt:PG X tg (se i)) (hb:WSs a b X body tb) (hc:X.calm=true:=by rfl) (hps:PassesOwn (model X.prog X.w) X.A X.env X.xe:=by exact PassesOwn.never)
  (hg:Gl X "range":=by rfl) (hs:starEach [e] X.env=[(false,eval e X.env)]:=by rfl) (hf:∀ x,foldedSetIterable (.Call (.Name "range" p) [e] [] cpos) X.env x=pure x:=by intro _; rfl) :
  WS a b X (.For tg (.Call (.Name "range" p) [e] [] cpos) body [] pos) (Jy i te tb):=λH₀=>impS (Nx hps hc (Zo hg hm (yx (he ⟨H₀,trivial⟩) vi hs) hs) hgt (hb H₀) hf) λDz σ H h=>by
 obtain ⟨ρ,R,Z,hZ,k⟩:=h
 refine ⟨ρ,_,R,_,hZ,λv r H1 s1 rv h1=>?_⟩
 obtain ⟨n,ed,hn,P,p0,turn,fin⟩:=h1
 have ev:=rv.view
 rw [ed] at ev
 cases (show v=_ from ev)
 refine ⟨n,rfl,by omega,by omega,?_⟩
 have en:(n:Int).toNat=n:=by omega
 rw [en]
 refine Rh (λj σ' H'=>∃ ρ',Grow [a,b] [a,b] H H' /\ REnv X.K H₀ H' σ' ρ' [(2,a),(3,b)] /\ P j ρ') ⟨ρ,Grow.same s1,R.to s1,p0⟩ ?_ ?_
 ·rintro j σ' H' hj ⟨ρ',g',R',p'⟩
  have e0:(0:Int) + (j:Int)=j:=by omega
  rw [e0]
  refine ⟨_,R'.setV i (d:=.int j) (v:=.int j) rfl,_,turn j ρ' hj p',λρ2 σ2 H2 g2 R2 q2=>⟨ρ2,g'.trans g2,R2,q2⟩⟩
 ·rintro σ' H' ⟨ρ',g',R',p'⟩
  exact k _ _ _ g' R' (fin _ p')
def wTwo (T:FT2) (t0 t1:TD):TW:=λρ Z=>t0 ρ λr0=>t1 ρ λr1=>zk r0.d /\ zk r1.d /\ r0.k=.val /\ r1.k=.val /\ ∃ cs ss,slot ρ 2=some (dO (.lst cs)) /\ slot ρ 3=some (dO (.lst ss)) /\ zn cs /\ zn ss /\ T r0.d r1.d cs ss λcs' ss'=>Z (setS (setS ρ 2 (dO (.lst cs'))) 3 (dO (.lst ss')))
def L7 {f:Str} {ps:List Str} {T:FT2} {k:Nat} {p p2 p3:Pos} (F:F2 X.prog X.w X.K X.mg X.base k f ps T) (hr:Room k X.A) (h0:ED (λ_=>True) X e te) (h1:ED (λ_=>True) X e1 te1) (hN:X.N[2]?=some x:=by rfl) (hv:Vis X.env.scope x:=by walk_at "o")
  (hN2:X.N[3]?=some y:=by rfl) (hv2:Vis X.env.scope y:=by walk_at "o") (hd:(x == ("__debug__" : Str))=false:=by decide) (hcd:(x == ("__classdict__" : Str))=false:=by decide) (hd2:(y == ("__debug__" : Str))=false:=by decide) (hcd2:(y == ("__classdict__" : Str))=false:=by decide)
  (hg:Gl X f:=by rfl) (hdb:(f == ("__debug__" : Str))=false:=by decide) (s0:starEach [e,e1,.Name x p2,.Name y p3] X.env=(false,eval e X.env) :: starEach [e1,.Name x p2,.Name y p3] X.env:=by rfl) (s1:starEach [e1,.Name x p2,.Name y p3] X.env=(false,eval e1 X.env) :: starEach [.Name x p2,.Name y p3] X.env:=by rfl)
  (s2:starEach [.Name x p2,.Name y p3] X.env=(false,eval (.Name x p2) X.env) :: starEach [.Name y p3] X.env:=by rfl) (s3:starEach [.Name y p3] X.env=(false,eval (.Name y p3) X.env) :: starEach [] X.env:=by rfl)
  (hpl:(backTo cpos (starEach [e1,.Name x p2,.Name y p3] X.env)).any (·.1)=false:=by rfl) (hsw:swapsWith (.Call (.Name f p) [e,e1,.Name x p2,.Name y p3] [] cpos) none pos.line X.env=pure false:=by rfl) :
  WS a b X (.Expr (.Call (.Name f p) [e,e1,.Name x p2,.Name y p3] [] cpos) pos) (wTwo T te te1):=λH₀=>by
 obtain ⟨fa,fd,ok,bb,kp,m⟩:=F.ex
 refine impS (ww (cg ok hr hg m kp bb .nil ci (yx (h0 ⟨H₀,trivial⟩) (yx (h1 ⟨H₀,trivial⟩) (yx (wq hN hv hd hcd) (yx (wq hN2 hv2 hd2 hcd2) vi s3) s2) s1) s0) hdb s0 hpl) hsw) λDz σ H h=>?_
 obtain ⟨ρ,R,Z,hZ,k⟩:=h
 refine ⟨ρ,_,R,_,hZ,λv0 r0 H1 m1 rv0 q0=>⟨ρ,_,R.to m1,_,q0,λv1 r1 H2 m2 rv1 q1=>?_⟩⟩
 obtain ⟨p0,p1,k0,k1,cs,ss,ec,es,pc,ps',q1⟩:=q1
 have R2:=(R.to m1).to m2
 obtain ⟨u2,eu2,g2⟩:=R2.slots 2 _ (yo ec)
 obtain ⟨u3,eu3,g3⟩:=R2.slots 3 _ (yo es)
 rcases g2 with ⟨z,_⟩ | ⟨_,a2,rfl,ma,c2⟩
 ·cases z
 rcases g3 with ⟨z,_⟩ | ⟨_,a3,rfl,mb,c3⟩
 ·cases z
 have ea:a2=a:=by
  rcases zam.mp ma with z | z
  ·exact congrArg Prod.snd z
  ·cases (List.mem_singleton.mp z)
 have eb:a3=b:=by
  rcases zam.mp mb with z | z
  ·cases z
  ·exact congrArg Prod.snd (List.mem_singleton.mp z)
 subst ea eb
 have ne:a2 ≠ a3:=λz=>by
  have:=R.nda
  rw [z] at this
  simp at this
 refine ⟨.ref a2,eu2,.ref a3,eu3,?_⟩
 obtain ⟨xs,hx,rx⟩:=c2
 obtain ⟨ys,hy,ry⟩:=c3
 obtain ⟨kd0,d0⟩:=r0
 obtain ⟨kd1,d1⟩:=r1
 cases k0
 cases k1
 refine ⟨d0,d1,cs,ss,v0,v1,a2,a3,_,rfl,ne,p0,p1,Rep.pure _ _ p0 (Rep.grow (Grow.same m2) _ _ rv0),Rep.pure _ _ p1 rv1,⟨pc,xs,hx,Reps.pure _ _ pc rx⟩,⟨ps',ys,hy,Reps.pure _ _ ps' ry⟩,q1,λH' cs' ss' g l1 l2 hz=>?_⟩
 obtain ⟨R',_⟩:=R2.chg2 (yo ec) eu2 ma (yo es) eu3 mb (by decide) g (l1.con _) (l2.con _)
 exact k _ _ _ (((Grow.same m1).trans (Grow.same m2)).trans g) R' hz
end
def Rn {x qual:Str} {st:Stmt} {f:Addr} {fd:FuncData} {N ps:List Str} {k:Nat} {T:FT2} (F:Fun K x qual st f fd) (S:zw N ps (ze st)) (b:Binds K fd ps []) (m:mg x=some (.ref f)) (hp:ps.length=4) (hN:N.length=6)
  (qY:∀ (qZ:Value) (A:Around) (outer:List Env) (s:Shared) (H:Hp) (E:XK) (a b:Addr) (d0 d1:D) (cs ss:List D) (φ:List D->List D->Prop),Room k (A.deeper (envOfC qual (ze st) s.heap.objs.size f qZ))->zk d0->zk d1->zn cs->zn ss->T d0 d1 cs ss φ ->
   ∃ t,WSs a b (cxOf CX0 P w K mg base N qual (ze st) f qZ A outer s H E).nox (yq st) t /\ t [some (dv d0),some (dv d1),some (dO (.lst cs)),some (dO (.lst ss)),none,none] (λρ=>∃ cs' ss',slot ρ 2=some (dO (.lst cs')) /\ slot ρ 3=some (dO (.lst ss')) /\ zn cs' /\ zn ss' /\ φ cs' ss')):F2 P w K mg base (k + 1) x ps T:=by
 refine ⟨f,fd,F.ok S (λvs H Q E h=>?_) (λqZ A outer s H vs Q E hr h=>?_),b,F.kp,m⟩
 ·obtain ⟨d0,d1,cs,ss,v0,v1,a,b,φ,rfl,_⟩:=h
  rw [hp]
  rfl
 ·obtain ⟨d0,d1,cs,ss,v0,v1,a,b,φ,rfl,ne,p0,p1,r0,r1,⟨pc,xs,hx,rx⟩,⟨ps',ys,hy,ry⟩,hT,kk⟩:=h
  obtain ⟨t,ht,hq⟩:=qY qZ A outer s H E a b d0 d1 cs ss φ hr p0 p1 pc ps' hT
  have hnot:∀ (u:HO),H a=some u->u=.lst xs:=λu q=>by rw [hx] at q; exact (Option.some.inj q).symm
  refine ⟨Ku K (wl [a,b] H) a b t,ht _,_,⟨uh _ H,λp hp'=>?_,λp hp'=>?_,λp hp'=>?_,?_,λi r' e=>?_,?_⟩,_,hq,λρ' σ' H' g R' q=>?_⟩
  ·rcases zam.mp hp' with rfl | hp'
   ·exact vq (zao ..)
   ·rw [List.mem_singleton.mp hp']; exact vq (zal _ (zao ..))
  ·rcases zam.mp hp' with rfl | hp'
   ·exact ⟨_,hx⟩
   ·rw [List.mem_singleton.mp hp']; exact ⟨_,hy⟩
  ·rcases zam.mp hp' with rfl | hp'
   ·exact ⟨(λzs z=>by rw [show H a=_ from hx] at z; cases z),(λob u z=>by rw [show H a=_ from hx] at z; cases z)⟩
   ·rw [List.mem_singleton.mp hp']
    exact ⟨(λzs z=>by rw [show H b=_ from hy] at z; cases z),(λob u z=>by rw [show H b=_ from hy] at z; cases z)⟩
  ·simp [ne]
  ·unfold ZZ.start
   match i,e with
   | 0,e=>cases e; exact ⟨_,rfl,.inl ⟨rfl,Rep.pure _ _ p0 r0⟩⟩
   | 1,e=>cases e; exact ⟨_,rfl,.inl ⟨rfl,Rep.pure _ _ p1 r1⟩⟩
   | 2,e=>cases e; exact ⟨_,rfl,.inr ⟨rfl,a,rfl,zao ..,xs,hx,Reps.pure _ _ pc rx⟩⟩
   | 3,e=>cases e; exact ⟨_,rfl,.inr ⟨rfl,b,rfl,zal _ (zao ..),ys,hy,Reps.pure _ _ ps' ry⟩⟩
   | 4,e=>cases e
   | 5,e=>cases e
   | n + 6,e=>cases e
  ·unfold ZZ.start
   simp [hN]
  ·obtain ⟨cs',ss',e2,e3,pc',ps2,hφ⟩:=q
   obtain ⟨u2,eu2,g2⟩:=R'.slots 2 _ (yo e2)
   obtain ⟨u3,eu3,g3⟩:=R'.slots 3 _ (yo e3)
   rcases g2 with ⟨z,_⟩ | ⟨_,a2,rfl,ma,c2⟩
   ·cases z
   rcases g3 with ⟨z,_⟩ | ⟨_,a3,rfl,mb,c3⟩
   ·cases z
   have ea:a2=a:=by
    rcases zam.mp ma with z | z
    ·exact congrArg Prod.snd z
    ·cases (List.mem_singleton.mp z)
   have eb:a3=b:=by
    rcases zam.mp mb with z | z
    ·cases z
    ·exact congrArg Prod.snd (List.mem_singleton.mp z)
   subst ea eb
   obtain ⟨xs',hx',rx'⟩:=c2
   obtain ⟨ys',hy',ry'⟩:=c3
   exact kk H' cs' ss' g ⟨pc',xs',hx',Reps.pure _ _ pc' rx'⟩ ⟨ps2,ys',hy',Reps.pure _ _ ps2 ry'⟩ hφ
variable {e1:Expr} {te1:TD} {y:Str}
def sTwo (i j:Nat) (T:FT2) (t0 t1:TD):TDS:=λρ Z=>t0 ρ λr0=>t1 ρ λr1=>zk r0.d /\ zk r1.d /\ r0.k=.val /\ r1.k=.val /\ ∃ cs ss,slot ρ i=some (dO (.lst cs)) /\ slot ρ j=some (dO (.lst ss)) /\ zn cs /\ zn ss /\ T r0.d r1.d cs ss λcs' ss'=>Z.nx (setS (setS ρ i (dO (.lst cs'))) j (dO (.lst ss')))
def P5 (i j:Nat) {f:Str} {ps:List Str} {T:FT2} {k:Nat} {p p2 p3:Pos} (hij:i ≠ j) (F:F2 X.prog X.w X.K X.mg X.base k f ps T) (hr:Room k X.A) (h0:ED Γ X e te) (h1:ED Γ X e1 te1) (hN:X.N[i]?=some x:=by rfl) (hv:Vis X.env.scope x:=by walk_at "o")
  (hN2:X.N[j]?=some y:=by rfl) (hv2:Vis X.env.scope y:=by walk_at "o") (hd:(x == ("__debug__" : Str))=false:=by decide) (hcd:(x == ("__classdict__" : Str))=false:=by decide) (hd2:(y == ("__debug__" : Str))=false:=by decide) (hcd2:(y == ("__classdict__" : Str))=false:=by decide)
  (hg:Gl X f:=by rfl) (hdb:(f == ("__debug__" : Str))=false:=by decide) (s0:starEach [e,e1,.Name x p2,.Name y p3] X.env=(false,eval e X.env) :: starEach [e1,.Name x p2,.Name y p3] X.env:=by rfl) (s1:starEach [e1,.Name x p2,.Name y p3] X.env=(false,eval e1 X.env) :: starEach [.Name x p2,.Name y p3] X.env:=by rfl)
  (s2':starEach [.Name x p2,.Name y p3] X.env=(false,eval (.Name x p2) X.env) :: starEach [.Name y p3] X.env:=by rfl) (s3:starEach [.Name y p3] X.env=(false,eval (.Name y p3) X.env) :: starEach [] X.env:=by rfl)
  (hpl:(backTo cpos (starEach [e1,.Name x p2,.Name y p3] X.env)).any (·.1)=false:=by rfl) (hsw:swapsWith (.Call (.Name f p) [e,e1,.Name x p2,.Name y p3] [] cpos) none pos.line X.env=pure false:=by rfl) :
  SD Γ X (.Expr (.Call (.Name f p) [e,e1,.Name x p2,.Name y p3] [] cpos) pos) (sTwo i j T te te1):=λH₀=>by
 obtain ⟨fa,fd,ok,bb,kp,m⟩:=F.ex
 refine impS (ww (cg ok hr hg m kp bb .nil ci (yx (h0 H₀) (yx (h1 H₀) (yx (wq hN hv hd hcd) (yx (wq hN2 hv2 hd2 hcd2) vi s3) s2') s1) s0) hdb s0 hpl) hsw) λDz σ H h=>?_
 obtain ⟨ρ,o,R,Z,hZ,k1',k2',k3',k4'⟩:=h
 refine ⟨ρ,o,R,_,hZ,λv0 r0 H1 m1 rv0 q0=>⟨ρ,o,R.to m1,_,q0,λv1 r1 H2 m2 rv1 q1=>?_⟩⟩
 obtain ⟨p0,p1,k0,k1,cs,ss,ec,es,pc,ps',q1⟩:=q1
 have R2:=(R.to m1).to m2
 obtain ⟨u2,eu2,g2⟩:=R2.slots i _ (yo ec)
 obtain ⟨u3,eu3,g3⟩:=R2.slots j _ (yo es)
 rcases g2 with ⟨z,_⟩ | ⟨_,a2,rfl,ma,c2⟩
 ·cases z
 rcases g3 with ⟨z,_⟩ | ⟨_,a3,rfl,mb,c3⟩
 ·cases z
 have ne:a2 ≠ a3:=λz=>hij (congrArg Prod.fst (qt R2.nda ma mb z))
 refine ⟨.ref a2,eu2,.ref a3,eu3,?_⟩
 obtain ⟨xs,hx,rx⟩:=c2
 obtain ⟨ys,hy,ry⟩:=c3
 obtain ⟨kd0,d0⟩:=r0
 obtain ⟨kd1,d1⟩:=r1
 cases k0
 cases k1
 refine ⟨d0,d1,cs,ss,v0,v1,a2,a3,_,rfl,ne,p0,p1,Rep.pure _ _ p0 (Rep.grow (Grow.same m2) _ _ rv0),Rep.pure _ _ p1 rv1,⟨pc,xs,hx,Reps.pure _ _ pc rx⟩,⟨ps',ys,hy,Reps.pure _ _ ps' ry⟩,q1,λH' cs' ss' g l1 l2 hz=>?_⟩
 obtain ⟨R',g'⟩:=R2.chg2 (yo ec) eu2 ma (yo es) eu3 mb hij g (l1.con _) (l2.con _)
 exact k1' _ _ _ o (((Grow.same m1).trans (Grow.same m2)).trans g') R' hz
def Fm {a b:String}:(Str.ofString a=Str.ofString b)=(a=b):=propext ⟨λh=>by
 rw [Str.ofString_eq_toList,Str.ofString_eq_toList] at h
 have h:=List.map_inj_right (λx y e=>Char.toNat_inj.mp e) |>.mp (by simpa using h:a.toList.map Char.toNat=b.toList.map Char.toNat)
 exact String.toList_inj.mp h,λh=>by rw [h]⟩
def Zk {Γ:Hp->Prop} {l:Nat} {X:Cx} {sts:List Stmt}:QSs Γ l X sts (λ_ _=>False):=λH₀=>jk Tv λD σ H h=>by
 obtain ⟨_,_,_,_,_,_,_,hZ,_⟩:=h
 exact hZ.elim
def cr {α:Type} {us:List α} (h:us.length=1):∃ a0,us=[a0]:=match us,h with
 | [a0],_=>⟨a0,rfl⟩
def sy {α:Type} {us:List α} (h:us.length=2):∃ a0 a1,us=[a0,a1]:=match us,h with
 | [a0,a1],_=>⟨a0,a1,rfl⟩
def gd {α:Type} {us:List α} (h:us.length=3):∃ a0 a1 a2,us=[a0,a1,a2]:=match us,h with
 | [a0,a1,a2],_=>⟨a0,a1,a2,rfl⟩
def Kz {α:Type} {us:List α} (h:us.length=4):∃ a0 a1 a2 a3,us=[a0,a1,a2,a3]:=match us,h with
 | [a0,a1,a2,a3],_=>⟨a0,a1,a2,a3,rfl⟩
def Dm {α:Type} {us:List α} (h:us.length=6):∃ a0 a1 a2 a3 a4 a5,us=[a0,a1,a2,a3,a4,a5]:=match us,h with
 | [a0,a1,a2,a3,a4,a5],_=>⟨a0,a1,a2,a3,a4,a5,rfl⟩
local macro_rules | `(tactic| walk_at "dl")=>do
 let ids <- (("sNil sSeq sRet sIf sSet Hr sUn d2 d1 ut dC slot setS EV.sto EV.ret aNil uu dTup dLst Q6 dCB j0 vAnd vOr vNot vIf bAnd bOr bNot bYes tTru tBo truD sSub sFd sMod sPow sLt sLe sGt sGe sI sI0 sAdd sMul sNeg sEq sNe sIs Wn O9 sIx1 sSl dSl Kp Ko sLen sIsI sTupC sListC sIntC sApp iSeq iR1 Mb gN gT2 wc Xj Y0 Ue Xp Xm Y3 Xl Xi Xh cv Xg Zx Y1 cy Xn List.map_cons List.map_nil zLc zLn List.cons_append List.nil_append List.replicate_succ List.replicate_zero Nat.reduceAdd Nat.reduceSub Nat.zero_add Nat.sub_self Bool.and_self Bool.and_true Bool.true_and true_and and_true Bool.not_true Bool.not_false forall_const true_implies false_implies Bool.true_eq_false Bool.false_eq_true reduceCtorEq implies_true zg Sj tx X9 W4 Jf Rq uc zk zn Bool.not_eq_eq_eq_not beq_eq_false_iff_ne beq_iff_eq ne_eq decide_eq_true_eq decide_eq_false_iff_not Bool.not_eq_true Bool.not_eq_false not_true_eq_false not_false_eq_true C5 C4 C3 and_self Nat.beq_eq Nat.ble_eq Nat.reduceLeDiff eq_self Nat.reduceEqDiff sIxx keyD sIn bp cp10 Int.reduceLE Int.reduceToNat Ux Jr zLm Option.map_some Int.zero_add Hs Int.reduceEq Int.reduceNeg Int.reduceLT clrS Option.map_none sFrz frzS iZ P4 P2 P3 Y6 sPop sExt sAug sIsB c7 Jm Dw Pj P6 Zz cw cx Y5 cz Zy Xk Y2 Ud Xo Y4 sDictP Ln seqD Hm Ww qSeq qSet Gc qE qT qB qIf qNil qRet Gf hid Lx Nv Ts dFld fE2 fTup Je fNil qFld Ly Gg Lz Ge Tu Pg pFld pIxQ Kh Ms Nw rE rP Hz List.getElem?_cons_succ List.getElem?_cons_zero ix0 ix1 ix2 ix3 ix4 ix5 ix6 ix7 Fm String.reduceEq Gd Vr at_0 N7 Ew Mt Hn gL4 sMin2".splitOn " ").toArray).mapM λs=>`(Lean.Parser.Tactic.simpLemma| $(Lean.mkIdent s.toName):ident)
 `(tactic| simp only [$ids,*])
seal SDs SD ED EA ET EW EQ QA QT QS QSs QL
structure Tops (mg:Str->Option Value):Prop where
 ValueError:mg "ValueError" = none
 all:mg "all" = none
 bool:mg "bool" = none
 dict:mg "dict" = none
 int:mg "int" = none
 isinstance:mg "isinstance" = none
 len:mg "len" = none
 list:mg "list" = none
 min:mg "min" = none
 range:mg "range" = none
 reversed:mg "reversed" = none
 tuple:mg "tuple" = none
 zip:mg "zip" = none
variable {f:Addr} {fd:FuncData}
def mth (i:Nat):Stmt:=xg (top 17) i
def zp:List Str:=["functions", "most", "calls", "steps", "frames", "tasks", "ready", "is_cut"]
def ix0:ixF zp "functions" = some 0:=by decide
def ix1:ixF zp "most" = some 1:=by decide
def ix2:ixF zp "calls" = some 2:=by decide
def ix3:ixF zp "steps" = some 3:=by decide
def ix4:ixF zp "frames" = some 4:=by decide
def ix5:ixF zp "tasks" = some 5:=by decide
def ix6:ixF zp "ready" = some 6:=by decide
def ix7:ixF zp "is_cut" = some 7:=by decide
structure MS where
 calls:List D
 steps:List D
 frames:List (Int × List (Str × D))
 tasks:List D
 ready:List D
 cut:Bool
def dkD (rows:List (Str × D)):D:=.dk (rows.map λp=>Sum.inr p.1) (rows.map Prod.snd)
def frD (p:Int × List (Str × D)):D:=.tup [.int p.1,dkD p.2]
def msD (C:Addr) (fns:List (Str × D)) (most:Int) (s:MS):D:=.ob C zp [dkD fns,.int most,.lst s.calls,.lst s.steps,.lst (s.frames.map frD),.lst s.tasks,.lst s.ready,.bl s.cut]
def xk (most:Int) (n:Int) (k:Str) (s:MS):Bool × MS:=if most <= s.steps.length then (false,{ s with cut:=true }) else (true,{ s with steps:=s.steps ++ [.tup [.int n,.str k]] })
def Qt1 (C:Addr):FTQ:=λd ds φ=>∃ fns most s n k,d=msD C fns most s /\ ds=[.int n,.str k] /\ s.steps.length <= 10000 /\ φ (.bl (xk most n k s).1) (msD C fns most (xk most n k s).2)
def J8 (T:Tops mg) (O:CO K C zp) (F:Fun K "step" "Run.step" (mth 3) f fd) (hm:Meth K C "step" f):FM P w K mg base 1 C zp "step" ["self", "number", "kind"] (Qt1 C):=by
 have S:zw ["self", "number", "kind"] ["self", "number", "kind"] (ze (mth 3)):=by walk_at "f"
 refine si F S (F.binds λ_ _ _ _ _ _ us hl=>(by obtain ⟨_,_,_,rfl⟩:=gd hl; rfl)) hm (by decide) λqZ A outer s H E d0 ds φ hr hl hT=>?_
 have hu:=hr.units
 refine ⟨_,(yh (va (vn (Eo (wj T.len (z0 (wt O (z9 0)) za)) (wt O (z9 0)))) (yh (Wt O ye (x9 wy))
    (y8 (Ws (W3 wy)))) fj)
   (yh (wd (xr O ye) (x9 (zm (z0 (z9 1) (z0 (z9 2) za)))))
   (y8 (Ws (W3 wy))))),?_⟩
 obtain ⟨fns,most,ms,n,k,rfl,rfl,hl5,h⟩:=hT
 unfold msD at h ⊢
 walk_at "dl"
 unfold xk at h
 refine ⟨λq=>⟨trivial,_,_,rfl,rfl,by decide,_,rfl,?_⟩,λq=>⟨_,_,rfl,rfl,_,_,rfl,rfl,by omega,⟨trivial,trivial,trivial⟩,_,rfl,?_⟩⟩
 ·rw [if_pos q] at h
  exact h
 ·rw [if_neg q] at h
  exact h
def rowG:List (Str × D)->Str->Option D
 | [],_=>none
 | p :: r,z=>if p.1=z then some p.2 else rowG r z
def jd (z:Str):∀ rows:List (Str × D),um (rows.map λp=>(Sum.inr p.1:Key)) (rows.map Prod.snd) (Sum.inr z)=rowG rows z
 | []=>rfl
 | p :: r=>by
  show (if (Sum.inr p.1:Key)=Sum.inr z then some p.2 else um (r.map λp=>(Sum.inr p.1:Key)) (r.map Prod.snd) (Sum.inr z))=_
  unfold rowG
  by_cases h:p.1=z
  ·rw [if_pos h,if_pos (by rw [h])]
  ·rw [if_neg h,if_neg (λe=>h (Sum.inr.inj e))]
   exact jd z r
def dg:∀ (zs:List Str) (vs:List D),zs.length=vs.length->(zs.map Sum.inr:List Key)=(zs.zip vs).map λp=>(Sum.inr p.1:Key)
 | [],_,_=>rfl
 | _ :: _,[],h=>by simp at h
 | z :: zs,v :: vs,h=>by rw [List.map_cons,List.zip_cons_cons,List.map_cons,dg zs vs (by simpa using h)]
def tOwn (C:Addr):FTQ:=λd ds φ=>∃ fns most s k fs n rows,d=msD C fns most s /\ ds=[.str k] /\ s.steps.length <= 10000 /\ s.frames=fs ++ [(n,rows)] /\ φ (.bl (xk most n k s).1) (msD C fns most (xk most n k s).2)
def Ng (C:Addr):FTQ:=λd ds φ=>∃ fns most s fs n rows,∃ zs:List Str,∃ vs:List D,d=msD C fns most s /\ ds=[.tup (zs.map D.str),.tup vs] /\ s.frames=fs ++ [(n,rows)] /\ zs.length=vs.length /\ zs.length <= 10 /\ rows.length <= 900 /\ (rows.map Prod.fst ++ zs).Nodup /\ zn vs /\ φ .non (msD C fns most { s with frames:=fs ++ [(n,rows ++ zs.zip vs)] })
def Wg (C:Addr):FTQ:=λd ds φ=>∃ fns most s,∃ rs us:List D,d=msD C fns most s /\ ds=[.int us.length] /\ s.ready=rs ++ us /\ us ≠ [] /\ us.length <= 10 /\ zn us /\ zn rs /\ s.ready.length <= 10000 /\ φ (.tup us) (msD C fns most { s with ready:=rs })
def Xu (T:Tops mg) (O:CO K C zp) (Cp:FM P w K mg base 1 C zp "step" ["self", "number", "kind"] (Qt1 C)) (F:Fun K "own_step" "Run.own_step" (mth 4) f fd) (hm:Meth K C "own_step" f):FM P w K mg base 2 C zp "own_step" ["self", "kind"] (tOwn C):=by
 have S:zw ["self", "kind"] ["self", "kind"] (ze (mth 4)):=by walk_at "f"
 refine si F S (F.binds λ_ _ _ _ _ _ us hl=>(by obtain ⟨_,_,rfl⟩:=sy hl; rfl)) hm (by decide) λqZ A outer s H E d0 ds φ hr hl hT=>?_
 have hu:=hr.units
 refine ⟨_,(y8 (Ws (yk O Cp (hr.mono (by decide)) (ca (W3 (zh hu (zh hu (wt O (z9 0)) (jt zc)) zc)) (y4 (z9 1) xa))))),?_⟩
 obtain ⟨fns,most,ms,k,fs,n,rows,rfl,rfl,hl5,hf,h⟩:=hT
 have hfr:ms.frames.map frD=fs.map frD ++ [.tup [.int n,dkD rows]]:=by rw [hf,zMa]; rfl
 have e0:msD C fns most ms=.ob C zp [dkD fns,.int most,.lst ms.calls,.lst ms.steps,.lst (fs.map frD ++ [.tup [.int n,dkD rows]]),.lst ms.tasks,.lst ms.ready,.bl ms.cut]:=by unfold msD; rw [hfr]
 rw [e0]
 walk_at "dl"
 refine ⟨_,rfl,fns,most,ms,n,k,e0.symm,rfl,hl5,_,rfl,h⟩
def Oh (T:Tops mg) (O:CO K C zp) (F:Fun K "stand" "Run.stand" (mth 6) f fd) (hm:Meth K C "stand" f):FM P w K mg base 1 C zp "stand" ["self", "names", "things"] (Ng C):=by
 have S:zw ["self", "names", "things", "standing"] ["self", "names", "things"] (ze (mth 6)):=by walk_at "f"
 refine si F S (F.binds λ_ _ _ _ _ _ us hl=>(by obtain ⟨_,_,_,rfl⟩:=gd hl; rfl)) hm (by decide) λqZ A outer s H E d0 ds φ hr hl hT=>?_
 have hu:=hr.units
 refine ⟨_,(Pf 3 (by decide) S.nd (Gq (Gq (xr O ye) (jt zc)) zc) (Vj T.dict T.zip (z0 (z9 1) (z0 (z9 2) za)))),?_⟩
 obtain ⟨fns,most,ms,fs,n,rows,zs,vs,rfl,rfl,hf,hl1,hl2,hl3,nd,pv,h⟩:=hT
 unfold msD at h ⊢
 rw [hf,zMa,List.map_cons,List.map_nil]
 have nd2:zs.Nodup:=(List.nodup_append.mp nd).2.1
 walk_at "dl"
 have lf:(fs.map frD ++ [frD (n,rows)]).length=fs.length + 1:=by rw [zLa,zLm]; rfl
 have at4:(fs.map frD ++ [frD (n,rows)])[fs.length]?=some (frD (n,rows)):=by
  have:=List.getElem?_append_right (l₁:=fs.map frD) (l₂:=[frD (n,rows)]) (i:=fs.length) (by rw [zLm]; exact zaj _)
  rw [this,zLm,Nat.sub_self]
  rfl
 have q1:∀ π,atQ (4 :: fs.length :: π) (.ob C zp [dkD fns,.int most,.lst ms.calls,.lst ms.steps,.lst (fs.map frD ++ [frD (n,rows)]),.lst ms.tasks,.lst ms.ready,.bl ms.cut])=atQ π (frD (n,rows)):=λπ=>by
  show (match (fs.map frD ++ [frD (n,rows)])[fs.length]? with | some x=>atQ π x | none=>none)=_
  rw [at4]
 refine ⟨_,_,rfl,rfl,_,_,_,_,fs.length,rfl,rfl,rfl,rfl,by rw [lf]; exact O8 _,_,_,_,_,1,rfl,q1 [],rfl,rfl,rfl,_,_,_,rfl,q1 [1],by decide,zs,vs,⟨.inr rfl,.inr rfl⟩,hl1,by omega,nd2,pv,by rw [zLm]; show rows.length + zs.length <= 1000; omega,?_,_,rfl,?_⟩
 ·have e:(rows.map λ(p:Str × D)=>(Sum.inr p.1:Key)) ++ zs.map Sum.inr=(rows.map Prod.fst ++ zs).map Sum.inr:=by rw [zMa,List.map_map]; rfl
  show ((rows.map λ(p:Str × D)=>(Sum.inr p.1:Key)) ++ zs.map Sum.inr).Nodup
  rw [e]
  exact List.Pairwise.map _ (λa b h e=>h (Sum.inr.inj e)) nd
 ·have e1:(rows.map λp=>(Sum.inr p.1:Key)) ++ zs.map Sum.inr=(rows ++ zs.zip vs).map λp=>(Sum.inr p.1:Key):=by
   rw [zMa]
   rw [dg zs vs hl1]
  have e2:rows.map Prod.snd ++ vs=(rows ++ zs.zip vs).map Prod.snd:=by rw [zMa,vd1 hl1]
  have e3:putQ [4,fs.length,1] (.ob C zp [dkD fns,.int most,.lst ms.calls,.lst ms.steps,.lst (fs.map frD ++ [frD (n,rows)]),.lst ms.tasks,.lst ms.ready,.bl ms.cut]) (.dk ((rows.map λp=>(Sum.inr p.1:Key)) ++ zs.map Sum.inr) (rows.map Prod.snd ++ vs))=.ob C zp [dkD fns,.int most,.lst ms.calls,.lst ms.steps,.lst (fs.map frD ++ [frD (n,rows ++ zs.zip vs)]),.lst ms.tasks,.lst ms.ready,.bl ms.cut]:=by
   rw [e1,e2]
   show D.ob C zp [dkD fns,.int most,.lst ms.calls,.lst ms.steps,(match (fs.map frD ++ [frD (n,rows)])[fs.length]? with | some x=>D.lst ((fs.map frD ++ [frD (n,rows)]).set fs.length (putQ [1] x (dkD (rows ++ zs.zip vs)))) | none=>.lst (fs.map frD ++ [frD (n,rows)])),.lst ms.tasks,.lst ms.ready,.bl ms.cut]=_
   rw [at4]
   show D.ob C zp [dkD fns,.int most,.lst ms.calls,.lst ms.steps,D.lst ((fs.map frD ++ [frD (n,rows)]).set fs.length (frD (n,rows ++ zs.zip vs))),.lst ms.tasks,.lst ms.ready,.bl ms.cut]=_
   rw [List.set_append_right _ _ (by rw [zLm]; exact zaj _),zLm,Nat.sub_self]
   rfl
  have h2:=h
  rw [show (fs ++ [(n,rows ++ zs.zip vs)]).map frD=fs.map frD ++ [frD (n,rows ++ zs.zip vs)] from by rw [zMa]; rfl] at h2
  rw [<- e3] at h2
  exact h2
def Og (T:Tops mg) (O:CO K C zp) (F:Fun K "taken" "Run.taken" (mth 7) f fd) (hm:Meth K C "taken" f):FM P w K mg base 1 C zp "taken" ["self", "many"] (Wg C):=by
 have S:zw ["self", "many", "parts"] ["self", "many"] (ze (mth 7)):=by walk_at "f"
 refine si F S (F.binds λ_ _ _ _ _ _ us hl=>(by obtain ⟨_,_,rfl⟩:=sy hl; rfl)) hm (by decide) λqZ A outer s H E d0 ds φ hr hl hT=>?_
 have hu:=hr.units
 refine ⟨_,(yh (Lu 2 (by decide) S.nd (x5 (wt O (z9 0)) (x8 (jt (z9 1))) wx))
   (yh (Wt O ye (x9 (x5 (wt O (z9 0)) wx (x8 (jt (z9 1))))))
   (y8 (Ws (W3 (rj T.tuple (z0 (z9 2) za))))))),?_⟩
 obtain ⟨fns,most,ms,rs,us,rfl,rfl,hf,ne,hl1,pu,pr,hl2,h⟩:=hT
 unfold msD at h ⊢
 rw [hf]
 obtain ⟨c1,c2⟩:=Q8 rs us ne
 walk_at "dl"
 rw [c1,c2]
 exact ⟨pu,pr,_,_,rfl,rfl,by decide,pu,_,rfl,h⟩
def vlD (e:D):D:=.tup [.str "value", e]
def bdD (b:D):D:=.tup [.str "body", b]
def X3 (C:Addr):FTQ:=λd ds φ=>∃ fns most s,∃ es:List D,∃ t,d=msD C fns most s /\ ds=[.tup es,t] /\ es.length <= 100 /\ zn es /\ zk t /\ s.tasks.length <= 10000 /\ φ .non (msD C fns most { s with tasks:=s.tasks ++ [t] ++ es.reverse.map vlD })
def T6 (C:Addr):FTQ:=λd ds φ=>∃ fns most s fs n rows z e b rs v,d=msD C fns most s /\ ds=[.tup [.str "let", .str z,e,b]] /\ s.frames=fs ++ [(n,rows)] /\ s.ready=rs ++ [v] /\ s.steps.length <= 10000 /\ s.ready.length <= 10000 /\ s.tasks.length <= 10000 /\ zk e /\ zk b /\ zk v /\ zn rs /\ rows.length <= 900 /\ (rows.map Prod.fst ++ [z]).Nodup /\
 φ .non (msD C fns most (match xk most n "let" s with
  | (true,s')=>{ s' with frames:=fs ++ [(n,rows ++ [(z,v)])],ready:=rs,tasks:=s.tasks ++ [bdD b] }
  | (false,s')=>s'))
def X2 (C:Addr):FTQ:=λd ds φ=>∃ fns most s fs n rows e1 e2 b1 b2 rs,∃ x y:Int,d=msD C fns most s /\ ds=[.tup [.str "less", e1,e2,b1,b2]] /\ s.frames=fs ++ [(n,rows)] /\ s.ready=rs ++ [.int x,.int y] /\ s.steps.length <= 10000 /\ s.ready.length <= 10000 /\ s.tasks.length <= 10000 /\ zk b1 /\ zk b2 /\ zn rs /\
 φ .non (msD C fns most (match xk most n "less" s with
  | (true,s')=>{ s' with ready:=rs,tasks:=s.tasks ++ [bdD (if x < y then b1 else b2)] }
  | (false,s')=>s'))
def T4 (C:Addr):FTQ:=λd ds φ=>∃ fns most s fs,∃ n:Nat,∃ rows nm args up rs v cl1 cl2,d=msD C fns most s /\ ds=[] /\ s.frames=fs ++ [((n:Int),rows)] /\ s.ready=rs ++ [v] /\ zk v /\ s.calls=cl1 ++ [.tup [nm,args,up,.bl false,.non]] ++ cl2 /\ cl1.length=n /\ zk nm /\ zk args /\ zk up /\
 φ .non (msD C fns most { s with frames:=fs,calls:=cl1 ++ [.tup [nm,args,up,.bl true,v]] ++ cl2 })
def Ol (T:Tops mg) (O:CO K C zp) (C7:FM P w K mg base 2 C zp "own_step" ["self", "kind"] (tOwn C)) (B7:FM P w K mg base 1 C zp "stand" ["self", "names", "things"] (Ng C)) (C9:FM P w K mg base 1 C zp "taken" ["self", "many"] (Wg C)) (F:Fun K "bring" "Run.bring" (mth 11) f fd) (hm:Meth K C "bring" f):FM P w K mg base 3 C zp "bring" ["self", "body"] (T6 C):=by
 have S:zw ["self", "body"] ["self", "body"] (ze (mth 11)):=by walk_at "f"
 refine si F S (F.binds λ_ _ _ _ _ _ us hl=>(by obtain ⟨_,_,rfl⟩:=sy hl; rfl)) hm (by decide) λqZ A outer s H E d0 ds φ hr hl hT=>?_
 have hu:=hr.units
 refine ⟨_,(y8 (va (Zj (yk O C7 (hr.mono (by decide)) (y4 zj xa))) (yh (xw (yk O B7 (hr.mono (by decide)) (y4 (x5 (z9 1) (x8 zc) (x8 zc)) (ca (yk O C9 (hr.mono (by decide)) (y4 zc xa)) xa))))
    (y8 (wd (xr O ye) (x9 (zm (z0 zj (z0 (zh hu (z9 1) zc) za))))))) fj)),?_⟩
 obtain ⟨fns,most,ms,fs,n,rows,z,e,b,rs,v,rfl,rfl,hf,hr1,hl1,hl2,hl3,pe,pb,pv,prs,hl4,nd,h⟩:=hT
 unfold msD
 walk_at "dl"
 refine ⟨_,rfl,fns,most,ms, "let", fs,n,rows,rfl,rfl,hl1,hf,?_⟩
 by_cases q:most <= ms.steps.length
 ·have es:xk most n "let" ms=(false,{ ms with cut:=true }):=by unfold xk; rw [if_pos q]
  rw [es] at h ⊢
  exact ⟨λy=>(nomatch y),λ_=>⟨_,rfl,h⟩⟩
 ·have es:xk most n "let" ms=(true,{ ms with steps:=ms.steps ++ [.tup [.int n,.str "let"]] }):=by unfold xk; rw [if_neg q]
  rw [es] at h ⊢
  have ec:cutD [D.str "let", .str z,e,b] (some 1) (some 2)=[z].map D.str:=rfl
  have ea:atI [D.str "let", .str z,e,b] (3:Int)=some b:=tu (by decide) rfl
  rw [ec,ea]
  refine ⟨λ_=>⟨_,rfl,by decide,_,rfl,fns,most,{ ms with steps:=ms.steps ++ [.tup [.int n,.str "let"]] },rs,[v],rfl,rfl,hr1,by simp,by simp,⟨pv,trivial⟩,prs,hl2,?_⟩,λy=>(nomatch y)⟩
  refine ⟨fns,most,{ ms with steps:=ms.steps ++ [.tup [.int n,.str "let"]],ready:=rs },fs,n,rows,[z],[v],rfl,rfl,hf,rfl,by simp,hl4,nd,⟨pv,trivial⟩,?_⟩
  exact ⟨_,_,rfl,rfl,_,_,rfl,rfl,by show ms.tasks.length <= 100000; omega,⟨trivial,pb,trivial⟩,_,rfl,h⟩
def Rk (T:Tops mg) (O:CO K C zp) (C7:FM P w K mg base 2 C zp "own_step" ["self", "kind"] (tOwn C)) (C9:FM P w K mg base 1 C zp "taken" ["self", "many"] (Wg C)) (F:Fun K "choose" "Run.choose" (mth 12) f fd) (hm:Meth K C "choose" f):FM P w K mg base 3 C zp "choose" ["self", "body"] (X2 C):=by
 have S:zw ["self", "body", "compared"] ["self", "body"] (ze (mth 12)):=by walk_at "f"
 refine si F S (F.binds λ_ _ _ _ _ _ us hl=>(by obtain ⟨_,_,rfl⟩:=sy hl; rfl)) hm (by decide) λqZ A outer s H E d0 ds φ hr hl hT=>?_
 have hu:=hr.units
 refine ⟨_,(y8 (va (Zj (yk O C7 (hr.mono (by decide)) (y4 zj xa))) (yh (qj 2 (by decide) S.nd (yk O C9 (hr.mono (by decide)) (y4 zc xa)))
    (y8 (wd (xr O ye) (x9 (zm (z0 zj (z0 (bw (En (zh hu (z9 2) zc) (zh hu (z9 2) zc)) (zh hu (z9 1) zc) (zh hu (z9 1) zc)) za))))))) fj)),?_⟩
 obtain ⟨fns,most,ms,fs,n,rows,e1,e2,b1,b2,rs,x,y,rfl,rfl,hf,hr1,hl1,hl2,hl3,p1,p2,prs,h⟩:=hT
 unfold msD
 walk_at "dl"
 refine ⟨_,rfl,fns,most,ms, "less", fs,n,rows,rfl,rfl,hl1,hf,?_⟩
 by_cases q:most <= ms.steps.length
 ·have es:xk most n "less" ms=(false,{ ms with cut:=true }):=by unfold xk; rw [if_pos q]
  rw [es] at h ⊢
  exact ⟨λy=>(nomatch y),λ_=>⟨_,rfl,h⟩⟩
 ·have es:xk most n "less" ms=(true,{ ms with steps:=ms.steps ++ [.tup [.int n,.str "less"]] }):=by unfold xk; rw [if_neg q]
  rw [es] at h ⊢
  refine ⟨λ_=>⟨_,rfl,fns,most,{ ms with steps:=ms.steps ++ [.tup [.int n,.str "less"]] },rs,[.int x,.int y],rfl,rfl,hr1,by simp,by simp,⟨trivial,trivial,trivial⟩,prs,hl2,?_⟩,λy=>(nomatch y)⟩
  have ea3:atI [D.str "less", e1,e2,b1,b2] (3:Int)=some b1:=tu (by decide) rfl
  have ea4:atI [D.str "less", e1,e2,b1,b2] (4:Int)=some b2:=tu (by decide) rfl
  refine ⟨_,_,rfl,rfl,_,_,rfl,rfl,by show ms.tasks.length <= 100000; omega,?_⟩
  simp only [at_0,N7,ea3,ea4]
  refine ⟨λq=>⟨⟨trivial,p1,trivial⟩,_,rfl,?_⟩,λq=>⟨⟨trivial,p2,trivial⟩,_,rfl,?_⟩⟩
  ·rw [if_pos q] at h
   exact h
  ·rw [if_neg q] at h
   exact h
def Oi (T:Tops mg) (O:CO K C zp) (F:Fun K "leave" "Run.leave" (mth 17) f fd) (hm:Meth K C "leave" f):FM P w K mg base 1 C zp "leave" ["self"] (T4 C):=by
 have S:zw ["self", "frame"] ["self"] (ze (mth 17)):=by walk_at "f"
 refine si F S (F.binds λ_ _ _ _ _ _ us hl=>(by obtain ⟨_,rfl⟩:=cr hl; rfl)) hm (by decide) λqZ A outer s H E d0 ds φ hr hl hT=>?_
 have hu:=hr.units
 refine ⟨_,(yh (xq (Zl 1 (by decide) S.nd (xr O ye)))
   (y8 (xq (Lv (xr O ye) (zh hu (z9 1) zc) (wg (x5 (zh hu (wt O (z9 0)) (zh hu (z9 1) zc)) wx (x8 zc)) (zm (z0 wy (z0 (zh hu (wt O (z9 0)) (jt zc)) za)))))))),?_⟩
 obtain ⟨fns,most,ms,fs,n,rows,nm,args,up,rs,v,cl1,cl2,rfl,rfl,hf,hr1,pv,hc,hn,p1,p2,p3,h⟩:=hT
 have hfr:ms.frames.map frD=fs.map frD ++ [frD ((n:Int),rows)]:=by rw [hf,zMa]; rfl
 have e0:msD C fns most ms=.ob C zp [dkD fns,.int most,.lst (cl1 ++ [.tup [nm,args,up,.bl false,.non]] ++ cl2),.lst ms.steps,.lst (fs.map frD ++ [frD ((n:Int),rows)]),.lst ms.tasks,.lst (rs ++ [v]),.bl ms.cut]:=by unfold msD; rw [hfr,hc,hr1]
 rw [e0]
 refine yj (λρ=>ρ=[some (dv (.ob C zp [dkD fns,.int most,.lst (cl1 ++ [.tup [nm,args,up,.bl false,.non]] ++ cl2),.lst ms.steps,.lst (fs.map frD),.lst ms.tasks,.lst (rs ++ [v]),.bl ms.cut])),some (dv (frD ((n:Int),rows)))]) ?_ ?_
 ·walk_at "dl"
  refine ⟨_,_,rfl,rfl,_,_,frD ((n:Int),rows),rfl,rfl,?_,?_⟩
  ·rw [zLa]
   show (fs.map frD ++ [frD ((n:Int),rows)])[(fs.map frD).length + 1 - 1]?=_
   rw [Nat.add_sub_cancel,List.getElem?_append_right (zaj _),Nat.sub_self]
   rfl
  ·rw [List.dropLast_concat]
   rfl
 rintro _ rfl
 have ha:atI (cl1 ++ [D.tup [nm,args,up,.bl false,.non]] ++ cl2) (n:Int)=some (.tup [nm,args,up,.bl false,.non]):=tu (by omega) (by
  rw [show ((n:Int)).toNat=cl1.length from by omega,List.append_assoc,List.getElem?_append_right (zaj _),Nat.sub_self]
  rfl)
 simp only [frD]
 refine ⟨λρ=>∃ d',slot ρ 0=some (dv d') /\ φ .non d',?_,λ_ y=>y⟩
 walk_at "dl"
 simp only [ha,Vr]
 have ec:cutD [nm,args,up,D.bl false,D.non] none (some 3)=[nm,args,up]:=rfl
 rw [ec]
 refine ⟨λy=>absurd y.2 (by unfold ZZ.sIx; simp),by simp,by rw [sizeLine_eq]; show 5 <= _; decide,⟨p1,p2,p3,trivial,pv,trivial⟩,_,_,rfl,rfl,_,_,_,n,rfl,rfl,rfl,?_,_,rfl,?_⟩
 ·unfold ixN
  rw [if_pos (by omega),if_pos (by rw [zLa,zLa]; simp; omega)]
  rfl
 ·have es:(cl1 ++ [D.tup [nm,args,up,.bl false,.non]] ++ cl2).set n (.tup ([nm,args,up] ++ [D.bl true,v]))=cl1 ++ [.tup [nm,args,up,.bl true,v]] ++ cl2:=by
   rw [List.append_assoc,List.set_append_right _ _ (by omega),hn,Nat.sub_self,List.append_assoc]
   rfl
  unfold msD at h
  simp only [hr1] at h
  rw [es]
  exact h
variable {R:Str->D->Int->Prop}
structure Con2 (K:W.Frag) (mg:Str->Option Value):Prop where
 c_MOST_CALLS:GC K mg "MOST_CALLS" (.int 20)
 c_MOST_SIZE:GC K mg "MOST_SIZE" (.int 100)
def Wh (R:Str->D->Int->Prop):FT:=g2 λa b φ=>∃ sh v n,a=.str sh /\ b=v /\ R sh v n /\ φ (dv (.int n))
def dr1 (C:Addr) (R:Str->D->Int->Prop):FTQ:=λd ds φ=>∃ fns most s fs n rows sh v sz,d=msD C fns most s /\ ds=[.str sh,v] /\ s.frames=fs ++ [(n,rows)] /\ s.steps.length <= 10000 /\ s.ready.length <= 10000 /\ zk v /\ R sh v sz /\
 φ .non (msD C fns most (if 100 < sz then { s with cut:=true } else match xk most n "make" s with
  | (true,s')=>{ s' with ready:=s.ready ++ [v] }
  | (false,s')=>s'))
def J9 (T:Tops mg) (Z:Con2 K mg) (O:CO K C zp) (C7:FM P w K mg base 2 C zp "own_step" ["self", "kind"] (tOwn C)) (Bw:FD P w K mg base 5 "size_of" ["shape", "value"] (Wh R)) (F:Fun K "make" "Run.make" (mth 15) f fd) (hm:Meth K C "make" f):FM P w K mg base 6 C zp "make" ["self", "shape", "thing"] (dr1 C R):=by
 have S:zw ["self", "shape", "thing"] ["self", "shape", "thing"] (ze (mth 15)):=by walk_at "f"
 refine si F S (F.binds λ_ _ _ _ _ _ us hl=>(by obtain ⟨_,_,_,rfl⟩:=gd hl; rfl)) hm (by decide) λqZ A outer s H E d0 ds φ hr hl hT=>?_
 have hu:=hr.units
 refine ⟨_,(y8 (va (vn (Oq (ya Bw (hr.mono (by decide)) (z0 (z9 1) (z0 (z9 2) za))) (Rx Z.c_MOST_SIZE))) (y8 (Wt O ye (x9 wy))) (y8 (va (Zj (yk O C7 (hr.mono (by decide)) (y4 zj xa))) (y8 (wd (xr O ye) (x9 (z9 2)))) fj)))),?_⟩
 obtain ⟨fns,most,ms,fs,n,rows,sh,v,sz,rfl,rfl,hf,hl1,hl2,pv,hR,h⟩:=hT
 unfold msD
 walk_at "dl"
 simp only [Wh,ZZ.g2]
 refine ⟨sh,v,sz,rfl,rfl,hR,λq=>⟨trivial,_,_,rfl,rfl,by decide,_,rfl,?_⟩,λq=>⟨_,rfl,fns,most,ms, "make", fs,n,rows,rfl,rfl,hl1,hf,?_⟩⟩
 ·rw [if_pos q] at h
  exact h
 rw [if_neg q] at h
 have fv:frs2 (dv v):=by
  cases v <;> first | exact pv | exact pv.elim
 by_cases q2:most <= ms.steps.length
 ·have es:xk most n "make" ms=(false,{ ms with cut:=true }):=by unfold xk; rw [if_pos q2]
  rw [es] at h ⊢
  exact ⟨λy=>(nomatch y),λ_=>⟨_,rfl,h⟩⟩
 ·have es:xk most n "make" ms=(true,{ ms with steps:=ms.steps ++ [.tup [.int n,.str "make"]] }):=by unfold xk; rw [if_neg q2]
  rw [es] at h ⊢
  exact ⟨λ_=>⟨_,_,rfl,rfl,_,_,rfl,rfl,by show ms.ready.length <= 100000; omega,fv,_,rfl,h⟩,λy=>(nomatch y)⟩
def Jn (v:D) (r:List D):ZZ.cutD (v :: r) (some 1) none=r:=by
 unfold ZZ.cutD
 simp [ZZ.sIx]
def jm {v:D} (pv:zk v):frs2 (dv v):=by
 cases v <;> first | exact pv | exact pv.elim
def Rl (T:Tops mg) (O:CO K C zp) (F:Fun K "behind" "Run.behind" (mth 8) f fd) (hm:Meth K C "behind" f):FM P w K mg base 1 C zp "behind" ["self", "parts", "task"] (X3 C):=by
 have S:zw ["self", "parts", "task"] ["self", "parts", "task"] (ze (mth 8)):=by walk_at "f"
 refine si F S (F.binds λ_ _ _ _ _ _ us hl=>(by obtain ⟨_,_,_,rfl⟩:=gd hl; rfl)) hm (by decide) λqZ A outer s H E d0 ds φ hr hl hT=>?_
 have hu:=hr.units
 refine ⟨_,(yh (xq (wd (xr O ye) (x9 (z9 2))))
   (y8 (xq (Lw (xr O ye) (wf (T:=["part"]) (F:=[]) (js:=[]) (Yk T.reversed (z0 (z9 1) za)) (show y9 (ze (mth 8)) _ ["part"] [] from by walk_at "c") .nil (by decide) (λcl C fp s H=>(y3 (i:=0) (show ((["part"]:List Str) ++ ([]:List Str)).Nodup by decide +kernel) rfl (by walk_at "o"))) (yy (by decide)) (yp 0) (λcl C fp s H=>xy) (λcl C fp s H=>(zm (z0 zj (z0 (z9 0) za))))))))),?_⟩
 obtain ⟨fns,most,ms,es,t,rfl,rfl,hl1,pe,pt,hl2,h⟩:=hT
 have ft:frs2 (dv t):=jm pt
 refine yj (λρ=>ρ=[some (dv (msD C fns most { ms with tasks:=ms.tasks ++ [t] })),some (dv (.tup es)),some (dv t)]) ?_ ?_
 ·unfold msD
  walk_at "dl"
  exact ⟨_,_,rfl,rfl,_,_,rfl,rfl,by show ms.tasks.length <= 100000; omega,ft,rfl⟩
 rintro _ rfl
 refine ⟨λρ=>∃ d',slot ρ 0=some (dv d') /\ φ .non d',?_,λ_ y=>y⟩
 unfold msD
 simp only [Lz,pFld,Kh,slot,List.getElem?_cons_zero,ix5]
 refine ⟨_,_,rfl,rfl,_,_,rfl,rfl,by show (ms.tasks ++ [t]).length <= 100000; rw [zLa]; simp; omega,?_⟩
 refine yw es.reverse ?_ (λd=>some (vlD d)) (by rw [List.length_reverse]; omega) ?_ ?_
 ·intro ψ hψ
  unfold iBT
  walk_at "dl"
  exact hψ
 ·intro d hd
  unfold ρ0
  walk_at "dl"
  rfl
 ·have ef:es.reverse.filterMap (λd=>some (vlD d))=es.reverse.map vlD:=by rw [<- List.filterMap_eq_map]; rfl
  rw [ef]
  refine ⟨?_,by rw [zLm,List.length_reverse]; omega,_,rfl,?_⟩
  ·refine yf.mpr λx hx=>?_
   obtain ⟨y,hy,rfl⟩:=zah.mp hx
   exact ⟨trivial,yf.mp pe y (List.mem_reverse.mp hy),trivial⟩
  ·exact h
def Uz (C:Addr):FT:=λds φ=>∃ fns most s z fs n rows v,ds=[msD C fns most s,.str z] /\ s.frames=fs ++ [(n,rows)] /\ rowG rows z=some v /\ zk v /\ φ (dv v)
def Y9 (T:Tops mg) (O:CO K C zp) (F:Fun K "standing" "Run.standing" (mth 5) f fd) (hm:Meth K C "standing" f):FMD P w K mg base 1 C zp "standing" ["self", "name"] (Uz C):=by
 have S:zw ["self", "name"] ["self", "name"] (ze (mth 5)):=by walk_at "f"
 refine Ei F S (F.binds λ_ _ _ _ _ _ us hl=>(by obtain ⟨_,_,rfl⟩:=sy hl; rfl)) hm (by decide) λqZ A outer s H E ds φ hr hl hT=>?_
 have hu:=hr.units
 refine ⟨_,(zu (yg (zh hu (zh hu (zh hu (wt O (z9 0)) (jt zc)) zc) (z9 1)))),?_⟩
 obtain ⟨fns,most,ms,z,fs,n,rows,v,rfl,hf,hv,pv,h⟩:=hT
 unfold msD
 rw [hf,zMa,List.map_cons,List.map_nil]
 simp only [frD]
 walk_at "dl"
 unfold dkD
 simp only [jd,hv]
 exact ⟨pv,h⟩
def apD (e:D):D:=.tup [.str "apply", e]
def tVal (C:Addr):FTQ:=λd ds φ=>∃ fns most s,d=msD C fns most s /\ s.tasks.length <= 10000 /\ s.ready.length <= 10000 /\
 ((∃ v,ds=[.tup [.str "num", v]] /\ zk v /\ φ .non (msD C fns most { s with ready:=s.ready ++ [v] })) \/
  (∃ fs n rows z v,ds=[.tup [.str "var", .str z]] /\ s.frames=fs ++ [(n,rows)] /\ rowG rows z=some v /\ zk v /\ φ .non (msD C fns most { s with ready:=s.ready ++ [v] })) \/
  (ds=[.tup [.str "leaf"]] /\ φ .non (msD C fns most { s with ready:=s.ready ++ [.non] })) \/
  (∃ f es,ds=[.tup [.str "call", f,.tup es]] /\ es.length <= 100 /\ zk f /\ zn es /\ φ .non (msD C fns most { s with tasks:=s.tasks ++ [apD (.tup [.str "call", f,.tup es])] ++ es.reverse.map vlD })) \/
  (∃ kd:Str,∃ es,ds=[.tup (.str kd :: es)] /\ (kd = "cons" \/ kd = "node" \/ kd = "add" \/ kd = "sub") /\ es.length <= 100 /\ zn es /\ φ .non (msD C fns most { s with tasks:=s.tasks ++ [apD (.tup (.str kd :: es))] ++ es.reverse.map vlD })))
def brD (b:D):D:=.tup [.str "bring", b]
def chD (b:D):D:=.tup [.str "choose", b]
def Ld (C:Addr):FTQ:=λd ds φ=>∃ fns most s,d=msD C fns most s /\ s.tasks.length <= 10000 /\
 ((∃ e,ds=[.tup [.str "give", e]] /\ zk e /\ φ .non (msD C fns most { s with tasks:=s.tasks ++ [vlD e] })) \/
  (∃ z e b,ds=[.tup [.str "let", z,e,b]] /\ zk z /\ zk e /\ zk b /\ φ .non (msD C fns most { s with tasks:=s.tasks ++ [brD (.tup [.str "let", z,e,b])] ++ [vlD e] })) \/
  (∃ e1 e2 b1 b2,ds=[.tup [.str "less", e1,e2,b1,b2]] /\ zk e1 /\ zk e2 /\ zk b1 /\ zk b2 /\ φ .non (msD C fns most { s with tasks:=s.tasks ++ [chD (.tup [.str "less", e1,e2,b1,b2])] ++ [vlD e2,vlD e1] })))
def wv {t u:TQS} {ρ:DE} {Z:QZ} (ρ2:DE) (h:∀ J:DE->Prop,J ρ2->t ρ { Z with nx:=J }) (h2:u ρ2 Z):qSeq t u ρ Z:=h _ h2
def yr {tc:TDb} {t u:TQS} {ρ:DE} {Z:QZ} (b:Bool) (h:∀ ψ:Bool->Prop,ψ b->tc ρ ψ) (h1:b=true->t ρ Z) (h2:b=false->u ρ Z):qIf (qT tc) t u ρ Z:=h _ ⟨h1,h2⟩
def cs {n m:Nat} {a b:Str} {Q:Prop} (h:Q):okD n (.str a) /\ okD m (.str b) /\ Q:=⟨tx ▸ trivial,tx ▸ trivial,h⟩
def gh (T:Tops mg) (O:CO K C zp) (Ca:FM P w K mg base 1 C zp "behind" ["self", "parts", "task"] (X3 C)) (Cf:FMD P w K mg base 1 C zp "standing" ["self", "name"] (Uz C)) (F:Fun K "begin_value" "Run.begin_value" (mth 13) f fd) (hm:Meth K C "begin_value" f):FM P w K mg base 2 C zp "begin_value" ["self", "expression"] (tVal C):=by
 have S:zw ["self", "expression", "kind"] ["self", "expression"] (ze (mth 13)):=by walk_at "f"
 refine si F S (F.binds λ_ _ _ _ _ _ us hl=>(by obtain ⟨_,_,rfl⟩:=sy hl; rfl)) hm (by decide) λqZ A outer s H E d0 ds φ hr hl hT=>?_
 have hu:=hr.units
 refine ⟨_,(yh (Tq 2 (by decide) S.nd (zh hu (z9 1) zc))
   (y8 (va (vn (xh hu (z9 2) zj)) (y8 (wd (xr O ye) (x9 (zh hu (z9 1) zc)))) (y8 (va (vn (xh hu (z9 2) zj)) (y8 (wd (xr O ye) (x9 (Ji O Cf (hr.mono (by decide)) (z9 0) (z0 (zh hu (z9 1) zc) za))))) (y8 (va (vn (xh hu (z9 2) zj)) Zk (y8 (va (vn (xh hu (z9 2) zj)) (y8 (wd (xr O ye) (x9 v8))) (y8 (va (vn (xh hu (z9 2) zj)) (y8 (xw (yk O Ca (hr.mono (by decide)) (y4 (zh hu (z9 1) zc) (y4 (zm (z0 zj (z0 (z9 1) za))) xa))))) (y8 (xw (yk O Ca (hr.mono (by decide)) (y4 (x5 (z9 1) (x8 zc) wx) (y4 (zm (z0 zj (z0 (z9 1) za))) xa)))))))))))))))),?_⟩
 obtain ⟨fns,most,ms,rfl,hl1,hl2,h⟩:=hT
 unfold msD
 rcases h with ⟨v,rfl,pv,h⟩ | ⟨fs,n,rows,z,v,rfl,hf,hv,pv,h⟩ | ⟨rfl,h⟩ | ⟨ff,es,rfl,hl3,pf,pe,h⟩ | ⟨kd,es,rfl,hk,hl3,pe,h⟩
 ·refine wv [_,_,some (dv (.str _))] (λJ hJ=>⟨trivial,hJ⟩) (yr true (λ_=>cs) (λ_=>?_) nofun)
  exact ⟨_,_,rfl,rfl,_,_,rfl,rfl,by show ms.ready.length <= 100000; omega,jm pv,_,rfl,h⟩
 ·refine wv [_,_,some (dv (.str _))] (λJ hJ=>⟨trivial,hJ⟩) (yr false (λ_=>cs) nofun λ_=>yr true (λ_=>cs) (λ_=>?_) nofun)
  refine ⟨_,_,rfl,rfl,_,_,rfl,rfl,by show ms.ready.length <= 100000; omega,⟨_,rfl⟩,?_⟩
  refine ⟨rfl,fns,most,ms,z,fs,n,rows,v,rfl,hf,hv,pv,?_⟩
  exact ⟨jm pv,_,rfl,h⟩
 ·refine wv [_,_,some (dv (.str _))] (λJ hJ=>⟨trivial,hJ⟩) (yr false (λ_=>cs) nofun λ_=>yr false (λ_=>cs) nofun λ_=>yr false (λ_=>cs) nofun λ_=>yr true (λ_=>cs) (λ_=>?_) nofun)
  exact ⟨_,_,rfl,rfl,_,_,rfl,rfl,by show ms.ready.length <= 100000; omega,trivial,_,rfl,h⟩
 ·refine wv [_,_,some (dv (.str _))] (λJ hJ=>⟨trivial,hJ⟩) (yr false (λ_=>cs) nofun λ_=>yr false (λ_=>cs) nofun λ_=>yr false (λ_=>cs) nofun λ_=>yr false (λ_=>cs) nofun λ_=>yr true (λ_=>cs) (λ_=>?_) nofun)
  refine ⟨_,rfl,trivial,rfl,rfl,trivial,rfl,fns,most,ms,es,apD _,rfl,rfl,hl3,pe,⟨trivial,⟨trivial,pf,pe,trivial⟩,trivial⟩,hl1,?_⟩
  exact ⟨_,rfl,h⟩
 ·rcases hk with rfl | rfl | rfl | rfl
  all_goals
   refine wv [_,_,some (dv (.str _))] (λJ hJ=>by walk_at "dl"; exact hJ) (yr false (λ_=>cs) nofun λ_=>yr false (λ_=>cs) nofun λ_=>yr false (λ_=>cs) nofun λ_=>yr false (λ_=>cs) nofun λ_=>yr false (λ_=>cs) nofun λ_=>?_)
   walk_at "dl"
   rw [Jn]
   refine ⟨_,rfl,⟨λy=>absurd y.1 (by unfold ZZ.sIx; simp),?_⟩⟩
   refine ⟨fns,most,ms,es,apD _,rfl,rfl,hl3,pe,⟨trivial,⟨trivial,pe⟩,trivial⟩,hl1,?_⟩
   exact ⟨_,rfl,h⟩
def bo (T:Tops mg) (O:CO K C zp) (Ca:FM P w K mg base 1 C zp "behind" ["self", "parts", "task"] (X3 C)) (F:Fun K "begin_body" "Run.begin_body" (mth 9) f fd) (hm:Meth K C "begin_body" f):FM P w K mg base 3 C zp "begin_body" ["self", "body"] (Ld C):=by
 have S:zw ["self", "body", "kind"] ["self", "body"] (ze (mth 9)):=by walk_at "f"
 refine si F S (F.binds λ_ _ _ _ _ _ us hl=>(by obtain ⟨_,_,rfl⟩:=sy hl; rfl)) hm (by decide) λqZ A outer s H E d0 ds φ hr hl hT=>?_
 have hu:=hr.units
 refine ⟨_,(yh (Tq 2 (by decide) S.nd (zh hu (z9 1) zc))
   (y8 (va (vn (xh hu (z9 2) zj)) (y8 (wd (xr O ye) (x9 (zm (z0 zj (z0 (zh hu (z9 1) zc) za)))))) (y8 (va (vn (xh hu (z9 2) zj)) (y8 (xw (yk O Ca (hr.mono (by decide)) (y4 (x5 (z9 1) (x8 zc) (x8 zc)) (y4 (zm (z0 zj (z0 (z9 1) za))) xa))))) (y8 (va (vn (xh hu (z9 2) zj)) (y8 (xw (yk O Ca (hr.mono (by decide)) (y4 (x5 (z9 1) (x8 zc) (x8 zc)) (y4 (zm (z0 zj (z0 (z9 1) za))) xa))))) Zk))))))),?_⟩
 obtain ⟨fns,most,ms,rfl,hl1,h⟩:=hT
 unfold msD
 rcases h with ⟨v,rfl,pv,h⟩ | ⟨z,e,b,rfl,p1,p2,p3,h⟩ | ⟨e1,e2,b1,b2,rfl,p1,p2,p3,p4,h⟩
 ·refine wv [_,_,some (dv (.str _))] (λJ hJ=>⟨trivial,hJ⟩) (yr true (λ_=>cs) (λ_=>?_) nofun)
  exact ⟨_,_,rfl,rfl,_,_,rfl,rfl,by show ms.tasks.length <= 100000; omega,rfl,rfl,⟨trivial,pv,trivial⟩,_,rfl,h⟩
 ·refine wv [_,_,some (dv (.str _))] (λJ hJ=>⟨trivial,hJ⟩) (yr false (λ_=>cs) nofun λ_=>yr true (λ_=>cs) (λ_=>?_) nofun)
  refine ⟨_,rfl,⟨λy=>(nomatch y.1),trivial,rfl,rfl,trivial,rfl,fns,most,ms,[e],brD _,rfl,rfl,by simp,⟨p2,trivial⟩,⟨trivial,⟨trivial,p1,p2,p3,trivial⟩,trivial⟩,hl1,?_⟩⟩
  exact ⟨_,rfl,h⟩
 ·refine wv [_,_,some (dv (.str _))] (λJ hJ=>⟨trivial,hJ⟩) (yr false (λ_=>cs) nofun λ_=>yr false (λ_=>cs) nofun λ_=>yr true (λ_=>cs) (λ_=>?_) nofun)
  refine ⟨_,rfl,⟨λy=>(nomatch y.1),trivial,rfl,rfl,trivial,rfl,fns,most,ms,[e1,e2],chD _,rfl,rfl,by simp,⟨p1,p2,trivial⟩,⟨trivial,⟨trivial,p1,p2,p3,p4,trivial⟩,trivial⟩,hl1,?_⟩⟩
  exact ⟨_,rfl,h⟩
def pmD (ps:List (Str × D)):D:=.tup (ps.map λp=>.tup [.str p.1,p.2])
def upD (fs:List (Int × List (Str × D))):D:=match fs.getLast? with
 | some p=>.int p.1
 | none=>.non
def uo (most:Int) (nm:Str) (as:List D) (ps:List (Str × D)) (b:D) (s:MS):MS:=if 20 <= s.frames.length then { s with cut:=true } else match xk most s.calls.length "call" s with
 | (true,s')=>{ s' with calls:=s.calls ++ [.tup [.str nm,.tup as,upD s.frames,.bl false,.non]],frames:=s.frames ++ [((s.calls.length:Int),(ps.map Prod.fst).zip as)],tasks:=s.tasks ++ [.tup [.str "leave"]] ++ [bdD b] }
 | (false,s')=>s'
def gw (C:Addr):FTQ:=λd ds φ=>∃ fns most s,∃ nm:Str,∃ as:List D,∃ n0 ps sz b,d=msD C fns most s /\ ds=[.str nm,.tup as] /\ rowG fns nm=some (.tup [n0,pmD ps,sz,b]) /\ zk n0 /\ zn (ps.map Prod.snd) /\ zk sz /\ zk b /\ zn as /\ ps.length=as.length /\ as.length <= 10 /\ (ps.map Prod.fst).Nodup /\ s.steps.length <= 10000 /\ s.calls.length <= 10000 /\ s.tasks.length <= 10000 /\
 φ .non (msD C fns most (uo most nm as ps b s))
def T7 (C:Addr) (R:Str->D->Int->Prop):FTQ:=λd ds φ=>∃ fns most s rs,d=msD C fns most s /\ s.ready.length <= 10000 /\ zn rs /\
 ((∃ nm:Str,∃ es us,ds=[.tup [.str "call", .str nm,.tup es]] /\ s.ready=rs ++ us /\ us.length=es.length /\ us ≠ [] /\ us.length <= 10 /\ zn us /\ gw C (msD C fns most { s with ready:=rs }) [.str nm,.tup us] φ) \/
  (∃ e1 e2 v r,ds=[.tup [.str "cons", e1,e2]] /\ s.ready=rs ++ [v,.tup r] /\ zk v /\ zn r /\ r.length <= 10000 /\ dr1 C R (msD C fns most { s with ready:=rs }) [.str "list", .tup (v :: r)] φ) \/
  (∃ e1 e2 e3 v1 v2 v3,ds=[.tup [.str "node", e1,e2,e3]] /\ s.ready=rs ++ [v1,v2,v3] /\ zk v1 /\ zk v2 /\ zk v3 /\ dr1 C R (msD C fns most { s with ready:=rs }) [.str "tree", .tup [v1,v2,v3]] φ) \/
  (∃ (kd:Str),∃ e1 e2,∃ x y:Int,∃ fs n rows,ds=[.tup [.str kd,e1,e2]] /\ (kd = "add" \/ kd = "sub") /\ s.frames=fs ++ [(n,rows)] /\ s.steps.length <= 10000 /\ s.ready=rs ++ [.int x,.int y] /\
    φ .non (msD C fns most (match xk most n "sum" s with
   | (true,s')=>{ s' with ready:=rs ++ [.int (if kd = "add" then x + y else x - y)] }
   | (false,s')=>s'))))
def X0 {d:D} {ds:List D} {φ ψ:D->D->Prop} (h:gw C d ds φ) (k:∀ d,φ .non d->ψ .non d):gw C d ds ψ:=by
 obtain ⟨fns,most,s,nm,as,n0,ps,sz,b,h1,h2,h3,h4,h5,h6,h7,h8,h9,h10,h11,h12,h13,h14,h⟩:=h
 exact ⟨fns,most,s,nm,as,n0,ps,sz,b,h1,h2,h3,h4,h5,h6,h7,h8,h9,h10,h11,h12,h13,h14,k _ h⟩
def gq {d:D} {ds:List D} {φ ψ:D->D->Prop} (h:dr1 C R d ds φ) (k:∀ d,φ .non d->ψ .non d):dr1 C R d ds ψ:=by
 obtain ⟨fns,most,s,fs,n,rows,sh,v,sz,h1,h2,h3,h4,h5,h6,h7,h⟩:=h
 exact ⟨fns,most,s,fs,n,rows,sh,v,sz,h1,h2,h3,h4,h5,h6,h7,k _ h⟩
def Oj (T:Tops mg) (Z:Con2 K mg) (O:CO K C zp) (Cp:FM P w K mg base 1 C zp "step" ["self", "number", "kind"] (Qt1 C)) (F:Fun K "enter" "Run.enter" (mth 16) f fd) (hm:Meth K C "enter" f):FM P w K mg base 2 C zp "enter" ["self", "name", "args"] (gw C):=by
 have S:zw ["self", "name", "args", "number", "up", "function"] ["self", "name", "args"] (ze (mth 16)):=by walk_at "f"
 refine si F S (F.binds λ_ _ _ _ _ _ us hl=>(by obtain ⟨_,_,_,rfl⟩:=gd hl; rfl)) hm (by decide) λqZ A outer s H E d0 ds φ hr hl hT=>?_
 have hu:=hr.units
 refine ⟨_,(yh (xq (qj 3 (by decide) S.nd (W3 (wj T.len (z0 (wt O (z9 0)) za)))))
   (y8 (xq (va (vn (Eo (wj T.len (z0 (wt O (z9 0)) za)) (Rx Z.c_MOST_CALLS))) (y8 (xq (Wt O ye (x9 wy)))) (y8 (xq (va (Zj (yk O Cp (hr.mono (by decide)) (y4 (z9 3) (y4 zj xa)))) (yh (xq (qj 4 (by decide) S.nd (W3 (bw (xj (wt O (z9 0))) (zh hu (zh hu (wt O (z9 0)) (jt zc)) zc) v8))))
     (yh (xq (qj 5 (by decide) S.nd (W3 (zh hu (wt O (z9 0)) (z9 1)))))
     (yh (xq (wd (xr O ye) (x9 (zm (z0 (z9 1) (z0 (z9 2) (z0 (z9 4) (z0 wy (z0 v8 za)))))))))
     (yh (xq (wd (xr O ye) (Es (Vi (x9 (z9 3)) (Vi (x9 (Vj T.dict T.zip (z0 (wf (T:=["param", "shape"]) (F:=[]) (js:=[]) (v7 (zh hu (z9 5) zc)) (show y9 (ze (mth 16)) _ ["param", "shape"] [] from by walk_at "c") .nil (by decide) (λcl C fp s H=>(cf (K0:=K) (n:=2) (by rfl) (by rfl) (x4 (y3 (i:=0) (show ((["param", "shape"]:List Str) ++ ([]:List Str)).Nodup by decide +kernel) rfl (by walk_at "o")) (x4 (y3 (i:=1) (show ((["param", "shape"]:List Str) ++ ([]:List Str)).Nodup by decide +kernel) rfl (by walk_at "o")) ql)))) (Rc (qv ua (Xs ua fo) (yy (by decide)) (qv ua fo (yy (by decide)) Re))) (bh 0 1) (λcl C fp s H=>xy) (λcl C fp s H=>(z9 0))) (z0 (z9 2) za)))) Jg)))))
     (yh (xq (wd (xr O ye) (x9 (zm (z0 zj za)))))
     (y8 (xq (wd (xr O ye) (x9 (zm (z0 zj (z0 (zh hu (z9 5) zc) za)))))))))))) fj))))))),?_⟩
 obtain ⟨fns,most,ms,nm,as,n0,ps,sz,b,rfl,rfl,hf,p1,p2,p3,p4,p5,hl,hl2,nd,hl3,hl4,hl5,h⟩:=hT
 refine yj (λρ=>ρ=[some (dv (msD C fns most ms)),some (dv (.str nm)),some (dv (.tup as)),some (dv (.int ms.calls.length)),none,none]) ?_ ?_
 ·unfold msD
  walk_at "dl"
 rintro _ rfl
 refine ⟨λρ=>∃ d',slot ρ 0=some (dv d') /\ φ .non d',?_,λ_ y=>y⟩
 unfold msD
 walk_at "dl"
 refine ⟨λq=>⟨λρ=>∃ d',slot ρ 0=some (dv d') /\ φ .non d',?_,λ_ y=>y⟩,λq=>⟨λρ=>∃ d',slot ρ 0=some (dv d') /\ φ .non d',?_,λ_ y=>y⟩⟩
 ·unfold uo at h
  rw [if_pos (by omega)] at h
  walk_at "dl"
  exact ⟨trivial,_,_,rfl,rfl,by decide,_,rfl,h⟩
 unfold uo at h
 rw [if_neg (by omega)] at h
 walk_at "dl"
 refine ⟨_,rfl,fns,most,ms,ms.calls.length, "call", rfl,rfl,hl3,?_⟩
 by_cases q2:most <= ms.steps.length
 ·have es:xk most ms.calls.length "call" ms=(false,{ ms with cut:=true }):=by unfold xk; rw [if_pos q2]
  rw [es] at h ⊢
  exact ⟨λy=>(nomatch y),λ_=>⟨_,rfl,h⟩⟩
 have es:xk most ms.calls.length "call" ms=(true,{ ms with steps:=ms.steps ++ [.tup [.int ms.calls.length,.str "call"]] }):=by unfold xk; rw [if_neg q2]
 rw [es] at h ⊢
 refine ⟨λ_=>?_,λy=>(nomatch y)⟩
 generalize e1:({ ms with steps:=ms.steps ++ [.tup [.int ms.calls.length,.str "call"]] }:MS)=s1 at h ⊢
 have f1:s1.frames=ms.frames:=by rw [<- e1]
 have f2:s1.calls=ms.calls:=by rw [<- e1]
 have f3:s1.tasks=ms.tasks:=by rw [<- e1]
 refine yj (λρ=>ρ=[some (dv (msD C fns most s1)),some (dv (.str nm)),some (dv (.tup as)),some (dv (.int ms.calls.length)),some (dv (upD ms.frames)),none]) ?_ ?_
 ·unfold msD
  rw [f1]
  rcases List.eq_nil_or_concat ms.frames with e | ⟨fs,p,e⟩
  ·rw [e]
   walk_at "dl"
   exact ⟨λz=>(nomatch z),λ_=>rfl⟩
  ·obtain ⟨pn,pr⟩:=p
   rw [e,List.concat_eq_append,zMa]
   have eu:upD (fs ++ [(pn,pr)])=.int pn:=by unfold upD; simp
   rw [eu]
   simp only [frD,List.map_cons,List.map_nil]
   walk_at "dl"
   exact λz=>absurd z (by simp)
 rintro _ rfl
 have ppm:zk (pmD ps):=yf.mpr λx hx=>by
  obtain ⟨y,hy,rfl⟩:=zah.mp hx
  exact ⟨trivial,yf.mp p2 _ (zah.mpr ⟨y,hy,rfl⟩),trivial⟩
 refine yj (λρ=>ρ=[some (dv (msD C fns most s1)),some (dv (.str nm)),some (dv (.tup as)),some (dv (.int ms.calls.length)),some (dv (upD ms.frames)),some (dv (.tup [n0,pmD ps,sz,b]))]) ?_ ?_
 ·unfold msD
  walk_at "dl"
  unfold dkD
  simp only [jd,hf]
  exact ⟨⟨p1,ppm,p3,p4,trivial⟩,trivial⟩
 rintro _ rfl
 have pu:zk (upD ms.frames):=by unfold upD; split <;> trivial
 refine yj (λρ=>ρ=[some (dv (msD C fns most { s1 with calls:=ms.calls ++ [.tup [.str nm,.tup as,upD ms.frames,.bl false,.non]] })),some (dv (.str nm)),some (dv (.tup as)),some (dv (.int ms.calls.length)),some (dv (upD ms.frames)),some (dv (.tup [n0,pmD ps,sz,b]))]) ?_ ?_
 ·unfold msD
  walk_at "dl"
  refine ⟨_,_,rfl,rfl,_,_,rfl,rfl,by show s1.calls.length <= 100000; rw [f2]; omega,⟨trivial,p5,pu,trivial,trivial,trivial⟩,?_⟩
  rw [f2]
  rfl
 rintro _ rfl
 refine yj (λρ=>ρ=[some (dv (msD C fns most { s1 with calls:=ms.calls ++ [.tup [.str nm,.tup as,upD ms.frames,.bl false,.non]],frames:=ms.frames ++ [((ms.calls.length:Int),(ps.map Prod.fst).zip as)] })),some (dv (.str nm)),some (dv (.tup as)),some (dv (.int ms.calls.length)),some (dv (upD ms.frames)),some (dv (.tup [n0,pmD ps,sz,b]))]) ?_ ?_
 ·unfold msD
  walk_at "dl"
  refine ⟨_,_,rfl,rfl,_,_,rfl,rfl,by show (s1.frames.map frD).length <= 100000; rw [zLm,f1]; omega,trivial,?_⟩
  refine yw (ps.map λp=>.tup [.str p.1,p.2]) ?_ (λd=>match d with | .tup [a,_]=>some a | _=>none) (by rw [zLm]; omega) ?_ ?_
  ·intro ψ hψ
   unfold pmD
   walk_at "dl"
   exact hψ
  ·intro d hd
   obtain ⟨y,hy,rfl⟩:=zah.mp hd
   unfold ρ0
   walk_at "dl"
  ·have ef:(ps.map λp=>D.tup [.str p.1,p.2]).filterMap (λd=>match d with | .tup [a,_]=>some a | _=>none)=(ps.map Prod.fst).map D.str:=by
    rw [List.filterMap_map,List.map_map,<- List.filterMap_eq_map]
    rfl
   rw [ef]
   have lp:(ps.map Prod.fst).length=as.length:=by rw [zLm]; exact hl
   have e5:(ms.frames ++ [((ms.calls.length:Int),(ps.map Prod.fst).zip as)]).map frD=s1.frames.map frD ++ [D.tup [.int ms.calls.length,.dk ((ps.map Prod.fst).map Sum.inr) as]]:=by
    rw [zMa,f1]
    show _ ++ [D.tup [.int ms.calls.length,dkD ((ps.map Prod.fst).zip as)]]=_
    unfold dkD
    rw [<- dg _ _ lp,vd1 lp]
   refine ⟨ps.map Prod.fst,as,⟨.inl rfl,.inr rfl⟩,lp,by omega,nd,p5,?_⟩
   rw [e5]
   rfl
 rintro _ rfl
 refine yj (λρ=>ρ=[some (dv (msD C fns most { s1 with calls:=ms.calls ++ [.tup [.str nm,.tup as,upD ms.frames,.bl false,.non]],frames:=ms.frames ++ [((ms.calls.length:Int),(ps.map Prod.fst).zip as)],tasks:=ms.tasks ++ [.tup [.str "leave"]] })),some (dv (.str nm)),some (dv (.tup as)),some (dv (.int ms.calls.length)),some (dv (upD ms.frames)),some (dv (.tup [n0,pmD ps,sz,b]))]) ?_ ?_
 ·unfold msD
  walk_at "dl"
  refine ⟨_,_,rfl,rfl,_,_,rfl,rfl,by show s1.tasks.length <= 100000; rw [f3]; omega,⟨trivial,trivial⟩,?_⟩
  rw [f3]
  rfl
 rintro _ rfl
 refine ⟨λρ=>∃ d',slot ρ 0=some (dv d') /\ φ .non d',?_,λ_ y=>y⟩
 have ea:atI [n0,pmD ps,sz,b] (3:Int)=some b:=tu (by decide) rfl
 unfold msD
 walk_at "dl"
 rw [ea]
 exact ⟨_,_,rfl,rfl,_,_,rfl,rfl,by show (ms.tasks ++ [D.tup [D.str "leave"]]).length <= 100000; rw [zLa]; simp only [zLc,zLn]; omega,⟨trivial,p4,trivial⟩,_,rfl,h⟩
def Om (T:Tops mg) (O:CO K C zp) (Cg:FM P w K mg base 2 C zp "enter" ["self", "name", "args"] (gw C)) (C9:FM P w K mg base 1 C zp "taken" ["self", "many"] (Wg C)) (B8:FM P w K mg base 6 C zp "make" ["self", "shape", "thing"] (dr1 C R)) (C7:FM P w K mg base 2 C zp "own_step" ["self", "kind"] (tOwn C)) (F:Fun K "apply" "Run.apply" (mth 14) f fd) (hm:Meth K C "apply" f):FM P w K mg base 7 C zp "apply" ["self", "expression"] (T7 C R):=by
 have S:zw ["self", "expression", "kind", "parts"] ["self", "expression"] (ze (mth 14)):=by walk_at "f"
 refine si F S (F.binds λ_ _ _ _ _ _ us hl=>(by obtain ⟨_,_,rfl⟩:=sy hl; rfl)) hm (by decide) λqZ A outer s H E d0 ds φ hr hl hT=>?_
 have hu:=hr.units
 refine ⟨_,(yh (Tq 2 (by decide) S.nd (zh hu (z9 1) zc))
   (y8 (va (vn (xh hu (z9 2) zj)) (y8 (xw (yk O Cg (hr.mono (by decide)) (y4 (zh hu (z9 1) zc) (ca (yk O C9 (hr.mono (by decide)) (y4 (wj T.len (z0 (zh hu (z9 1) zc) za)) xa)) xa))))) (y8 (va (vn (xh hu (z9 2) zj)) (yh (qj 3 (by decide) S.nd (yk O C9 (hr.mono (by decide)) (y4 zc xa)))
     (y8 (xw (yk O B8 (hr.mono (by decide)) (y4 zj (y4 (Rz (zm (z0 (zh hu (z9 3) zc) za)) (zh hu (z9 3) zc)) xa)))))) (y8 (va (vn (xh hu (z9 2) zj)) (y8 (xw (yk O B8 (hr.mono (by decide)) (y4 zj (ca (yk O C9 (hr.mono (by decide)) (y4 zc xa)) xa))))) (y8 (va (Zj (yk O C7 (hr.mono (by decide)) (y4 zj xa))) (yh (qj 3 (by decide) S.nd (yk O C9 (hr.mono (by decide)) (y4 zc xa)))
       (y8 (wd (xr O ye) (x9 (bw (xh hu (z9 2) zj) (wg (zh hu (z9 3) zc) (zh hu (z9 3) zc)) (tm (zh hu (z9 3) zc) (zh hu (z9 3) zc))))))) fj))))))))),?_⟩
 obtain ⟨fns,most,ms,rs,rfl,hl1,prs,h⟩:=hT
 unfold msD
 rcases h with ⟨nm,es,us,rfl,hr1,hl2,ne,hl3,pu,h⟩ | ⟨e1,e2,v,r,rfl,hr1,pv,pr,hl2,h⟩ | ⟨e1,e2,e3,v1,v2,v3,rfl,hr1,pv1,pv2,pv3,h⟩ | ⟨kd,e1,e2,x,y,fs,n,rows,rfl,hk,hf,hl2,hr1,h⟩
 ·refine wv [_,_,some (dv (.str _)),none] (λJ hJ=>⟨trivial,hJ⟩) (yr true (λ_=>cs) (λ_=>?_) nofun)
  walk_at "dl"
  refine ⟨_,rfl,_,rfl,fns,most,ms,rs,us,rfl,by rw [hl2],hr1,ne,hl3,pu,prs,hl1,?_⟩
  exact X0 h λd hd=>⟨_,rfl,hd⟩
 ·refine wv [_,_,some (dv (.str _)),none] (λJ hJ=>⟨trivial,hJ⟩) (yr false (λ_=>cs) nofun λ_=>yr true (λ_=>cs) (λ_=>?_) nofun)
  walk_at "dl"
  refine ⟨_,rfl,fns,most,ms,rs,[v,.tup r],rfl,rfl,hr1,by simp,by simp,⟨pv,pr,trivial⟩,prs,hl1,_,rfl,?_⟩
  simp only [at_0,N7]
  refine ⟨pv,pr,by rw [sizeLine_eq]; simp only [zLc,zLn]; omega,?_⟩
  exact gq h λd hd=>⟨_,rfl,hd⟩
 ·refine wv [_,_,some (dv (.str _)),none] (λJ hJ=>⟨trivial,hJ⟩) (yr false (λ_=>cs) nofun λ_=>yr false (λ_=>cs) nofun λ_=>yr true (λ_=>cs) (λ_=>?_) nofun)
  walk_at "dl"
  refine ⟨_,rfl,_,rfl,fns,most,ms,rs,[v1,v2,v3],rfl,rfl,hr1,by simp,by simp,⟨pv1,pv2,pv3,trivial⟩,prs,hl1,?_⟩
  exact gq h λd hd=>⟨_,rfl,hd⟩
 ·rcases hk with rfl | rfl
  all_goals
   refine wv [_,_,some (dv (.str _)),none] (λJ hJ=>⟨trivial,hJ⟩) (yr false (λ_=>cs) nofun λ_=>yr false (λ_=>cs) nofun λ_=>yr false (λ_=>cs) nofun λ_=>?_)
   walk_at "dl"
   refine ⟨_,rfl,fns,most,ms, "sum", fs,n,rows,rfl,rfl,hl2,hf,?_⟩
   by_cases q:most <= ms.steps.length
   ·have es:xk most n "sum" ms=(false,{ ms with cut:=true }):=by unfold xk; rw [if_pos q]
    rw [es] at h ⊢
    exact ⟨λy=>(nomatch y),λ_=>⟨_,rfl,h⟩⟩
   ·have es:xk most n "sum" ms=(true,{ ms with steps:=ms.steps ++ [.tup [.int n,.str "sum"]] }):=by unfold xk; rw [if_neg q]
    rw [es] at h ⊢
    refine ⟨λ_=>⟨_,rfl,fns,most,{ ms with steps:=ms.steps ++ [.tup [.int n,.str "sum"]] },rs,[.int x,.int y],rfl,rfl,hr1,by simp,by simp,⟨trivial,trivial,trivial⟩,prs,hl1,?_⟩,λy=>(nomatch y)⟩
    simp only [at_0,N7]
    exact ⟨_,_,rfl,rfl,_,_,rfl,rfl,by show rs.length <= 100000; have:=congrArg List.length hr1; rw [zLa] at this; omega,trivial,_,rfl,h⟩
def Does (t:FTQ) (C:Addr) (fns:List (Str × D)) (most:Int) (ds:List D) (s s1:MS):Prop:=∀ φ:D->D->Prop,φ .non (msD C fns most s1)->t (msD C fns most s) ds φ
def Mv (C:Addr) (R:Str->D->Int->Prop) (fns:List (Str × D)) (most:Int) (s s1:MS):Prop:=∃ ts,
 (∃ b,s.tasks=ts ++ [bdD b] /\ Does (Ld C) C fns most [b] { s with tasks:=ts } s1) \/
 (∃ e,s.tasks=ts ++ [vlD e] /\ Does (tVal C) C fns most [e] { s with tasks:=ts } s1) \/
 (∃ e,s.tasks=ts ++ [apD e] /\ Does (T7 C R) C fns most [e] { s with tasks:=ts } s1) \/
 (∃ b,s.tasks=ts ++ [brD b] /\ Does (T6 C) C fns most [b] { s with tasks:=ts } s1) \/
 (∃ b,s.tasks=ts ++ [chD b] /\ Does (X2 C) C fns most [b] { s with tasks:=ts } s1) \/
 (s.tasks=ts ++ [.tup [.str "leave"]] /\ Does (T4 C) C fns most [] { s with tasks:=ts } s1)
inductive RunN (C:Addr) (R:Str->D->Int->Prop) (fns:List (Str × D)) (most:Int):Nat->MS->MS->Prop
 | done {s:MS}:(s.tasks=[] \/ s.cut=true)->RunN C R fns most 0 s s
 | step {s s1 s2:MS} {n:Nat}:s.cut=false->Mv C R fns most s s1->RunN C R fns most n s1 s2->RunN C R fns most (n + 1) s s2
def tGo (C:Addr) (R:Str->D->Int->Prop):FTQ:=λd ds φ=>∃ fns most s s1 n,d=msD C fns most s /\ ds=[] /\ RunN C R fns most n s s1 /\ φ .non (msD C fns most s1)
def Y7 (p:Nat->Prop) (h:∃ n,p n):∃ n,p n /\ ∀ m,p m->n <= m:=by
 obtain ⟨n,hn⟩:=h
 induction n using Nat.strongRecOn with
 | ind n ih =>
  by_cases q:∃ m,m < n /\ p m
  ·obtain ⟨m,lt,pm⟩:=q
   exact ih m lt pm
  ·exact ⟨n,hn,λm pm=>Nat.le_of_not_lt λlt=>q ⟨m,lt,pm⟩⟩
def jg (p:Nat->Prop):Nat:=by
 classical
 exact if h:∃ n,p n then Classical.choose (Y7 p h) else 0
def jf {p:Nat->Prop} (h:∃ n,p n):p (jg p) /\ ∀ m,p m->jg p <= m:=by
 unfold jg
 rw [dif_pos h]
 exact Classical.choose_spec (Y7 p h)
def L8 {tc:TQb} {ρ:DE} {k:Bool->DE->Prop} (b:Bool) (h:∀ k:Bool->DE->Prop,k b ρ->tc ρ k) (hk:k b ρ):tc ρ k:=h k hk
def goP (C:Addr) (R:Str->D->Int->Prop) (fns:List (Str × D)) (most:Int) (s1:MS) (ρ:DE) (n:Nat):Prop:=∃ s t,ρ=[some (dv (msD C fns most s)),t] /\ RunN C R fns most n s s1
def Ds (T:Tops mg) (O:CO K C zp) (Cc:FM P w K mg base 3 C zp "begin_body" ["self", "body"] (Ld C)) (Cb:FM P w K mg base 2 C zp "begin_value" ["self", "expression"] (tVal C)) (B9:FM P w K mg base 7 C zp "apply" ["self", "expression"] (T7 C R)) (Ba:FM P w K mg base 3 C zp "bring" ["self", "body"] (T6 C)) (Cs:FM P w K mg base 3 C zp "choose" ["self", "body"] (X2 C)) (Bb:FM P w K mg base 1 C zp "leave" ["self"] (T4 C)) (F:Fun K "go" "Run.go" (mth 2) f fd) (hm:Meth K C "go" f):FM P w K mg base 8 C zp "go" ["self"] (tGo C R):=by
 have S:zw ["self", "task"] ["self"] (ze (mth 2)):=by walk_at "f"
 refine si F S (F.binds λ_ _ _ _ _ _ us hl=>(by obtain ⟨_,rfl⟩:=cr hl; rfl)) hm (by decide) λqZ A outer s H E d0 ds φ hr hl hT=>?_
 have hu:=hr.units
 refine ⟨_,(y8 (Pe (vn (EW.et (Mn (xj (wt O (z9 0))) (Ro (v6 (xj (wt O (z9 0)))))))) (yh (xq (Zl 1 (by decide) S.nd (xr O ye)))
    (y8 (va (vn (xh hu (zh hu (z9 1) zc) zj)) (y8 (xw (yk O Cc (hr.mono (by decide)) (y4 (zh hu (z9 1) zc) xa)))) (y8 (va (vn (xh hu (zh hu (z9 1) zc) zj)) (y8 (xw (yk O Cb (hr.mono (by decide)) (y4 (zh hu (z9 1) zc) xa)))) (y8 (va (vn (xh hu (zh hu (z9 1) zc) zj)) (y8 (xw (yk O B9 (hr.mono (by decide)) (y4 (zh hu (z9 1) zc) xa)))) (y8 (va (vn (xh hu (zh hu (z9 1) zc) zj)) (y8 (xw (yk O Ba (hr.mono (by decide)) (y4 (zh hu (z9 1) zc) xa)))) (y8 (va (vn (xh hu (zh hu (z9 1) zc) zj)) (y8 (xw (yk O Cs (hr.mono (by decide)) (y4 (zh hu (z9 1) zc) xa)))) (y8 (xw (Vh O Bb (hr.mono (by decide)))))))))))))))))),?_⟩
 obtain ⟨fns,most,ms,s1,n,rfl,rfl,hR,h⟩:=hT
 refine ⟨λρ=>∃ n,goP C R fns most s1 ρ n,λρ=>jg (goP C R fns most s1 ρ),⟨n,ms,none,rfl,hR⟩,λρ1 hP=>?_⟩
 obtain ⟨hm,_⟩:=jf hP
 obtain ⟨m,em⟩:∃ m,m=jg (goP C R fns most s1 ρ1):=⟨_,rfl⟩
 rw [<- em] at hm
 obtain ⟨s,t,rfl,hm⟩:=hm
 refine L8 (!s.tasks.isEmpty && !s.cut) (λk hk=>?_) ?_
 ·unfold msD at hk ⊢
  walk_at "dl"
  refine ⟨λz=>?_,λz=>?_⟩
  ·rw [z] at hk
   exact hk
  ·rw [z] at hk
   exact hk
 refine ⟨λq=>?_,λq=>?_⟩
 ·have less:∀ (s2:MS) (t2:Option EV) (m2:Nat),RunN C R fns most m2 s2 s1->m2 < m->(∃ n,goP C R fns most s1 [some (dv (msD C fns most s2)),t2] n) /\ jg (goP C R fns most s1 [some (dv (msD C fns most s2)),t2]) < jg (goP C R fns most s1 [some (dv (msD C fns most s)),t]):=λs2 t2 m2 h2 lt=>⟨⟨m2,s2,t2,rfl,h2⟩,by rw [<- em]; exact Nat.lt_of_le_of_lt ((jf ⟨m2,s2,t2,rfl,h2⟩).2 m2 ⟨s2,t2,rfl,h2⟩) lt⟩
  cases hm with
  | done hd =>
   rcases hd with hd | hd
   ·rw [hd] at q; cases q
   ·rw [hd] at q; simp at q
  | @step s s2 s3 m hc mv hr2 =>
   obtain ⟨ts,mv⟩:=mv
   rcases mv with ⟨b,et,mv⟩ | ⟨b,et,mv⟩ | ⟨b,et,mv⟩ | ⟨b,et,mv⟩ | ⟨b,et,mv⟩ | ⟨et,mv⟩
   ·refine yj (λρ=>ρ=[some (dv (msD C fns most { s with tasks:=ts })),some (dv (bdD b))]) ?_ ?_
    ·unfold msD
     rw [et]
     walk_at "dl"
     refine ⟨_,_,rfl,rfl,_,_,bdD b,rfl,rfl,?_,?_⟩
     ·rw [zLa]
      show (ts ++ [bdD b])[ts.length + 1 - 1]?=_
      rw [Nat.add_sub_cancel,List.getElem?_append_right (zaj _),Nat.sub_self]
      rfl
     ·rw [List.dropLast_concat]
      rfl
    rintro _ rfl
    simp only [bdD,vlD,apD,brD,chD]
    unfold msD
    walk_at "dl"
    exact ⟨_,rfl,mv _ (less s2 _ _ hr2 (Nat.lt_succ_self _))⟩
   ·refine yj (λρ=>ρ=[some (dv (msD C fns most { s with tasks:=ts })),some (dv (vlD b))]) ?_ ?_
    ·unfold msD
     rw [et]
     walk_at "dl"
     refine ⟨_,_,rfl,rfl,_,_,vlD b,rfl,rfl,?_,?_⟩
     ·rw [zLa]
      show (ts ++ [vlD b])[ts.length + 1 - 1]?=_
      rw [Nat.add_sub_cancel,List.getElem?_append_right (zaj _),Nat.sub_self]
      rfl
     ·rw [List.dropLast_concat]
      rfl
    rintro _ rfl
    simp only [bdD,vlD,apD,brD,chD]
    unfold msD
    walk_at "dl"
    exact ⟨_,rfl,mv _ (less s2 _ _ hr2 (Nat.lt_succ_self _))⟩
   ·refine yj (λρ=>ρ=[some (dv (msD C fns most { s with tasks:=ts })),some (dv (apD b))]) ?_ ?_
    ·unfold msD
     rw [et]
     walk_at "dl"
     refine ⟨_,_,rfl,rfl,_,_,apD b,rfl,rfl,?_,?_⟩
     ·rw [zLa]
      show (ts ++ [apD b])[ts.length + 1 - 1]?=_
      rw [Nat.add_sub_cancel,List.getElem?_append_right (zaj _),Nat.sub_self]
      rfl
     ·rw [List.dropLast_concat]
      rfl
    rintro _ rfl
    simp only [bdD,vlD,apD,brD,chD]
    unfold msD
    walk_at "dl"
    exact ⟨_,rfl,mv _ (less s2 _ _ hr2 (Nat.lt_succ_self _))⟩
   ·refine yj (λρ=>ρ=[some (dv (msD C fns most { s with tasks:=ts })),some (dv (brD b))]) ?_ ?_
    ·unfold msD
     rw [et]
     walk_at "dl"
     refine ⟨_,_,rfl,rfl,_,_,brD b,rfl,rfl,?_,?_⟩
     ·rw [zLa]
      show (ts ++ [brD b])[ts.length + 1 - 1]?=_
      rw [Nat.add_sub_cancel,List.getElem?_append_right (zaj _),Nat.sub_self]
      rfl
     ·rw [List.dropLast_concat]
      rfl
    rintro _ rfl
    simp only [bdD,vlD,apD,brD,chD]
    unfold msD
    walk_at "dl"
    exact ⟨_,rfl,mv _ (less s2 _ _ hr2 (Nat.lt_succ_self _))⟩
   ·refine yj (λρ=>ρ=[some (dv (msD C fns most { s with tasks:=ts })),some (dv (chD b))]) ?_ ?_
    ·unfold msD
     rw [et]
     walk_at "dl"
     refine ⟨_,_,rfl,rfl,_,_,chD b,rfl,rfl,?_,?_⟩
     ·rw [zLa]
      show (ts ++ [chD b])[ts.length + 1 - 1]?=_
      rw [Nat.add_sub_cancel,List.getElem?_append_right (zaj _),Nat.sub_self]
      rfl
     ·rw [List.dropLast_concat]
      rfl
    rintro _ rfl
    simp only [bdD,vlD,apD,brD,chD]
    unfold msD
    walk_at "dl"
    exact ⟨_,rfl,mv _ (less s2 _ _ hr2 (Nat.lt_succ_self _))⟩
   ·refine yj (λρ=>ρ=[some (dv (msD C fns most { s with tasks:=ts })),some (dv (D.tup [D.str "leave"]))]) ?_ ?_
    ·unfold msD
     rw [et]
     walk_at "dl"
     refine ⟨_,_,rfl,rfl,_,_,D.tup [D.str "leave"],rfl,rfl,?_,?_⟩
     ·rw [zLa]
      show (ts ++ [D.tup [D.str "leave"]])[ts.length + 1 - 1]?=_
      rw [Nat.add_sub_cancel,List.getElem?_append_right (zaj _),Nat.sub_self]
      rfl
     ·rw [List.dropLast_concat]
      rfl
    rintro _ rfl
    simp only [bdD,vlD,apD,brD,chD]
    unfold msD
    walk_at "dl"
    exact ⟨_,rfl,mv _ (less s2 _ _ hr2 (Nat.lt_succ_self _))⟩
 ·refine ⟨_,rfl,?_⟩
  cases hm with
  | done hd=>exact h
  | @step s s2 s3 m hc mv hr2 =>
   obtain ⟨ts,mv⟩:=mv
   have ne:s.tasks ≠ []:=by
    rcases mv with ⟨b,et,mv⟩ | ⟨b,et,mv⟩ | ⟨b,et,mv⟩ | ⟨b,et,mv⟩ | ⟨b,et,mv⟩ | ⟨et,mv⟩
    all_goals
     rw [et]
     simp
   rw [hc] at q
   cases e:s.tasks with
   | nil=>exact absurd e ne
   | cons x y=>rw [e] at q; cases q
def ms0:MS:={ calls:=[],steps:=[],frames:=[],tasks:=[],ready:=[],cut:=false }
def Lc (C:Addr):FTQ:=λd ds φ=>∃ fns:List (Str × D),∃ most,d=.ob C [] [] /\ ds=[.tup (fns.map Prod.snd),.int most] /\ fns.length <= 100 /\ (fns.map Prod.fst).Nodup /\ zn (fns.map Prod.snd) /\ (∀ p ∈ fns,∃ r,p.2=.tup (.str p.1 :: r)) /\ φ .non (msD C fns most ms0)
def L9 (C:Addr):FTR:=λd ds φ=>∃ fns most s,d=msD C fns most s /\ ds=[] /\
 ((s.cut=true /\ φ (.tup [.bl false,.non,.lst s.calls,.lst s.steps])) \/ (s.cut=false /\ ∃ v r,s.ready=v :: r /\ zk v /\ φ (.tup [.bl true,v,.lst s.calls,.lst s.steps])))
def Ja (T:Tops mg) (O:CO K C zp) (F:Fun K "__init__" "Run.__init__" (mth 0) f fd) (hm:Meth K C "__init__" f):FM P w K mg base 2 C zp "__init__" ["self", "program", "most"] (Lc C):=by
 have S:zw ["self", "program", "most"] ["self", "program", "most"] (ze (mth 0)):=by walk_at "f"
 refine si F S (F.binds λ_ _ _ _ _ _ us hl=>(by obtain ⟨_,_,_,rfl⟩:=gd hl; rfl)) hm (by decide) λqZ A outer s H E d0 ds φ hr hl hT=>?_
 have hu:=hr.units
 refine ⟨_,(yh (xq (uk O.cl (O.na _ (by decide)) ye (x9 (Ox T.dict (z0 (wf (T:=["function"]) (F:=[]) (js:=[]) (v7 (z9 1)) (show y9 (ze (mth 0)) _ ["function"] [] from by walk_at "c") .nil (by decide) (λcl C fp s H=>(y3 (i:=0) (show ((["function"]:List Str) ++ ([]:List Str)).Nodup by decide +kernel) rfl (by walk_at "o"))) (yy (by decide)) (yp 0) (λcl C fp s H=>xy) (λcl C fp s H=>(zm (z0 (zh hu (z9 0) zc) (z0 (z9 0) za))))) za)))))
   (yh (xq (uk O.cl (O.na _ (by decide)) ye (x9 (z9 2))))
   (yh (xq (uk O.cl (O.na _ (by decide)) ye (x9 (yu za))))
   (yh (xq (uk O.cl (O.na _ (by decide)) ye (x9 (yu za))))
   (yh (xq (uk O.cl (O.na _ (by decide)) ye (x9 (yu za))))
   (yh (xq (uk O.cl (O.na _ (by decide)) ye (x9 (yu za))))
   (yh (xq (uk O.cl (O.na _ (by decide)) ye (x9 (yu za))))
   (y8 (xq (uk O.cl (O.na _ (by decide)) ye (x9 wy))))))))))),?_⟩
 obtain ⟨fns,most,rfl,rfl,hl1,nd,pf,hn,h⟩:=hT
 refine yj (λρ=>ρ=[some (dv (.ob C ["functions"] [dkD fns])),some (dv (.tup (fns.map Prod.snd))),some (dv (.int most))]) ?_ ?_
 ·simp only [Ly,fE2,dCB,uu,aNil]
  refine yw (fns.map Prod.snd) ?_ (λd=>match d with | .tup (.str z :: r)=>some (.tup [.str z,.tup (.str z :: r)]) | _=>none) (by rw [zLm]; omega) ?_ ?_
  ·intro ψ hψ
   walk_at "dl"
   exact hψ
  ·intro d hd
   obtain ⟨y,hy,rfl⟩:=zah.mp hd
   obtain ⟨r,er⟩:=hn y hy
   rw [er]
   unfold ρ0
   walk_at "dl"
  ·have ef:(fns.map Prod.snd).filterMap (λd=>match d with | .tup (.str z :: r)=>some (D.tup [.str z,.tup (.str z :: r)]) | _=>none)=Sd (fns.map λp=>Sum.inr p.1) (fns.map Prod.snd):=by
    clear hl1 nd pf h hl
    induction fns with
    | nil=>rfl
    | cons p fns ih =>
     obtain ⟨r,er⟩:=hn p zao
     simp only [List.map_cons,List.filterMap_cons,er]
     rw [ih λq hq=>hn q (zal _ hq)]
     rfl
   rw [ef]
   refine ⟨_,_,rfl,by rw [zLm,zLm],?_,pf,_,[],[],rfl,rfl,by simp,by simp,rfl⟩
   rw [show (fns.map λp=>(Sum.inr p.1:Key))=(fns.map Prod.fst).map Sum.inr from by rw [List.map_map]; rfl]
   exact List.Pairwise.map _ (λa b h e=>h (Sum.inr.inj e)) nd
 rintro _ rfl
 refine yj (λρ=>ρ=[some (dv (.ob C ["functions", "most"] [dkD fns,.int most])),some (dv (.tup (fns.map Prod.snd))),some (dv (.int most))]) ?_ ?_
 ·walk_at "dl"
  exact ⟨trivial,_,_,_,rfl,rfl,by decide,by decide,rfl⟩
 rintro _ rfl
 refine yj (λρ=>ρ=[some (dv (.ob C ["functions", "most", "calls"] [dkD fns,.int most,.lst []])),some (dv (.tup (fns.map Prod.snd))),some (dv (.int most))]) ?_ ?_
 ·walk_at "dl"
  exact ⟨trivial,_,_,_,rfl,rfl,by decide,by decide,rfl⟩
 rintro _ rfl
 refine yj (λρ=>ρ=[some (dv (.ob C ["functions", "most", "calls", "steps"] [dkD fns,.int most,.lst [],.lst []])),some (dv (.tup (fns.map Prod.snd))),some (dv (.int most))]) ?_ ?_
 ·walk_at "dl"
  exact ⟨trivial,_,_,_,rfl,rfl,by decide,by decide,rfl⟩
 rintro _ rfl
 refine yj (λρ=>ρ=[some (dv (.ob C ["functions", "most", "calls", "steps", "frames"] [dkD fns,.int most,.lst [],.lst [],.lst []])),some (dv (.tup (fns.map Prod.snd))),some (dv (.int most))]) ?_ ?_
 ·walk_at "dl"
  exact ⟨trivial,_,_,_,rfl,rfl,by decide,by decide,rfl⟩
 rintro _ rfl
 refine yj (λρ=>ρ=[some (dv (.ob C ["functions", "most", "calls", "steps", "frames", "tasks"] [dkD fns,.int most,.lst [],.lst [],.lst [],.lst []])),some (dv (.tup (fns.map Prod.snd))),some (dv (.int most))]) ?_ ?_
 ·walk_at "dl"
  exact ⟨trivial,_,_,_,rfl,rfl,by decide,by decide,rfl⟩
 rintro _ rfl
 refine yj (λρ=>ρ=[some (dv (.ob C ["functions", "most", "calls", "steps", "frames", "tasks", "ready"] [dkD fns,.int most,.lst [],.lst [],.lst [],.lst [],.lst []])),some (dv (.tup (fns.map Prod.snd))),some (dv (.int most))]) ?_ ?_
 ·walk_at "dl"
  exact ⟨trivial,_,_,_,rfl,rfl,by decide,by decide,rfl⟩
 rintro _ rfl
 refine ⟨λρ=>∃ d',slot ρ 0=some (dv d') /\ φ .non d',?_,λ_ y=>y⟩
 walk_at "dl"
 exact ⟨trivial,_,_,_,rfl,rfl,by decide,by decide,_,rfl,h⟩
def Of (T:Tops mg) (O:CO K C zp) (F:Fun K "told" "Run.told" (mth 1) f fd) (hm:Meth K C "told" f):FMR P w K mg base 1 C zp "told" ["self"] (L9 C):=by
 have S:zw ["self"] ["self"] (ze (mth 1)):=by walk_at "f"
 refine Eh F S (F.binds λ_ _ _ _ _ _ us hl=>(by obtain ⟨_,rfl⟩:=cr hl; rfl)) hm (by decide) λqZ A outer s H E d0 ds φ hr hl hT=>?_
 have hu:=hr.units
 refine ⟨_,(Lq (D5 (vn (xj (wt O (z9 0)))) (Nt (Tp (Mp (vj (Ot wy) (vj (Ot v8) (vj (kl (xr O ye)) (vj (kl (xr O ye)) Rp))))))) Hw)
    (Nt (Tp (Mp (vj (Ot wy) (vj (Ot (zh hu (wt O (z9 0)) zc)) (vj (kl (xr O ye)) (vj (kl (xr O ye)) Rp)))))))),?_⟩
 obtain ⟨fns,most,ms,rfl,rfl,h⟩:=hT
 unfold msD
 walk_at "dl"
 rcases h with ⟨hc,h⟩ | ⟨hc,v,r,er,pv,h⟩
 ·exact ⟨λ_=>⟨_,_,rfl,rfl,_,_,rfl,rfl,_,_,rfl,rfl,_,_,rfl,rfl,h⟩,λz=>absurd z (by rw [hc]; decide)⟩
 ·rw [er]
  simp only [at_0]
  exact ⟨λz=>absurd z (by rw [hc]; decide),λ_=>⟨pv,_,_,rfl,rfl,_,_,rfl,rfl,_,_,rfl,rfl,_,_,rfl,rfl,h⟩⟩
variable {fns:List (Str × D)} {most:Int} {P:MS->Prop} {n:Int}
def Fin (C:Addr) (R:Str->D->Int->Prop) (fns:List (Str × D)) (most:Int) (P:MS->Prop) (s:MS):Prop:=∃ n s1,RunN C R fns most n s s1 /\ P s1
def yi {s s1:MS} (hc:s.cut=false) (m:Mv C R fns most s s1) (h:Fin C R fns most P s1):Fin C R fns most P s:=by
 obtain ⟨n,s2,r,p⟩:=h
 exact ⟨n + 1,s2,.step hc m r,p⟩
def w5 {s:MS} (h:s.tasks=[] \/ s.cut=true) (p:P s):Fin C R fns most P s:=⟨0,s,.done h,p⟩
def stt (cl st:List D) (fs:List (Int × List (Str × D))) (ts rs:List D):MS:={ calls:=cl,steps:=st,frames:=fs,tasks:=ts,ready:=rs,cut:=false }
def stp (n:Int) (k:Str):D:=.tup [.int n,.str k]
def ki (most:Int) (P:MS->Prop) (cl X:List D):Prop:=most <= X.length->∀ s1:MS,s1.cut=true->s1.calls=cl->s1.steps=X->P s1
def wo {s:MS} {k:Str} (q:most <= s.steps.length):xk most n k s=(false,{ s with cut:=true }):=by unfold xk; rw [if_pos q]
def vh {s:MS} {k:Str} (q:¬ most <= s.steps.length):xk most n k s=(true,{ s with steps:=s.steps ++ [.tup [.int n,.str k]] }):=by unfold xk; rw [if_neg q]
def Sm1 (cl st ts rs:List D):Prop:=cl.length + st.length + ts.length + rs.length <= 9000 /\ zn rs
def yb {a b:List D}:zn (a ++ b) ↔ zn a /\ zn b:=by
 rw [yf,yf,yf]
 simp only [zas]
 exact ⟨λh=>⟨λd x=>h d (.inl x),λd x=>h d (.inr x)⟩,λh d x=>x.elim (h.1 d) (h.2 d)⟩
def prs1 {rs:List D} {a:D} (p:zn rs) (pa:zk a):zn (rs ++ [a]):=yb.mpr ⟨p,pa,trivial⟩
variable {cl st ts rs:List D} {fs:List (Int × List (Str × D))} {rows:List (Str × D)} {v e e1 e2 b1 b2:D} {z:Str}
def t5 (pe:zk e) (h:Fin C R fns most P (stt cl st fs (ts ++ [vlD e]) rs)) (b:Sm1 cl st ts rs:=by walk_at "m"):Fin C R fns most P (stt cl st fs (ts ++ [bdD (.tup [.str "give", e])]) rs) :=
 yi rfl ⟨ts,.inl ⟨_,rfl,λφ hφ=>⟨fns,most,_,rfl,by have:=b.1; show ts.length <= 10000; omega,.inl ⟨e,rfl,pe,hφ⟩⟩⟩⟩ h
def Vb (p1:zk e1) (p2:zk e2) (p3:zk b1) (p4:zk b2) (h:Fin C R fns most P (stt cl st fs (ts ++ [chD (.tup [.str "less", e1,e2,b1,b2])] ++ [vlD e2] ++ [vlD e1]) rs)) (b:Sm1 cl st ts rs:=by walk_at "m"):Fin C R fns most P (stt cl st fs (ts ++ [bdD (.tup [.str "less", e1,e2,b1,b2])]) rs) :=
 yi rfl ⟨ts,.inl ⟨_,rfl,λφ hφ=>⟨fns,most,_,rfl,by have:=b.1; show ts.length <= 10000; omega,.inr (.inr ⟨e1,e2,b1,b2,rfl,p1,p2,p3,p4,hφ⟩)⟩⟩⟩ (by rw [List.append_assoc (ts ++ _)] at h; exact h)
def xi (hv:rowG rows z=some v) (pv:zk v) (h:Fin C R fns most P (stt cl st (fs ++ [(n,rows)]) ts (rs ++ [v]))) (b:Sm1 cl st ts rs:=by walk_at "m"):Fin C R fns most P (stt cl st (fs ++ [(n,rows)]) (ts ++ [vlD (.tup [.str "var", .str z])]) rs) :=
 yi rfl ⟨ts,.inr (.inl ⟨_,rfl,λφ hφ=>⟨fns,most,_,rfl,by have:=b.1; show ts.length <= 10000; omega,by have:=b.1; show rs.length <= 10000; omega,.inr (.inl ⟨fs,n,rows,z,v,rfl,rfl,hv,pv,hφ⟩)⟩⟩)⟩ h
def Vd {f:Str} {es:List D} (b0:es.length <= 100) (pe:zn es) (h:Fin C R fns most P (stt cl st fs (ts ++ [apD (.tup [.str "call", .str f,.tup es])] ++ es.reverse.map vlD) rs)) (b:Sm1 cl st ts rs:=by walk_at "m"):Fin C R fns most P (stt cl st fs (ts ++ [vlD (.tup [.str "call", .str f,.tup es])]) rs) :=
 yi rfl ⟨ts,.inr (.inl ⟨_,rfl,λφ hφ=>⟨fns,most,_,rfl,by have:=b.1; show ts.length <= 10000; omega,by have:=b.1; show rs.length <= 10000; omega,.inr (.inr (.inr (.inl ⟨.str f,es,rfl,b0,trivial,pe,hφ⟩)))⟩⟩)⟩ h
def Mh {kd:Str} {es:List D} (hkd:kd = "cons" \/ kd = "node" \/ kd = "add" \/ kd = "sub") (b0:es.length <= 100) (pe:zn es) (h:Fin C R fns most P (stt cl st fs (ts ++ [apD (.tup (.str kd :: es))] ++ es.reverse.map vlD) rs)) (b:Sm1 cl st ts rs:=by walk_at "m"):Fin C R fns most P (stt cl st fs (ts ++ [vlD (.tup (.str kd :: es))]) rs) :=
 yi rfl ⟨ts,.inr (.inl ⟨_,rfl,λφ hφ=>⟨fns,most,_,rfl,by have:=b.1; show ts.length <= 10000; omega,by have:=b.1; show rs.length <= 10000; omega,.inr (.inr (.inr (.inr ⟨kd,es,rfl,hkd,b0,pe,hφ⟩)))⟩⟩)⟩ h
def jo {kd:Str} (hkd:kd = "cons" \/ kd = "node" \/ kd = "add" \/ kd = "sub") (p1:zk e1) (p2:zk e2) (h:Fin C R fns most P (stt cl st fs (ts ++ [apD (.tup [.str kd,e1,e2])] ++ [vlD e2] ++ [vlD e1]) rs)) (b:Sm1 cl st ts rs:=by walk_at "m"):Fin C R fns most P (stt cl st fs (ts ++ [vlD (.tup [.str kd,e1,e2])]) rs) :=
 Mh (b:=b) hkd (by simp) ⟨p1,p2,trivial⟩ (by rw [List.append_assoc (ts ++ _)] at h; exact h)
def rf {f:Str} (p1:zk e1) (p2:zk e2) (h:Fin C R fns most P (stt cl st fs (ts ++ [apD (.tup [.str "call", .str f,.tup [e1,e2]])] ++ [vlD e2] ++ [vlD e1]) rs)) (b:Sm1 cl st ts rs:=by walk_at "m"):Fin C R fns most P (stt cl st fs (ts ++ [vlD (.tup [.str "call", .str f,.tup [e1,e2]])]) rs) :=
 Vd (b:=b) (by simp) ⟨p1,p2,trivial⟩ (by rw [List.append_assoc (ts ++ _)] at h; exact h)
def d6 {x y:Int} (p1:zk b1) (p2:zk b2) (hc:ki most P cl st)
  (h:¬ most <= st.length->Fin C R fns most P (stt cl (st ++ [stp n "less"]) (fs ++ [(n,rows)]) (ts ++ [bdD (if x < y then b1 else b2)]) rs)) (b:Sm1 cl st ts rs:=by walk_at "m") :
  Fin C R fns most P (stt cl st (fs ++ [(n,rows)]) (ts ++ [chD (.tup [.str "less", e1,e2,b1,b2])]) (rs ++ [.int x] ++ [.int y])):=by
 have bb:=b.1
 have er:rs ++ [D.int x] ++ [D.int y]=rs ++ [.int x,.int y]:=by simp
 by_cases q:most <= st.length
 ·refine yi (s1:={ calls:=cl,steps:=st,frames:=fs ++ [(n,rows)],tasks:=ts,ready:=rs ++ [D.int x] ++ [D.int y],cut:=true }) rfl ⟨ts,.inr (.inr (.inr (.inr (.inl ⟨_,rfl,λφ hφ=>?_⟩))))⟩ (w5 (.inr rfl) (hc q _ rfl rfl rfl))
  refine ⟨fns,most,_,fs,n,rows,e1,e2,b1,b2,rs,x,y,rfl,rfl,rfl,er,by show st.length <= 10000; omega,by show (rs ++ [D.int x] ++ [D.int y]).length <= 10000; simp; omega,by show ts.length <= 10000; omega,p1,p2,b.2,?_⟩
  rw [wo q]
  exact hφ
 ·refine yi rfl ⟨ts,.inr (.inr (.inr (.inr (.inl ⟨_,rfl,λφ hφ=>?_⟩))))⟩ (h q)
  refine ⟨fns,most,_,fs,n,rows,e1,e2,b1,b2,rs,x,y,rfl,rfl,rfl,er,by show st.length <= 10000; omega,by show (rs ++ [D.int x] ++ [D.int y]).length <= 10000; simp; omega,by show ts.length <= 10000; omega,p1,p2,b.2,?_⟩
  rw [vh q]
  exact hφ
def On {r:List D} {sz:Int} (pv:zk v) (pr:zn r) (br:r.length <= 1000) (hR:R "list" (.tup (v :: r)) sz) (hc:ki most P cl st)
  (hz:100 < sz->∀ s1:MS,s1.cut=true->s1.calls=cl->s1.steps=st->P s1)
  (h:¬ most <= st.length->¬ 100 < sz->Fin C R fns most P (stt cl (st ++ [stp n "make"]) (fs ++ [(n,rows)]) ts (rs ++ [.tup (v :: r)]))) (b:Sm1 cl st ts rs:=by walk_at "m") :
  Fin C R fns most P (stt cl st (fs ++ [(n,rows)]) (ts ++ [apD (.tup [.str "cons", e1,e2])]) (rs ++ [v] ++ [.tup r])):=by
 have bb:=b.1
 have er:rs ++ [v] ++ [D.tup r]=rs ++ [v,.tup r]:=by simp
 have go:∀ s1:MS,(∀ φ:D->D->Prop,φ .non (msD C fns most s1)->φ .non (msD C fns most (if 100 < sz then { calls:=cl,steps:=st,frames:=fs ++ [(n,rows)],tasks:=ts,ready:=rs,cut:=true } else match xk most n "make" { calls:=cl,steps:=st,frames:=fs ++ [(n,rows)],tasks:=ts,ready:=rs,cut:=false } with
  | (true,s')=>{ s' with ready:=rs ++ [.tup (v :: r)] }
  | (false,s')=>s')))->Mv C R fns most (stt cl st (fs ++ [(n,rows)]) (ts ++ [apD (.tup [.str "cons", e1,e2])]) (rs ++ [v] ++ [.tup r])) s1:=λs1 hs=>by
  refine ⟨ts,.inr (.inr (.inl ⟨_,rfl,λφ hφ=>?_⟩))⟩
  refine ⟨fns,most,_,rs,rfl,by show (rs ++ [v] ++ [D.tup r]).length <= 10000; simp; omega,b.2,.inr (.inl ⟨e1,e2,v,r,rfl,er,pv,pr,by omega,?_⟩)⟩
  exact ⟨fns,most,_,fs,n,rows, "list", .tup (v :: r),sz,rfl,rfl,rfl,by show st.length <= 10000; omega,by show rs.length <= 10000; omega,⟨pv,pr⟩,hR,hs φ hφ⟩
 by_cases z:100 < sz
 ·refine yi rfl (go { calls:=cl,steps:=st,frames:=fs ++ [(n,rows)],tasks:=ts,ready:=rs,cut:=true } λφ hφ=>?_) (w5 (.inr rfl) (hz z _ rfl rfl rfl))
  rw [if_pos z]
  exact hφ
 by_cases q:most <= st.length
 ·refine yi rfl (go { calls:=cl,steps:=st,frames:=fs ++ [(n,rows)],tasks:=ts,ready:=rs,cut:=true } λφ hφ=>?_) (w5 (.inr rfl) (hc q _ rfl rfl rfl))
  rw [if_neg z,wo q]
  exact hφ
 ·refine yi rfl (go _ λφ hφ=>?_) (h q z)
  rw [if_neg z,vh q]
  exact hφ
def Yc {m:Nat} {nm args up:D} {cl1 cl2:List D} (lc:cl1.length=m) (p1:zk nm) (p2:zk args) (p3:zk up) (pv:zk v)
  (h:Fin C R fns most P (stt (cl1 ++ [.tup [nm,args,up,.bl true,v]] ++ cl2) st fs ts (rs ++ [v]))) :
  Fin C R fns most P (stt (cl1 ++ [.tup [nm,args,up,.bl false,.non]] ++ cl2) st (fs ++ [((m:Int),rows)]) (ts ++ [.tup [.str "leave"]]) (rs ++ [v])) :=
 yi rfl ⟨ts,.inr (.inr (.inr (.inr (.inr ⟨rfl,λφ hφ=>⟨fns,most,_,fs,m,rows,nm,args,up,rs,v,cl1,cl2,rfl,rfl,rfl,rfl,pv,rfl,lc,p1,p2,p3,hφ⟩⟩))))⟩ h
def Vc (h:Fin C R fns most P (stt cl st fs ts (rs ++ [.non]))) (b:Sm1 cl st ts rs:=by walk_at "m"):Fin C R fns most P (stt cl st fs (ts ++ [vlD (.tup [.str "leaf"])]) rs) :=
 yi rfl ⟨ts,.inr (.inl ⟨_,rfl,λφ hφ=>⟨fns,most,_,rfl,by have:=b.1; show ts.length <= 10000; omega,by have:=b.1; show rs.length <= 10000; omega,.inr (.inr (.inl ⟨rfl,hφ⟩))⟩⟩)⟩ h
def Xv {kd:Str} {e3:D} (hkd:kd = "cons" \/ kd = "node" \/ kd = "add" \/ kd = "sub") (p1:zk e1) (p2:zk e2) (p3:zk e3) (h:Fin C R fns most P (stt cl st fs (ts ++ [apD (.tup [.str kd,e1,e2,e3])] ++ [vlD e3] ++ [vlD e2] ++ [vlD e1]) rs)) (b:Sm1 cl st ts rs:=by walk_at "m"):Fin C R fns most P (stt cl st fs (ts ++ [vlD (.tup [.str kd,e1,e2,e3])]) rs) :=
 Mh (b:=b) hkd (by simp) ⟨p1,p2,p3,trivial⟩ (by rw [List.append_assoc (ts ++ _),List.append_assoc (ts ++ _)] at h; exact h)
def Ye {f:Str} (p1:zk e1) (h:Fin C R fns most P (stt cl st fs (ts ++ [apD (.tup [.str "call", .str f,.tup [e1]])] ++ [vlD e1]) rs)) (b:Sm1 cl st ts rs:=by walk_at "m"):Fin C R fns most P (stt cl st fs (ts ++ [vlD (.tup [.str "call", .str f,.tup [e1]])]) rs) :=
 Vd (b:=b) (by simp) ⟨p1,trivial⟩ h
def Va {v1 v2 v3 e3:D} {sz:Int} (pl:zn [v1,v2,v3]) (hR:R "tree" (.tup [v1,v2,v3]) sz) (z:¬ 100 < sz) (hc:ki most P cl st)
  (h:¬ most <= st.length->Fin C R fns most P (stt cl (st ++ [stp n "make"]) (fs ++ [(n,rows)]) ts (rs ++ [.tup [v1,v2,v3]]))) (b:Sm1 cl st ts rs:=by walk_at "m") :
  Fin C R fns most P (stt cl st (fs ++ [(n,rows)]) (ts ++ [apD (.tup [.str "node", e1,e2,e3])]) (rs ++ [v1] ++ [v2] ++ [v3])):=by
 have bb:=b.1
 have er:rs ++ [v1] ++ [v2] ++ [v3]=rs ++ [v1,v2,v3]:=by simp
 have go:∀ s1:MS,(∀ φ:D->D->Prop,φ .non (msD C fns most s1)->φ .non (msD C fns most (if 100 < sz then { calls:=cl,steps:=st,frames:=fs ++ [(n,rows)],tasks:=ts,ready:=rs,cut:=true } else match xk most n "make" { calls:=cl,steps:=st,frames:=fs ++ [(n,rows)],tasks:=ts,ready:=rs,cut:=false } with
  | (true,s')=>{ s' with ready:=rs ++ [.tup [v1,v2,v3]] }
  | (false,s')=>s')))->Mv C R fns most (stt cl st (fs ++ [(n,rows)]) (ts ++ [apD (.tup [.str "node", e1,e2,e3])]) (rs ++ [v1] ++ [v2] ++ [v3])) s1:=λs1 hs=>by
  refine ⟨ts,.inr (.inr (.inl ⟨_,rfl,λφ hφ=>?_⟩))⟩
  refine ⟨fns,most,_,rs,rfl,by show (rs ++ [v1] ++ [v2] ++ [v3]).length <= 10000; simp; omega,b.2,.inr (.inr (.inl ⟨e1,e2,e3,v1,v2,v3,rfl,er,pl.1,pl.2.1,pl.2.2.1,?_⟩))⟩
  exact ⟨fns,most,_,fs,n,rows, "tree", .tup [v1,v2,v3],sz,rfl,rfl,rfl,by show st.length <= 10000; omega,by show rs.length <= 10000; omega,pl,hR,hs φ hφ⟩
 by_cases q:most <= st.length
 ·refine yi rfl (go { calls:=cl,steps:=st,frames:=fs ++ [(n,rows)],tasks:=ts,ready:=rs,cut:=true } λφ hφ=>?_) (w5 (.inr rfl) (hc q _ rfl rfl rfl))
  rw [if_neg z,wo q]
  exact hφ
 ·refine yi rfl (go _ λφ hφ=>?_) (h q)
  rw [if_neg z,vh q]
  exact hφ
inductive Tr where
 | lf:Tr
 | nd:Tr->Int->Tr->Tr
def Tr.d:Tr->D
 | .lf=>.non
 | .nd l v r=>.tup [l.d,.int v,r.d]
def Tr.nodes:Tr->Nat
 | .lf=>0
 | .nd l _ r=>1 + l.nodes + r.nodes
def Tr.dep:Tr->Nat
 | .lf=>0
 | .nd l _ r=>1 + max l.dep r.dep
def Tr.pure:∀ t:Tr,zk t.d
 | .lf=>trivial
 | .nd l _ r=>⟨l.pure,trivial,r.pure,trivial⟩
def Tr.ok:∀ (t:Tr) (k:Nat),t.dep <= k->okD (k + 1) t.d
 | .lf,_,_=>trivial
 | .nd l v r,0,h=>by simp [Tr.dep] at h
 | .nd l v r,k + 1,h=>by
  have h:1 + max l.dep r.dep <= k + 1:=h
  show okD (k + 1 + 1) (.tup [l.d,.int v,r.d])
  rw [vo (by omega)]
  intro d hd
  rcases zam.mp hd with rfl | hd
  ·exact l.ok k (by omega)
  rcases zam.mp hd with rfl | hd
  ·trivial
  rcases zam.mp hd with rfl | hd
  ·exact r.ok k (by omega)
  cases hd
def RT:Str->D->Int->Prop:=λsh d n=>(sh = "list" /\ ∃ l:List Int,d=.tup (l.map D.int) /\ n=l.length) \/ (sh = "tree" /\ ∃ t:Tr,d=t.d /\ n=t.nodes /\ t.nodes <= 250)
def vaD (x:Str):D:=.tup [.str "var", .str x]
def caD (f:Str) (es:List D):D:=.tup [.str "call", .str f,.tup es]
def nuD (n:Int):D:=.tup [.str "num", .int n]
def Xw {R:Str->D->Int->Prop} {cl st ts rs:List D} {fs:List (Int × List (Str × D))} {f:Str} {es us:List D} {n0 sz bb:D} {ps:List (Str × D)} (b:Sm1 cl st ts rs) (hf:rowG fns f=some (.tup [n0,pmD ps,sz,bb])) (le:us.length=es.length) (ne:us ≠ []) (l10:us.length <= 10) (pu:zn us) (p0:zk n0) (pp:zn (ps.map Prod.snd)) (pz:zk sz) (pb:zk bb) (lp:ps.length=us.length) (nd:(ps.map Prod.fst).Nodup)
  (h:Fin C R fns most P (uo most f us ps bb (stt cl st fs ts rs))):Fin C R fns most P (stt cl st fs (ts ++ [apD (caD f es)]) (rs ++ us)):=by
 have b1:=b.1
 refine yi rfl ⟨ts,.inr (.inr (.inl ⟨_,rfl,λφ hφ=>?_⟩))⟩ h
 refine ⟨fns,most,_,rs,rfl,by show (rs ++ us).length <= 10000; simp; omega,b.2,.inl ⟨f,es,us,rfl,rfl,le,ne,l10,pu,?_⟩⟩
 exact ⟨fns,most,_,f,us,n0,ps,sz,bb,rfl,rfl,hf,p0,pp,pz,pb,pu,lp,l10,nd,by show st.length <= 10000; omega,by show cl.length <= 10000; omega,by show ts.length <= 10000; omega,hφ⟩
def u9 {fs:List (Int × List (Str × D))} {p:Int × List (Str × D)}:upD (fs ++ [p])=.int p.1:=by
 unfold upD
 rw [List.getLast?_append]
 rfl
def uf {cl st ts rs:List D} (h:cl.length <= 2000) (h1:st.length <= 3000) (h2:ts.length <= 400) (h3:rs.length <= 400) (p:zn rs):Sm1 cl st ts rs:=⟨by omega,p⟩
def qw {x:Int} (h:Fin C R fns most P (stt cl st fs ts (rs ++ [.int x]))) (b:Sm1 cl st ts rs:=by walk_at "m"):Fin C R fns most P (stt cl st fs (ts ++ [vlD (nuD x)]) rs) :=
 yi rfl ⟨ts,.inr (.inl ⟨_,rfl,λφ hφ=>⟨fns,most,_,rfl,by have:=b.1; show ts.length <= 10000; omega,by have:=b.1; show rs.length <= 10000; omega,.inl ⟨.int x,rfl,trivial,hφ⟩⟩⟩)⟩ h
def bq {kd:Str} {x y:Int} (hk:kd = "add" \/ kd = "sub") (hc:ki most P cl st)
  (h:¬ most <= st.length->Fin C R fns most P (stt cl (st ++ [stp n "sum"]) (fs ++ [(n,rows)]) ts (rs ++ [.int (if kd = "add" then x + y else x - y)]))) (b:Sm1 cl st ts rs:=by walk_at "m") :
  Fin C R fns most P (stt cl st (fs ++ [(n,rows)]) (ts ++ [apD (.tup [.str kd,e1,e2])]) (rs ++ [.int x] ++ [.int y])):=by
 have bb:=b.1
 have er:rs ++ [D.int x] ++ [D.int y]=rs ++ [.int x,.int y]:=by simp
 by_cases q:most <= st.length
 ·refine yi (s1:={ calls:=cl,steps:=st,frames:=fs ++ [(n,rows)],tasks:=ts,ready:=rs ++ [D.int x] ++ [D.int y],cut:=true }) rfl ⟨ts,.inr (.inr (.inl ⟨_,rfl,λφ hφ=>?_⟩))⟩ (w5 (.inr rfl) (hc q _ rfl rfl rfl))
  refine ⟨fns,most,_,rs,rfl,by show (rs ++ [D.int x] ++ [D.int y]).length <= 10000; simp; omega,b.2,.inr (.inr (.inr ⟨kd,e1,e2,x,y,fs,n,rows,rfl,hk,rfl,by show st.length <= 10000; omega,er,?_⟩))⟩
  rw [wo q]
  exact hφ
 ·refine yi rfl ⟨ts,.inr (.inr (.inl ⟨_,rfl,λφ hφ=>?_⟩))⟩ (h q)
  refine ⟨fns,most,_,rs,rfl,by show (rs ++ [D.int x] ++ [D.int y]).length <= 10000; simp; omega,b.2,.inr (.inr (.inr ⟨kd,e1,e2,x,y,fs,n,rows,rfl,hk,rfl,by show st.length <= 10000; omega,er,?_⟩))⟩
  rw [vh q]
  exact hφ
def Jb (pe:zk e) (pb:zk b1) (h:Fin C R fns most P (stt cl st fs (ts ++ [brD (.tup [.str "let", .str z,e,b1])] ++ [vlD e]) rs)) (b:Sm1 cl st ts rs:=by walk_at "m"):Fin C R fns most P (stt cl st fs (ts ++ [bdD (.tup [.str "let", .str z,e,b1])]) rs) :=
 yi rfl ⟨ts,.inl ⟨_,rfl,λφ hφ=>⟨fns,most,_,rfl,by have:=b.1; show ts.length <= 10000; omega,.inr (.inl ⟨.str z,e,b1,rfl,trivial,pe,pb,hφ⟩)⟩⟩⟩ h
def Rm (pe:zk e) (pb:zk b1) (pv:zk v) (lr:rows.length <= 900) (nd:(rows.map Prod.fst ++ [z]).Nodup) (hc:ki most P cl st)
  (h:¬ most <= st.length->Fin C R fns most P (stt cl (st ++ [stp n "let"]) (fs ++ [(n,rows ++ [(z,v)])]) (ts ++ [bdD b1]) rs)) (b:Sm1 cl st ts rs:=by walk_at "m") :
  Fin C R fns most P (stt cl st (fs ++ [(n,rows)]) (ts ++ [brD (.tup [.str "let", .str z,e,b1])]) (rs ++ [v])):=by
 have bb:=b.1
 by_cases q:most <= st.length
 ·refine yi (s1:={ calls:=cl,steps:=st,frames:=fs ++ [(n,rows)],tasks:=ts,ready:=rs ++ [v],cut:=true }) rfl ⟨ts,.inr (.inr (.inr (.inl ⟨_,rfl,λφ hφ=>?_⟩)))⟩ (w5 (.inr rfl) (hc q _ rfl rfl rfl))
  refine ⟨fns,most,_,fs,n,rows,z,e,b1,rs,v,rfl,rfl,rfl,rfl,by show st.length <= 10000; omega,by show (rs ++ [v]).length <= 10000; simp; omega,by show ts.length <= 10000; omega,pe,pb,pv,b.2,lr,nd,?_⟩
  rw [wo q]
  exact hφ
 ·refine yi rfl ⟨ts,.inr (.inr (.inr (.inl ⟨_,rfl,λφ hφ=>?_⟩)))⟩ (h q)
  refine ⟨fns,most,_,fs,n,rows,z,e,b1,rs,v,rfl,rfl,rfl,rfl,by show st.length <= 10000; omega,by show (rs ++ [v]).length <= 10000; simp; omega,by show ts.length <= 10000; omega,pe,pb,pv,b.2,lr,nd,?_⟩
  rw [vh q]
  exact hφ
def k8 (d:D):Bool:=match d with
 | .tup [_,.str k]=>k == "call"
 | _=>false
def xx (l:List D):Nat:=(l.filter k8).length
def x6 (a b:List D):xx (a ++ b)=xx a + xx b:=by unfold xx; simp
def PF (D0 C0:List D) (most:Int) (s:MS):Prop:=s.cut=true /\ s.steps=D0.take most.toNat /\ s.calls=C0.take (xx (D0.take most.toNat))
section
variable {D0 C0 X rest rc:List D} {s1:MS}
def M2 (e:D0=X ++ rest) (ec:C0=cl ++ rc) (hn:xx X=cl.length) (h2:(X.length:Int) <= most):ki most (PF D0 C0 most) cl X:=λh1 s1 h3 h4 h5=>by
 have em:most.toNat=X.length:=by omega
 have ex:D0.take most.toNat=X:=by rw [em,e,List.take_left]
 unfold PF
 rw [ex,hn,ec,List.take_left]
 exact ⟨h3,h5,h4⟩
def M0 (e:D0=X) (ec:C0=cl) (hn:xx X=cl.length) (h2:(X.length:Int) <= most) (h3:s1.cut=true) (h4:s1.calls=cl) (h5:s1.steps=X):PF D0 C0 most s1:=by
 have ex:D0.take most.toNat=X:=by rw [e,List.take_of_length_le (by omega)]
 unfold PF
 rw [ex,hn,ec,List.take_length]
 exact ⟨h3,h5,h4⟩
end
def upK (k:Nat):D:=match k with
 | 0=>.non
 | k + 1=>.int k
variable {f nn:Str} {num:Int} {th:Nat->D} {inn:Nat->List Str} {ov:Nat->Bool} {D0 C0:List D} {body sh:D}
def rowK (f:Str) (num:Int) (th:Nat->D) (k:Nat):D:=.tup [.str f,.tup [th k,.int num],upK k,.bl false,.non]
def inS (inn:Nat->List Str) (k:Nat):List D:=(inn k).map (stp k)
def dueS (inn:Nat->List Str) (ov:Nat->Bool):Nat->Nat->List D
 | 0,_=>[]
 | m + 1,k=>stp k "call" :: inS inn k ++ if ov k then [] else dueS inn ov m (k + 1)
def dueC (f:Str) (num:Int) (th:Nat->D) (ov:Nat->Bool):Nat->Nat->List D
 | 0,_=>[]
 | m + 1,k=>rowK f num th k :: if ov k then [] else dueC f num th ov m (k + 1)
def db (C:Addr) (fns:List (Str × D)) (most:Int) (f x nn:Str) (num:Int) (th:Nat->D) (inn:Nat->List Str) (ov:Nat->Bool) (body:D):Prop :=
 ∀ (P:MS->Prop) (k:Nat) (cl st ts rs:List D) (fs:List (Int × List (Str × D))),k < 20->(∀ i,i < k->ov i=false)->cl.length <= 100->st.length <= 200->ts.length <= 300->rs.length <= 300->zn rs->(st.length:Int) <= most ->
  (∀ j,j <= (inn k).length->((st ++ (inS inn k).take j).length:Int) <= most->ki most P cl (st ++ (inS inn k).take j)) ->
  (ov k=true->((st ++ inS inn k).length:Int) <= most->∀ s1:MS,s1.cut=true->s1.calls=cl->s1.steps=st ++ inS inn k->P s1) ->
  (ov k=false->((st ++ inS inn k).length:Int) <= most->∀ rows es,es.length=2->Fin C RT fns most P (stt cl (st ++ inS inn k) (fs ++ [((k:Int),rows)]) (ts ++ [apD (caD f es)]) (rs ++ [th (k + 1),.int num]))) ->
  Fin C RT fns most P (stt cl st (fs ++ [((k:Int),[(x,th k),(nn,.int num)])]) (ts ++ [bdD body]) rs)
def cj (h:∀ k,∀ z ∈ inn k,z ≠ ("call" : Str)) (k j:Nat):xx ((inS inn k).take j)=0:=by
 unfold xx inS
 rw [List.length_eq_zero_iff,List.filter_eq_nil_iff]
 intro d hd
 obtain ⟨z,hz,rfl⟩:=zah.mp (List.mem_of_mem_take hd)
 simp [k8,stp,h k z hz]
def Lg {n0 sz:D} (hB:db C fns most f x nn num th inn ov body) (hth:∀ k,zk (th k)) (hne:∀ k,∀ z ∈ inn k,z ≠ ("call" : Str)) (hi:∀ k,(inn k).length <= 5) (hxn:x ≠ nn) (pb:zk body) (p0:zk n0) (pz:zk sz) (psh:zk sh)
  (hf:rowG fns f=some (.tup [n0,pmD [(x,sh),(nn,.str "num")],sz,body])):∀ (m k:Nat) (cl st ts rs:List D) (fs:List (Int × List (Str × D))),m + k=20->(∀ i,i < k->ov i=false)->D0=st ++ dueS inn ov m k->C0=cl ++ dueC f num th ov m k->xx st=k->cl.length=k->fs.length=k->upD fs=upK k->(st.length:Int) <= most->st.length <= 6 * k->ts.length <= 2 * k->rs=[] ->
  Fin C RT fns most (PF D0 C0 most) (uo most f [th k,.int num] [(x,sh),(nn,.str "num")] body (stt cl st fs ts rs)):=by
 intro m
 induction m with
 | zero =>
  intro k cl st ts rs fs hk ho e1 e2 h1 h2 h3 h4 h5 h6 h7 h8
  unfold uo
  rw [if_pos (show 20 <= (stt cl st fs ts rs).frames.length by show 20 <= fs.length; omega)]
  exact w5 (.inr rfl) (M0 (X:=st) (cl:=cl) (by simpa [dueS] using e1) (by simpa [dueC] using e2) (by omega) h5 rfl rfl rfl)
 | succ m ih =>
  intro k cl st ts rs fs hk ho e1 e2 h1 h2 h3 h4 h5 h6 h7 h8
  subst h8
  unfold uo
  rw [if_neg (show ¬ 20 <= (stt cl st fs ts []).frames.length by show ¬ 20 <= fs.length; omega)]
  by_cases q:most <= st.length
  ·rw [wo (show most <= (stt cl st fs ts []).steps.length from q)]
   exact w5 (.inr rfl) (M2 e1 e2 (by omega) h5 q _ rfl rfl rfl)
  rw [vh (show ¬ most <= (stt cl st fs ts []).steps.length from q)]
  have el:((stt cl st fs ts []).calls.length:Int)=k:=by show (cl.length:Int)=k; omega
  rw [el]
  have en1:xx (st ++ [stp k "call"])=k + 1:=by rw [x6,h1]; rfl
  have ecl:(cl ++ [rowK f num th k]).length=k + 1:=by simp [h2]
  have ed:D0=st ++ [stp k "call"] ++ inS inn k ++ (if ov k then [] else dueS inn ov m (k + 1)):=by rw [e1]; simp [dueS]
  have ec:C0=cl ++ [rowK f num th k] ++ (if ov k then [] else dueC f num th ov m (k + 1)):=by rw [e2]; simp [dueC]
  have eu:D.tup [.str f,.tup [th k,.int num],upD fs,.bl false,.non]=rowK f num th k:=by unfold rowK; rw [h4]
  have eln:(inS inn k).length=(inn k).length:=by unfold inS; simp
  have:=hi k
  show Fin C RT fns most (PF D0 C0 most) (stt (cl ++ [.tup [.str f,.tup [th k,.int num],upD fs,.bl false,.non]]) (st ++ [stp k "call"]) (fs ++ [((k:Int),[(x,th k),(nn,.int num)])]) (ts ++ [.tup [.str "leave"]] ++ [bdD body]) [])
  rw [eu]
  refine hB _ k _ _ _ _ fs (by omega) ho (by omega) (by simp; omega) (by simp; omega) (by simp) trivial (by simp; omega) (λj hj h=>?_) (λo h=>?_) λo h rows es he=>?_
  ·refine M2 (rest:=(inS inn k).drop j ++ (if ov k then [] else dueS inn ov m (k + 1))) (rc:=if ov k then [] else dueC f num th ov m (k + 1)) ?_ ec ?_ h
   ·rw [ed,List.append_assoc (st ++ [stp k "call"]) ((inS inn k).take j),<- List.append_assoc ((inS inn k).take j),List.take_append_drop,List.append_assoc (st ++ [stp k "call"])]
   ·rw [x6,cj hne,en1,ecl]
  ·intro s1 a1 a2 a3
   rw [if_pos o,List.append_nil] at ed ec
   have ea:=cj hne k (inS inn k).length
   rw [List.take_length] at ea
   exact M0 ed ec (by rw [x6,ea,en1,ecl]) h a1 a2 a3
  ·rw [o] at ed ec
   have ea:=cj hne k (inS inn k).length
   rw [List.take_length] at ea
   refine Xw (b:=uf (by omega) (by simp; omega) (by simp; omega) (by simp) trivial) (us:=[th (k + 1),.int num]) hf (by simpa using he.symm) (by simp) (by simp) ⟨hth _,trivial,trivial⟩ p0 ⟨psh,trivial,trivial⟩ pz pb rfl (by simp [hxn]) ?_
   exact ih (k + 1) _ _ _ _ _ (by omega) (λi hi'=>by
    by_cases hik:i=k
    ·subst hik; exact o
    ·exact ho i (by omega)) (by simpa using ed) (by simpa using ec) (by rw [x6,ea,en1]) ecl (by simp [h3]) (by rw [u9]; rfl) h (by simp; omega) (by simp; omega) rfl
variable {f:Addr}
def pv (z:Str):zk (vaD z):=⟨trivial,trivial,trivial⟩
def app2 {rs:List D} {a b:D}:rs ++ [a] ++ [b]=rs ++ [a,b]:=by simp
variable {f:Str} {far:Int}
def Yb {e1 e2 e3 v1 v2 v3:D} {sz:Int} (pl:zn [v1,v2,v3]) (hR:RT "tree" (.tup [v1,v2,v3]) sz) (hc:ki most P cl st)
  (hz:100 < sz->∀ s1:MS,s1.cut=true->s1.calls=cl->s1.steps=st->P s1)
  (h:¬ most <= st.length->¬ 100 < sz->Fin C RT fns most P (stt cl (st ++ [stp n "make"]) (fs ++ [(n,rows)]) ts (rs ++ [.tup [v1,v2,v3]]))) (b:Sm1 cl st ts rs:=by walk_at "m") :
  Fin C RT fns most P (stt cl st (fs ++ [(n,rows)]) (ts ++ [apD (.tup [.str "node", e1,e2,e3])]) (rs ++ [v1] ++ [v2] ++ [v3])):=by
 by_cases z:100 < sz
 ·have bb:=b.1
  have er:rs ++ [v1] ++ [v2] ++ [v3]=rs ++ [v1,v2,v3]:=by simp
  refine yi (s1:={ calls:=cl,steps:=st,frames:=fs ++ [(n,rows)],tasks:=ts,ready:=rs,cut:=true }) rfl ⟨ts,.inr (.inr (.inl ⟨_,rfl,λφ hφ=>?_⟩))⟩ (w5 (.inr rfl) (hz z _ rfl rfl rfl))
  refine ⟨fns,most,_,rs,rfl,by show (rs ++ [v1] ++ [v2] ++ [v3]).length <= 10000; simp; omega,b.2,.inr (.inr (.inl ⟨e1,e2,e3,v1,v2,v3,rfl,er,pl.1,pl.2.1,pl.2.2.1,?_⟩))⟩
  refine ⟨fns,most,_,fs,n,rows, "tree", .tup [v1,v2,v3],sz,rfl,rfl,rfl,by show st.length <= 10000; omega,by show rs.length <= 10000; omega,pl,hR,?_⟩
  rw [if_pos z]
  exact hφ
 ·exact Va (b:=b) pl hR z hc λq=>h q z
def bd0 (f x nn:Str) (far:Int):D:=.tup [.str "give", caD f [.tup [.str "add", vaD x,nuD far],vaD nn]]
def th0 (t far:Int) (k:Nat):D:=.int (t + k * far)
def in0 (_:Nat):List Str:=["sum"]
def C2 {t:Int} (hxn:x ≠ nn):db C fns most f x nn num (th0 t far) in0 (λ_=>false) (bd0 f x nn far):=by
 intro P k cl st ts rs fs hk ho hcl hst hts hrs prs hm hc hov hgo
 have pE:zk (.tup [.str "add", vaD x,nuD far]):=⟨trivial,pv x,⟨trivial,trivial,trivial⟩,trivial⟩
 have c0:=hc 0 (by simp [in0]) (by simpa using hm)
 rw [List.take_zero,List.append_nil] at c0
 refine t5 ⟨trivial,trivial,⟨pE,pv nn,trivial⟩,trivial⟩ ?_
 refine rf pE (pv nn) ?_
 refine jo (.inr (.inr (.inl rfl))) (pv x) ⟨trivial,trivial,trivial⟩ ?_
 refine xi (n:=(k:Int)) (v:=th0 t far k) (by simp [rowG]) trivial ?_
 refine qw ?_
 refine bq (kd:="add") (.inl rfl) c0 λq=>?_
 refine xi (n:=(k:Int)) (v:=.int num) (by simp [rowG,hxn]) trivial ?_
 have e:(D.int (if ("add" : Str) = "add" then t + k * far + far else t + k * far - far))=th0 t far (k + 1):=by
  rw [if_pos rfl]
  unfold th0
  congr 1
  rw [Int.natCast_add,Int.add_mul]
  simp only [Int.natCast_one,Int.one_mul]
  omega
 have h:=hgo rfl (by simp [inS,in0]; omega) [(x,th0 t far k),(nn,.int num)] [.tup [.str "add", vaD x,nuD far],vaD nn] rfl
 rw [app2,e]
 exact h
def coE (x nn:Str):Nat->D
 | 0=>vaD x
 | j + 1=>.tup [.str "cons", vaD nn,coE x nn j]
def pCo:∀ j,zk (coE x nn j)
 | 0=>pv x
 | j + 1=>⟨trivial,pv nn,pCo j,trivial⟩
def mk (n:Int) (j:Nat):List D:=List.replicate j (stp n "make")
def Xb (n:Int) (j:Nat):mk n j ++ [stp n "make"]=mk n (j + 1):=by unfold mk; rw [List.replicate_succ']
def fu {l:List Int} (h1:rowG rows x=some (.tup (l.map D.int))) (h2:rowG rows nn=some (.int num)) (hl:l.length <= 100) (hcl:cl.length <= 100) (hst:st.length <= 300):∀ (j:Nat) (ts rs:List D),j <= 5->ts.length + 3 * j <= 350->rs.length + 3 * j <= 350->zn rs->(st.length:Int) <= most ->
  (∀ i,i <= min j (100 - l.length)->((st ++ mk n i).length:Int) <= most->ki most P cl (st ++ mk n i)) ->
  (100 < l.length + j->((st ++ mk n (min j (100 - l.length))).length:Int) <= most->∀ s1:MS,s1.cut=true->s1.calls=cl->s1.steps=st ++ mk n (min j (100 - l.length))->P s1) ->
  (l.length + j <= 100->((st ++ mk n j).length:Int) <= most->Fin C RT fns most P (stt cl (st ++ mk n j) (fs ++ [(n,rows)]) ts (rs ++ [.tup ((List.replicate j num ++ l).map D.int)]))) ->
  Fin C RT fns most P (stt cl st (fs ++ [(n,rows)]) (ts ++ [vlD (coE x nn j)]) rs)
 | 0,ts,rs,_,b1,b2,prs,hm,hc,hov,hgo=>by
  refine xi h1 (yf.mpr λd hd=>by obtain ⟨i,_,rfl⟩:=zah.mp hd; trivial) ?_
  simpa [mk] using hgo (by omega) (by simpa [mk] using hm)
 | j + 1,ts,rs,j5,b1,b2,prs,hm,hc,hov,hgo=>by
  refine jo (.inl rfl) (pv nn) (pCo j) ?_
  refine xi h2 trivial ?_
  refine fu h1 h2 hl hcl hst j _ _ (by omega) (by simp; omega) (by simp; omega) (prs1 prs trivial) hm (λi hi=>hc i (by omega)) (λo=>?_) λo hm2=>?_
  ·rw [show min j (100 - l.length)=min (j + 1) (100 - l.length) by omega]
   exact hov (by omega)
  have hln:(mk n j).length=j:=by simp [mk]
  have pli:zn ((List.replicate j num ++ l).map D.int):=yf.mpr λd hd=>by obtain ⟨i,_,rfl⟩:=zah.mp hd; trivial
  refine On (sz:=((l.length + j + 1:Nat):Int)) (b:=uf (by omega) (by simp [hln]; omega) (by omega) (by omega) prs) trivial pli (by simp; omega) (.inl ⟨rfl,num :: (List.replicate j num ++ l),rfl,by simp; omega⟩) (hc j (by omega) hm2) (λz=>?_) λq z=>?_
  ·have e:min (j + 1) (100 - l.length)=j:=by omega
   rw [e] at hov
   exact hov (by omega) hm2
  ·rw [List.append_assoc,Xb]
   have:=hgo (by omega) (by rw [zLa] at q hm2 ⊢; rw [hln] at q hm2; simp [mk]; omega)
   exact this
def bd1 (f x nn:Str) (far:Nat):D:=.tup [.str "give", caD f [coE x nn far,vaD nn]]
def L1 (l:List Int) (num:Int) (far:Nat):Nat->List Int
 | 0=>l
 | k + 1=>List.replicate far num ++ L1 l num far k
def th1 (l:List Int) (num:Int) (far k:Nat):D:=.tup ((L1 l num far k).map D.int)
def Qi (l:List Int) (num:Int) (far:Nat):∀ k,(L1 l num far k).length=l.length + k * far
 | 0=>by simp [L1]
 | k + 1=>by
  rw [L1,zLa,List.length_replicate,Qi l num far k,Nat.add_mul]
  omega
def in1 (s0 far k:Nat):List Str:=List.replicate (min far (100 - (s0 + k * far))) "make"
def ov1 (s0 far k:Nat):Bool:=decide (100 < s0 + k * far + far)
def Mf (s0 far k:Nat):inS (in1 s0 far) k=mk k (min far (100 - (s0 + k * far))):=by unfold inS in1 mk; rw [List.map_replicate]
def C1 {l:List Int} {far:Nat} (hf:far <= 4) (hl:l.length <= 100) (hxn:x ≠ nn):db C fns most f x nn num (th1 l num far) (in1 l.length far) (ov1 l.length far) (bd1 f x nn far):=by
 intro P k cl st ts rs fs hk ho hcl hst hts hrs prs hm hc hov hgo
 have hL:=Qi l num far k
 have h100:(L1 l num far k).length <= 100:=by
  cases k with
  | zero=>exact hl
  | succ k =>
   have:=ho k (by omega)
   unfold ov1 at this
   rw [decide_eq_false_iff_not] at this
   rw [hL,Nat.add_mul]
   omega
 refine t5 ⟨trivial,trivial,⟨pCo far,pv nn,trivial⟩,trivial⟩ ?_
 refine rf (pCo far) (pv nn) ?_
 rw [Mf] at hov hgo
 refine fu (num:=num) (l:=L1 l num far k) (by simp [rowG]; rfl) (by simp [rowG,hxn]) h100 hcl (by omega) far _ _ (by omega) (by simp; omega) (by omega) prs hm (λi hi h=>?_) (λo h=>?_) λo h=>?_
 ·rw [hL] at hi
  have e:(inS (in1 l.length far) k).take i=mk k i:=by
   rw [Mf]
   unfold mk
   rw [List.take_replicate,Nat.min_eq_left hi]
  have:=hc i (by simp [in1]; omega)
  rw [e] at this
  exact this h
 ·rw [hL] at o h ⊢
  exact hov (decide_eq_true (by omega)) h
 ·rw [hL] at o
  have e:min far (100 - (l.length + k * far))=far:=by omega
  rw [e] at hgo
  refine xi (n:=(k:Int)) (v:=.int num) (b:=uf (by omega) (by simp [mk]; omega) (by simp; omega) (by simp; omega) (prs1 prs (yf.mpr λd hd=>by obtain ⟨i,_,rfl⟩:=zah.mp hd; trivial))) (by simp [rowG,hxn]) trivial ?_
  rw [app2]
  exact hgo (decide_eq_false (by omega)) h _ _ rfl
def noE (x nn:Str):D:=.tup [.str "node", vaD x,vaD nn,vaD x]
def bd2 (f x nn y:Str):D:=.tup [.str "let", .str y,noE x nn,.tup [.str "give", caD f [vaD y,vaD nn]]]
def T2 (t:Tr) (num:Int):Nat->Tr
 | 0=>t
 | k + 1=>.nd (T2 t num k) num (T2 t num k)
def in2 (t:Tr) (num:Int) (k:Nat):List Str:=if 100 < 2 * (T2 t num k).nodes + 1 then [] else ["make", "let"]
def ov2 (t:Tr) (num:Int) (k:Nat):Bool:=decide (100 < 2 * (T2 t num k).nodes + 1)
def Dy {t:Tr} (ht:t.nodes <= 100) (hn:[x,nn,y].Nodup):db C fns most f x nn num (λk=>(T2 t num k).d) (in2 t num) (ov2 t num) (bd2 f x nn y):=by
 intro P k cl st ts rs fs hk ho hcl hst hts hrs prs hm hc hov hgo
 have nds:=hn
 simp only [List.nodup_cons,zam,List.not_mem_nil,or_false,not_or] at nds
 have h100:(T2 t num k).nodes <= 100:=by
  cases k with
  | zero=>exact ht
  | succ k =>
   have:=ho k (by omega)
   unfold ov2 at this
   rw [decide_eq_false_iff_not] at this
   show 1 + (T2 t num k).nodes + (T2 t num k).nodes <= 100
   omega
 have c0:=hc 0 (by omega) (by simpa using hm)
 rw [List.take_zero,List.append_nil] at c0
 have pT:=(T2 t num k).pure
 have pN:zk (noE x nn):=⟨trivial,pv x,pv nn,pv x,trivial⟩
 have pG:zk (.tup [.str "give", caD f [vaD y,vaD nn]]):=⟨trivial,⟨trivial,trivial,⟨pv y,pv nn,trivial⟩,trivial⟩,trivial⟩
 refine Jb pN pG ?_
 refine Xv (.inr (.inl rfl)) (pv x) (pv nn) (pv x) ?_
 refine xi (n:=(k:Int)) (v:=(T2 t num k).d) (by simp [rowG]) pT ?_
 refine xi (n:=(k:Int)) (v:=.int num) (b:=uf (by omega) (by omega) (by simp; omega) (by simp; omega) (prs1 prs pT)) (by simp [rowG,nds.1.1]) trivial ?_
 refine xi (n:=(k:Int)) (v:=(T2 t num k).d) (b:=uf (by omega) (by omega) (by simp; omega) (by simp; omega) (prs1 (prs1 prs pT) trivial)) (by simp [rowG]) pT ?_
 refine Yb (sz:=((T2 t num (k + 1)).nodes:Nat)) ⟨pT,trivial,pT,trivial⟩ (.inr ⟨rfl,T2 t num (k + 1),rfl,rfl,by show 1 + (T2 t num k).nodes + (T2 t num k).nodes <= 250; omega⟩) c0 (λz=>?_) λq z=>?_
 ·have z:(100:Int) < ((1 + (T2 t num k).nodes + (T2 t num k).nodes:Nat):Int):=z
  have e:inS (in2 t num) k=[]:=by unfold inS in2; rw [if_pos (by omega)]; rfl
  rw [e,List.append_nil] at hov
  exact hov (decide_eq_true (by omega)) hm
 ·have z:¬ (100:Int) < ((1 + (T2 t num k).nodes + (T2 t num k).nodes:Nat):Int):=z
  have e0:in2 t num k=[("make" : Str), "let"]:=by unfold in2; rw [if_neg (by omega)]
  have e:inS (in2 t num) k=[stp k "make", stp k "let"]:=by unfold inS; rw [e0]; rfl
  have c1:=hc 1 (by rw [e0]; simp) (by rw [e]; simp; omega)
  rw [e] at c1 hgo
  refine Rm (z:=y) (v:=(T2 t num (k + 1)).d) pN pG (T2 t num (k + 1)).pure (by simp) (by simpa using nds) c1 λq2=>?_
  refine t5 pG.2.1 ?_
  refine rf (pv y) (pv nn) ?_
  refine xi (n:=(k:Int)) (v:=(T2 t num (k + 1)).d) (by simp [rowG,nds.1.2,nds.2.1]) (T2 t num (k + 1)).pure ?_
  refine xi (n:=(k:Int)) (v:=.int num) (b:=uf (by omega) (by simp; omega) (by simp; omega) (by simp; omega) (prs1 prs (T2 t num (k + 1)).pure)) (by simp [rowG,nds.1.1]) trivial ?_
  have h:=hgo (decide_eq_false (by omega)) (by simp at q2 ⊢; omega) ([(x,(T2 t num k).d),(nn,.int num)] ++ [(y,(T2 t num (k + 1)).d)]) [vaD y,vaD nn] rfl
  rw [app2,app2]
  exact h
def chE (nn:Str):Nat->D
 | 0=>.tup [.str "leaf"]
 | j + 1=>.tup [.str "node", .tup [.str "leaf"],vaD nn,chE nn j]
def chT (num:Int):Nat->Tr
 | 0=>.lf
 | j + 1=>.nd .lf num (chT num j)
def rq (num:Int):∀ j,(chT num j).nodes=j
 | 0=>rfl
 | j + 1=>by show 1 + 0 + (chT num j).nodes=j + 1; rw [rq num j]; omega
def pCh:∀ j,zk (chE nn j)
 | 0=>⟨trivial,trivial⟩
 | j + 1=>⟨trivial,⟨trivial,trivial⟩,pv nn,pCh j,trivial⟩
def Yd (h2:rowG rows nn=some (.int num)) (hcl:cl.length <= 100) (hst:st.length <= 300):∀ (j:Nat) (ts rs:List D),j <= 5->ts.length + 4 * j <= 350->rs.length + 4 * j <= 350->zn rs->(st.length:Int) <= most ->
  (∀ i,i < j->((st ++ mk n i).length:Int) <= most->ki most P cl (st ++ mk n i)) ->
  (((st ++ mk n j).length:Int) <= most->Fin C RT fns most P (stt cl (st ++ mk n j) (fs ++ [(n,rows)]) ts (rs ++ [(chT num j).d]))) ->
  Fin C RT fns most P (stt cl st (fs ++ [(n,rows)]) (ts ++ [vlD (chE nn j)]) rs)
 | 0,ts,rs,_,b1,b2,prs,hm,hc,hgo=>by
  refine Vc ?_
  have:=hgo (by simpa [mk] using hm)
  simp only [mk,List.replicate,List.append_nil] at this
  exact this
 | j + 1,ts,rs,j5,b1,b2,prs,hm,hc,hgo=>by
  refine Xv (.inr (.inl rfl)) ⟨trivial,trivial⟩ (pv nn) (pCh j) ?_
  refine Vc ?_
  refine xi h2 trivial ?_
  refine Yd h2 hcl hst j _ _ (by omega) (by simp; omega) (by simp; omega) (prs1 (prs1 prs trivial) trivial) hm (λi hi=>hc i (by omega)) λhm2=>?_
  have hln:(mk n j).length=j:=by simp [mk]
  refine Va (sz:=((chT num (j + 1)).nodes:Nat)) (b:=uf (by omega) (by simp [hln]; omega) (by omega) (by omega) prs) ⟨trivial,trivial,(chT num j).pure,trivial⟩ (.inr ⟨rfl,chT num (j + 1),rfl,rfl,by rw [rq]; omega⟩) (by rw [rq]; omega) (hc j (by omega) hm2) λq=>?_
  rw [List.append_assoc,Xb]
  exact hgo (by rw [zLa] at q hm2 ⊢; rw [hln] at q hm2; simp [mk]; omega)
def bd3 (f x nn:Str) (far:Nat):D:=.tup [.str "give", caD f [.tup [.str "node", vaD x,vaD nn,chE nn (far - 1)],vaD nn]]
def T3 (t:Tr) (num:Int) (far:Nat):Nat->Tr
 | 0=>t
 | k + 1=>.nd (T3 t num far k) num (chT num (far - 1))
def Z5 (t:Tr) (num:Int) {far:Nat} (h1:1 <= far):∀ k,(T3 t num far k).nodes=t.nodes + k * far
 | 0=>by simp [T3]
 | k + 1=>by
  show 1 + (T3 t num far k).nodes + (chT num (far - 1)).nodes=t.nodes + (k + 1) * far
  rw [Z5 t num h1 k,rq,Nat.add_mul]
  omega
def in3 (s0 far k:Nat):List Str:=List.replicate (far - (if 100 < s0 + k * far + far then 1 else 0)) "make"
def Me (s0 far k:Nat):inS (in3 s0 far) k=mk k (far - (if 100 < s0 + k * far + far then 1 else 0)):=by unfold inS in3 mk; rw [List.map_replicate]
def Dx {t:Tr} {far:Nat} (h1:1 <= far) (hf:far <= 4) (ht:t.nodes <= 100) (hxn:x ≠ nn):db C fns most f x nn num (λk=>(T3 t num far k).d) (in3 t.nodes far) (ov1 t.nodes far) (bd3 f x nn far):=by
 intro P k cl st ts rs fs hk ho hcl hst hts hrs prs hm hc hov hgo
 have hL:=Z5 t num h1 k
 have hL2:=Z5 t num h1 (k + 1)
 have h100:(T3 t num far k).nodes <= 100:=by
  cases k with
  | zero=>exact ht
  | succ k =>
   have:=ho k (by omega)
   unfold ov1 at this
   rw [decide_eq_false_iff_not] at this
   rw [hL,Nat.add_mul]
   omega
 rw [Nat.add_mul] at hL2
 have pT:=(T3 t num far k).pure
 have pN:zk (.tup [.str "node", vaD x,vaD nn,chE nn (far - 1)]):=⟨trivial,pv x,pv nn,pCh _,trivial⟩
 have cm:∀ i,i <= far - 1->((st ++ mk k i).length:Int) <= most->ki most P cl (st ++ mk k i):=λi hi h=>by
  have e:(inS (in3 t.nodes far) k).take i=mk k i:=by
   rw [Me]
   unfold mk
   rw [List.take_replicate,Nat.min_eq_left (by split <;> omega)]
  have:=hc i (by simp [in3]; split <;> omega)
  rw [e] at this
  exact this h
 refine t5 ⟨trivial,trivial,⟨pN,pv nn,trivial⟩,trivial⟩ ?_
 refine rf pN (pv nn) ?_
 refine Xv (.inr (.inl rfl)) (pv x) (pv nn) (pCh _) ?_
 refine xi (n:=(k:Int)) (v:=(T3 t num far k).d) (by simp [rowG]) pT ?_
 refine xi (n:=(k:Int)) (v:=.int num) (b:=uf (by omega) (by omega) (by simp; omega) (by simp; omega) (prs1 prs pT)) (by simp [rowG,hxn]) trivial ?_
 rw [Me] at hov hgo
 refine Yd (num:=num) (by simp [rowG,hxn]) hcl (by omega) (far - 1) _ _ (by omega) (by simp; omega) (by simp; omega) (prs1 (prs1 prs pT) trivial) hm (λi hi=>cm i (by omega)) λhm2=>?_
 have hln:(mk k (far - 1)).length=far - 1:=by simp [mk]
 refine Yb (sz:=((T3 t num far (k + 1)).nodes:Nat)) (b:=uf (by omega) (by simp [hln]; omega) (by simp; omega) (by omega) prs) ⟨pT,trivial,(chT num (far - 1)).pure,trivial⟩ (.inr ⟨rfl,T3 t num far (k + 1),rfl,rfl,by omega⟩) (cm _ (by omega) hm2) (λz=>?_) λq z=>?_
 ·rw [if_pos (by omega)] at hov
  exact hov (decide_eq_true (by omega)) hm2
 ·rw [if_neg (by omega),Nat.sub_zero] at hgo
  refine xi (n:=(k:Int)) (v:=.int num) (b:=uf (by omega) (by simp [hln]; omega) (by simp; omega) (by simp; omega) (prs1 prs (T3 t num far (k + 1)).pure)) (by simp [rowG,hxn]) trivial ?_
  rw [app2,List.append_assoc st,Xb,Nat.sub_add_cancel h1]
  exact hgo (decide_eq_false (by omega)) (by rw [zLa] at q hm2 ⊢; rw [hln] at q hm2; simp [mk]; omega) _ _ rfl
variable {f:Addr}
structure Rw where
 n:Int
 up:D
 done:Bool
def rowB (f:Str) (r:Rw):D:=.tup [.str f,.tup [.int r.n],r.up,.bl r.done,if r.done then .int 0 else .non]
def Rw.key (r:Rw):Int × D:=(r.n,r.up)
def nc:Nat->Nat
 | 0=>1
 | n + 1=>1 + nc n + nc n
def ns:Nat->Nat
 | 0=>2
 | n + 1=>3 + ns n + (1 + ns n + 1)
def dbC:Nat->Nat->D->List (Int × D)
 | 0,_,up=>[(0,up)]
 | n + 1,a,up=>((n + 1:Nat),up) :: (dbC n (a + 1) (.int a) ++ dbC n (a + 1 + nc n) (.int a))
def dbS:Nat->Nat->List D
 | 0,a=>[stp a "call", stp a "less"]
 | n + 1,a=>[stp a "call", stp a "less", stp a "sum"] ++ dbS n (a + 1) ++ ([stp a "sum"] ++ dbS n (a + 1 + nc n) ++ [stp a "sum"])
def ur:∀ (n a:Nat) (up:D),(dbC n a up).length=nc n
 | 0,_,_=>rfl
 | n + 1,a,up=>by
  rw [dbC,zLc,zLa,ur n,ur n,nc]
  omega
def sk:∀ (n a:Nat),(dbS n a).length=ns n
 | 0,_=>rfl
 | n + 1,a=>by
  rw [dbS,ns]
  simp only [zLa,zLc,zLn,sk n]
def t7:∀ (n a:Nat),xx (dbS n a)=nc n
 | 0,_=>rfl
 | n + 1,a=>by
  rw [dbS,nc]
  simp only [x6,t7 n]
  have e1:xx [stp a "call", stp a "less", stp a "sum"]=1:=rfl
  have e2:xx [stp a "sum"]=0:=rfl
  rw [e1,e2]
  omega
def dnR (p:Int × D):Rw:=⟨p.1,p.2,true⟩
def d8:∀ l:List (Int × D),(l.map dnR).map Rw.key=l
 | []=>rfl
 | p :: l=>by rw [List.map_cons,List.map_cons,d8 l]; rfl
def sbE (f x:Str):D:=caD f [.tup [.str "sub", vaD x,nuD 1]]
def bdB (f x:Str):D:=.tup [.str "less", vaD x,nuD 1,.tup [.str "give", nuD 0],.tup [.str "give", .tup [.str "add", sbE f x,sbE f x]]]
def nd0 (l:List Rw):Prop:=∀ r,l.head?=some r->r.done=false
section
variable {f:Str} {n0 sz:D}
def Lh (hf:rowG fns f=some (.tup [n0,pmD [(x,.str "num")],sz,bdB f x])) (p0:zk n0) (pz:zk sz):∀ (n:Nat) (cl:List Rw) (st ts rs:List D) (fs:List (Int × List (Str × D))) (P:MS->Prop),fs.length + n <= 10->cl.length + nc n <= 1000->st.length + ns n <= 2500->ts.length <= 10 * fs.length->rs.length <= 10 * fs.length->zn rs->(st.length:Int) <= most->zk (upD fs) ->
  (∀ X Y ck rk sub,dbS n cl.length=X ++ Y->Y ≠ []->dbC n cl.length (upD fs)=ck ++ rk->xx X=ck.length->sub.map Rw.key=ck->nd0 sub->((st ++ X).length:Int) <= most->ki most P ((cl ++ sub).map (rowB f)) (st ++ X)) ->
  (((st ++ dbS n cl.length).length:Int) <= most->Fin C RT fns most P (stt ((cl ++ (dbC n cl.length (upD fs)).map dnR).map (rowB f)) (st ++ dbS n cl.length) fs ts (rs ++ [.int 0]))) ->
  Fin C RT fns most P (uo most f [.int n] [(x,.str "num")] (bdB f x) (stt (cl.map (rowB f)) st fs ts rs)):=by
 have pS:zk (.tup [.str "sub", vaD x,nuD 1]):=⟨trivial,pv x,⟨trivial,trivial,trivial⟩,trivial⟩
 have pE:zk (sbE f x):=⟨trivial,trivial,⟨pS,trivial⟩,trivial⟩
 have pA:zk (.tup [.str "add", sbE f x,sbE f x]):=⟨trivial,pE,pE,trivial⟩
 have pG0:zk (.tup [.str "give", nuD 0]):=⟨trivial,⟨trivial,trivial,trivial⟩,trivial⟩
 have pG1:zk (.tup [.str "give", .tup [.str "add", sbE f x,sbE f x]]):=⟨trivial,pA,trivial⟩
 have pN1:zk (nuD 1):=⟨trivial,trivial,trivial⟩
 have pB:zk (bdB f x):=⟨trivial,pv x,pN1,pG0,pG1,trivial⟩
 intro n
 induction n with
 | zero =>
  intro cl st ts rs fs P hn hcl hst hts hrs prs hm pu hcut hgo
  simp only [nc,ns] at hcl hst
  unfold uo
  rw [if_neg (show ¬ 20 <= (stt (cl.map (rowB f)) st fs ts rs).frames.length by show ¬ 20 <= fs.length; omega)]
  by_cases q:most <= st.length
  ·rw [wo (show most <= (stt (cl.map (rowB f)) st fs ts rs).steps.length from q)]
   have:=hcut [] (dbS 0 cl.length) [] _ [] rfl (by simp [dbS]) rfl rfl rfl (λr h=>nomatch h) (by simpa using hm)
   simp only [List.append_nil] at this
   exact w5 (.inr rfl) (this q _ rfl rfl rfl)
  rw [vh (show ¬ most <= (stt (cl.map (rowB f)) st fs ts rs).steps.length from q)]
  have el:((stt (cl.map (rowB f)) st fs ts rs).calls.length:Int)=cl.length:=by show ((cl.map (rowB f)).length:Int)=cl.length; simp
  rw [el]
  have ec:cl.map (rowB f) ++ [rowB f ⟨0,upD fs,false⟩]=(cl ++ [(⟨0,upD fs,false⟩:Rw)]).map (rowB f):=by simp
  show Fin C RT fns most P (stt (cl.map (rowB f) ++ [rowB f ⟨0,upD fs,false⟩]) (st ++ [stp cl.length "call"]) (fs ++ [((cl.length:Int),[(x,.int 0)])]) (ts ++ [.tup [.str "leave"]] ++ [bdD (bdB f x)]) rs)
  have c1:=hcut [stp cl.length "call"] [stp cl.length "less"] [(0,upD fs)] [] [⟨0,upD fs,false⟩] rfl (by simp) rfl rfl rfl (λr h=>by cases h; rfl) (by simp; omega)
  rw [<- ec] at c1
  refine Vb (pv x) pN1 pG0 pG1 ?_
  refine xi (n:=(cl.length:Int)) (v:=.int 0) (by simp [rowG]) trivial ?_
  refine qw ?_
  refine d6 pG0 pG1 c1 λq2=>?_
  rw [if_pos (by decide)]
  refine t5 ⟨trivial,trivial,trivial⟩ ?_
  refine qw ?_
  rw [<- List.append_nil (cl.map (rowB f) ++ [rowB f ⟨0,upD fs,false⟩])]
  refine Yc (m:=cl.length) (nm:=.str f) (args:=.tup [.int 0]) (up:=upD fs) (cl1:=cl.map (rowB f)) (cl2:=[]) (v:=.int 0) (by simp) trivial ⟨trivial,trivial⟩ pu trivial ?_
  have:=hgo (by simp [dbS] at q2 ⊢; omega)
  rw [List.append_nil]
  rw [zMa] at this
  rw [app2]
  exact this
 | succ n ih =>
  intro cl st ts rs fs P hn hcl hst hts hrs prs hm pu hcut hgo
  simp only [nc,ns] at hcl hst
  unfold uo
  rw [if_neg (show ¬ 20 <= (stt (cl.map (rowB f)) st fs ts rs).frames.length by show ¬ 20 <= fs.length; omega)]
  by_cases q:most <= st.length
  ·rw [wo (show most <= (stt (cl.map (rowB f)) st fs ts rs).steps.length from q)]
   have:=hcut [] (dbS (n + 1) cl.length) [] _ [] rfl (by simp [dbS]) rfl rfl rfl (λr h=>nomatch h) (by simpa using hm)
   simp only [List.append_nil] at this
   exact w5 (.inr rfl) (this q _ rfl rfl rfl)
  rw [vh (show ¬ most <= (stt (cl.map (rowB f)) st fs ts rs).steps.length from q)]
  have el:((stt (cl.map (rowB f)) st fs ts rs).calls.length:Int)=cl.length:=by show ((cl.map (rowB f)).length:Int)=cl.length; simp
  rw [el]
  generalize er0:(⟨((n + 1:Nat):Int),upD fs,false⟩:Rw)=r0
  have ek:r0.key=(((n + 1:Nat):Int),upD fs):=by rw [<- er0]; rfl
  have ec:cl.map (rowB f) ++ [rowB f r0]=(cl ++ [r0]).map (rowB f):=by simp
  have ero:D.tup [.str f,.tup [.int ((n + 1:Nat):Int)],upD fs,.bl false,.non]=rowB f r0:=by rw [<- er0]; rfl
  have hdn:∀ l,nd0 (r0 :: l):=λl r h=>by cases h; rw [<- er0]
  have eS:dbS (n + 1) cl.length=[stp cl.length "call", stp cl.length "less", stp cl.length "sum"] ++ dbS n (cl.length + 1) ++ ([stp cl.length "sum"] ++ dbS n (cl.length + 1 + nc n) ++ [stp cl.length "sum"]):=rfl
  have eC:dbC (n + 1) cl.length (upD fs)=r0.key :: (dbC n (cl.length + 1) (.int cl.length) ++ dbC n (cl.length + 1 + nc n) (.int cl.length)):=by rw [ek]; rfl
  show Fin C RT fns most P (stt (cl.map (rowB f) ++ [.tup [.str f,.tup [.int ((n + 1:Nat):Int)],upD fs,.bl false,.non]]) (st ++ [stp cl.length "call"]) (fs ++ [((cl.length:Int),[(x,.int ((n + 1:Nat):Int))])]) (ts ++ [.tup [.str "leave"]] ++ [bdD (bdB f x)]) rs)
  rw [ero]
  have lc:xx [stp cl.length "call"]=1:=rfl
  have c1:=hcut [stp cl.length "call"] _ [r0.key] _ [r0] eS (by simp) eC rfl rfl (hdn _) (by simp; omega)
  rw [<- ec] at c1
  refine Vb (pv x) pN1 pG0 pG1 ?_
  refine xi (n:=(cl.length:Int)) (v:=.int ((n + 1:Nat):Int)) (by simp [rowG]) trivial ?_
  refine qw ?_
  refine d6 pG0 pG1 c1 λq2=>?_
  rw [if_neg (by omega)]
  refine t5 pA ?_
  refine jo (.inr (.inr (.inl rfl))) pE pE ?_
  refine Ye pS ?_
  refine jo (.inr (.inr (.inr rfl))) (pv x) pN1 ?_
  refine xi (n:=(cl.length:Int)) (v:=.int ((n + 1:Nat):Int)) (by simp [rowG]) trivial ?_
  refine qw ?_
  have c2:=hcut [stp cl.length "call", stp cl.length "less"] _ [r0.key] _ [r0] eS (by simp) eC rfl rfl (hdn _) (by simp at q2 ⊢; omega)
  rw [<- ec] at c2
  rw [app2 (a:=stp cl.length "call")]
  refine bq (kd:="sub") (.inr rfl) c2 λq3=>?_
  have e1:(if ("sub" : Str) = "add" then (((n + 1:Nat):Int)) + 1 else ((n + 1:Nat):Int) - 1)=(n:Int):=by rw [if_neg (by decide)]; omega
  rw [e1,ec]
  have ea1:st ++ [stp cl.length "call", stp cl.length "less"] ++ [stp cl.length "sum"]=st ++ [stp cl.length "call", stp cl.length "less", stp cl.length "sum"]:=by simp
  rw [ea1]
  have l1:(cl ++ [r0]).length=cl.length + 1:=by simp
  refine Xw (b:=uf (by simp; omega) (by simp; omega) (by simp; omega) (by omega) prs) (us:=[.int n]) hf rfl (by simp) (by simp) ⟨trivial,trivial⟩ p0 ⟨trivial,trivial⟩ pz pB rfl (by simp) ?_
  refine ih (cl ++ [r0]) _ _ rs _ P (by simp; omega) (by simp; omega) (by simp; omega) (by simp; omega) (by simp; omega) prs (by simp at q3 ⊢; omega) (by rw [u9]; trivial) (λX Y ck rk sub h1 hy h2 h3 h4 h5 h6=>?_) λhm3=>?_
  ·rw [u9,l1] at h2
   rw [l1] at h1
   have:=hcut ([stp cl.length "call", stp cl.length "less", stp cl.length "sum"] ++ X) (Y ++ ([stp cl.length "sum"] ++ dbS n (cl.length + 1 + nc n) ++ [stp cl.length "sum"])) (r0.key :: ck) (rk ++ dbC n (cl.length + 1 + nc n) (.int cl.length)) (r0 :: sub) (by rw [eS,h1]; simp) (by simp) (by rw [eC,h2]; simp) (by rw [x6,h3]; show 1 + _=_; rw [zLc]; omega) (by rw [List.map_cons,h4]) (hdn _) (by simpa [Nat.add_assoc] using h6)
   rw [List.append_assoc cl,List.append_assoc st]
   exact this
  rw [u9,l1]
  rw [l1] at hm3
  have lS:=sk n (cl.length + 1)
  have lC:=ur n (cl.length + 1) (.int cl.length)
  have m3:((st.length + 3 + ns n:Nat):Int) <= most:=by simp [lS] at hm3 ⊢; omega
  refine Ye (b:=uf (by simp [lC]; omega) (by simp [lS]; omega) (by simp; omega) (by simp; omega) (prs1 prs trivial)) pS ?_
  refine jo (b:=uf (by simp [lC]; omega) (by simp [lS]; omega) (by simp; omega) (by simp; omega) (prs1 prs trivial)) (.inr (.inr (.inr rfl))) (pv x) pN1 ?_
  refine xi (n:=(cl.length:Int)) (v:=.int ((n + 1:Nat):Int)) (b:=uf (by simp [lC]; omega) (by simp [lS]; omega) (by simp; omega) (by simp; omega) (prs1 prs trivial)) (by simp [rowG]) trivial ?_
  refine qw (b:=uf (by simp [lC]; omega) (by simp [lS]; omega) (by simp; omega) (by simp; omega) (prs1 (prs1 prs trivial) trivial)) ?_
  have c3:=hcut ([stp cl.length "call", stp cl.length "less", stp cl.length "sum"] ++ dbS n (cl.length + 1)) _ (r0.key :: dbC n (cl.length + 1) (.int cl.length)) (dbC n (cl.length + 1 + nc n) (.int cl.length)) (r0 :: (dbC n (cl.length + 1) (.int cl.length)).map dnR) eS (by simp) (by rw [eC]; rfl) (by rw [x6,t7,zLc,lC]; show 1 + _=_; omega) (by rw [List.map_cons,d8]) (hdn _) (by simp [lS]; omega)
  rw [show cl ++ [r0] ++ (dbC n (cl.length + 1) (.int cl.length)).map dnR=cl ++ r0 :: (dbC n (cl.length + 1) (.int cl.length)).map dnR by simp,List.append_assoc st]
  refine bq (kd:="sub") (b:=uf (by simp [lC]; omega) (by simp [lS]; omega) (by simp; omega) (by simp; omega) (prs1 prs trivial)) (.inr rfl) c3 λq4=>?_
  rw [e1]
  have l2:(cl ++ r0 :: (dbC n (cl.length + 1) (.int cl.length)).map dnR).length=cl.length + 1 + nc n:=by simp [lC]; omega
  have lS2:=sk n (cl.length + 1 + nc n)
  have lC2:=ur n (cl.length + 1 + nc n) (.int cl.length)
  have m4:((st.length + 3 + ns n + 1:Nat):Int) <= most:=by simp [lS] at q4 ⊢; omega
  refine Xw (b:=uf (by simp [lC]; omega) (by simp [lS]; omega) (by simp; omega) (by simp; omega) (show zn (rs ++ [D.int 0]) from prs1 prs trivial)) (us:=[.int n]) hf rfl (by simp) (by simp) ⟨trivial,trivial⟩ p0 ⟨trivial,trivial⟩ pz pB rfl (by simp) ?_
  refine ih (cl ++ r0 :: (dbC n (cl.length + 1) (.int cl.length)).map dnR) _ _ (rs ++ [D.int 0]) _ P (by simp; omega) (by rw [l2]; omega) (by simp [lS]; omega) (by simp; omega) (by simp; omega) (prs1 prs trivial) (by simp [lS]; omega) (by rw [u9]; trivial) (λX Y ck rk sub h1 hy h2 h3 h4 h5 h6=>?_) λhm5=>?_
  ·rw [u9,l2] at h2
   rw [l2] at h1
   have:=hcut ([stp cl.length "call", stp cl.length "less", stp cl.length "sum"] ++ dbS n (cl.length + 1) ++ [stp cl.length "sum"] ++ X) (Y ++ [stp cl.length "sum"]) (r0.key :: (dbC n (cl.length + 1) (.int cl.length) ++ ck)) rk (r0 :: ((dbC n (cl.length + 1) (.int cl.length)).map dnR ++ sub)) (by rw [eS,h1]; simp) (by simp) (by rw [eC,h2]; simp) (by rw [x6,x6,x6,t7,h3,zLc,zLa,lC]; show 1 + _ + 0 + _=_; omega) (by rw [List.map_cons,zMa,d8,h4]) (hdn _) (by simpa [Nat.add_assoc] using h6)
   have g1:cl ++ r0 :: (dbC n (cl.length + 1) (.int cl.length)).map dnR ++ sub=cl ++ r0 :: ((dbC n (cl.length + 1) (.int cl.length)).map dnR ++ sub):=by simp
   have g2:st ++ ([stp cl.length "call", stp cl.length "less", stp cl.length "sum"] ++ dbS n (cl.length + 1)) ++ [stp cl.length "sum"] ++ X=st ++ ([stp cl.length "call", stp cl.length "less", stp cl.length "sum"] ++ dbS n (cl.length + 1) ++ [stp cl.length "sum"] ++ X):=by simp
   rw [g1,g2]
   exact this
  rw [u9,l2]
  rw [l2] at hm5
  have m5:((st.length + 3 + ns n + 1 + ns n:Nat):Int) <= most:=by simp [lS,lS2] at hm5 ⊢; omega
  have c4:=hcut ([stp cl.length "call", stp cl.length "less", stp cl.length "sum"] ++ dbS n (cl.length + 1) ++ [stp cl.length "sum"] ++ dbS n (cl.length + 1 + nc n)) [stp cl.length "sum"] (r0.key :: (dbC n (cl.length + 1) (.int cl.length) ++ dbC n (cl.length + 1 + nc n) (.int cl.length))) [] (r0 :: ((dbC n (cl.length + 1) (.int cl.length)).map dnR ++ (dbC n (cl.length + 1 + nc n) (.int cl.length)).map dnR)) (by rw [eS]; simp) (by simp) (by rw [eC]; simp) (by rw [x6,x6,x6,t7,t7,zLc,zLa,lC,lC2]; show 1 + _ + 0 + _=_; omega) (by rw [List.map_cons,zMa,d8,d8]) (hdn _) (by simp [lS,lS2]; omega)
  have g1:cl ++ r0 :: (dbC n (cl.length + 1) (.int cl.length)).map dnR ++ (dbC n (cl.length + 1 + nc n) (.int cl.length)).map dnR=cl ++ r0 :: ((dbC n (cl.length + 1) (.int cl.length)).map dnR ++ (dbC n (cl.length + 1 + nc n) (.int cl.length)).map dnR):=by simp
  have g2:st ++ ([stp cl.length "call", stp cl.length "less", stp cl.length "sum"] ++ dbS n (cl.length + 1)) ++ [stp cl.length "sum"] ++ dbS n (cl.length + 1 + nc n)=st ++ ([stp cl.length "call", stp cl.length "less", stp cl.length "sum"] ++ dbS n (cl.length + 1) ++ [stp cl.length "sum"] ++ dbS n (cl.length + 1 + nc n)):=by simp
  rw [g1,g2]
  refine bq (kd:="add") (b:=uf (by simp [lC,lC2]; omega) (by simp [lS,lS2]; omega) (by simp; omega) (by omega) prs) (.inl rfl) c4 λq6=>?_
  rw [if_pos rfl]
  have g3:(cl ++ r0 :: ((dbC n (cl.length + 1) (.int cl.length)).map dnR ++ (dbC n (cl.length + 1 + nc n) (.int cl.length)).map dnR)).map (rowB f)=cl.map (rowB f) ++ [.tup [.str f,.tup [.int ((n + 1:Nat):Int)],upD fs,.bl false,.non]] ++ ((dbC n (cl.length + 1) (.int cl.length)).map dnR ++ (dbC n (cl.length + 1 + nc n) (.int cl.length)).map dnR).map (rowB f):=by rw [ero]; simp
  rw [g3]
  refine Yc (m:=cl.length) (v:=.int (0 + 0)) (by simp) trivial ⟨trivial,trivial⟩ pu trivial ?_
  have:=hgo (by rw [eS]; simp [lS,lS2] at q6 ⊢; omega)
  rw [eC,eS] at this
  have g4:(cl ++ (r0.key :: (dbC n (cl.length + 1) (.int cl.length) ++ dbC n (cl.length + 1 + nc n) (.int cl.length))).map dnR).map (rowB f)=cl.map (rowB f) ++ [.tup [.str f,.tup [.int ((n + 1:Nat):Int)],upD fs,.bl true,.int (0 + 0)]] ++ ((dbC n (cl.length + 1) (.int cl.length)).map dnR ++ (dbC n (cl.length + 1 + nc n) (.int cl.length)).map dnR).map (rowB f):=by
   rw [ek]
   simp [dnR,rowB]
  have g5:st ++ ([stp cl.length "call", stp cl.length "less", stp cl.length "sum"] ++ dbS n (cl.length + 1) ++ [stp cl.length "sum"] ++ dbS n (cl.length + 1 + nc n)) ++ [stp cl.length "sum"]=st ++ ([stp cl.length "call", stp cl.length "less", stp cl.length "sum"] ++ dbS n (cl.length + 1) ++ ([stp cl.length "sum"] ++ dbS n (cl.length + 1 + nc n) ++ [stp cl.length "sum"])):=by simp
  rw [g4] at this
  rw [g5]
  exact this
end
variable {P:Program} {Fz:D->D->Prop}
def Lr {fns:List (Str × D)} {nm:Str} {i:Nat} {d:D} (h:∀ p ∈ fns.take i,p.1 ≠ nm) (e:fns[i]?=some (nm,d)):rowG fns nm=some d:=by
 induction fns generalizing i with
 | nil=>simp at e
 | cons p fns ih =>
  cases i with
  | zero =>
   simp only [List.getElem?_cons_zero,Option.some.injEq] at e
   subst e
   unfold rowG
   simp
  | succ i =>
   have:=h p (by simp)
   have:=ih (i:=i) (λq hq=>h q (by simp [hq])) (by simpa using e)
   unfold rowG
   simp_all
def Pa {fns:List (Str × D)} {nm:Str} {d:D} (e:rowG fns nm=some d):∃ p ∈ fns,p.1=nm:=by
 induction fns with
 | nil=>cases e
 | cons p fns ih =>
  unfold rowG at e
  split at e
  ·rename_i q
   exact ⟨p,by simp,by simp_all⟩
  ·obtain ⟨q,hq,e2⟩:=ih e
   exact ⟨q,by simp [hq],e2⟩
def Nk:FT:=λds φ=>∃ fns:List (Str × D),∃ nm fn,ds=[.tup (fns.map Prod.snd),.str nm] /\ fns.length <= 100 /\ (∀ p ∈ fns,∃ r,p.2=.tup (.str p.1 :: r)) /\ rowG fns nm=some fn /\ zk fn /\ φ (dv fn)
def Nl (Fz:D->D->Prop):FT:=λds φ=>∃ s d,ds=[s,d] /\ Fz s d /\ φ (dv (.bl true))
def Nm (Fz:D->D->Prop):FT:=λds φ=>∃ n0 ps sz b as,ds=[.tup [n0,pmD ps,sz,b],.lst as] /\ ps.length=as.length /\ ps.length <= 100 /\ (∀ p ∈ (ps.map Prod.snd).zip as,Fz p.1 p.2) /\ φ (dv .non)
def FzT:D->D->Prop:=λs d=>(s=.str "num" /\ ∃ n,d=.int n) \/ (s=.str "list" /\ ∃ l:List Int,d=.tup (l.map D.int) /\ l.length <= 1000) \/ (s=.str "tree" /\ ∃ t:Tr,d=t.d /\ t.nodes <= 100)
def Nd:FT:=g1 λd φ=>∃ t:Tr,d=t.d /\ t.nodes <= 100 /\ φ (dv (.bl true))
def T1:FT:=g1 λd φ=>∃ t:Tr,d=t.d /\ t.nodes <= 250 /\ φ (dv (.int t.nodes))
def szD:D->Nat
 | .tup [l,_,r]=>1 + szD l + szD r
 | _=>1
def X4 (d:D):1 <= szD d:=by
 unfold szD
 split <;> omega
def sumZ (ds:List D):Nat:=(ds.map szD).sum
def ux (ds es:List D):sumZ (ds ++ es)=sumZ ds + sumZ es:=by
 unfold sumZ
 simp
def cq:∀ (ds:List D),ds.length <= sumZ ds
 | []=>Nat.zero_le _
 | d :: ds=>by
  have:=cq ds
  have:=X4 d
  unfold sumZ at *
  simp
  omega
def Tr.sz:∀ t:Tr,szD t.d=2 * t.nodes + 1
 | .lf=>by simp [Tr.d,Tr.nodes,szD]
 | .nd l v r=>by
  have h1:=l.sz
  have h2:=r.sz
  simp only [Tr.d,Tr.nodes,szD,h1,h2]
  omega
def T5:FT:=λds φ=>∃ n,ds=[.int n] /\ φ (dv (.bl true))
def gl (T:Tops mg) (F:Fun K "function_of" "function_of" (top 6) f fd) (m:mg "function_of" = some (.ref f)):FD P w K mg base 1 "function_of" ["program", "name"] Nk:=by
 have S:zw ["program", "name", "function"] ["program", "name"] (ze (top 6)):=by walk_at "f"
 refine ub F S (F.binds λ_ _ _ _ _ _ us hl=>(by obtain ⟨_,_,rfl⟩:=sy hl; rfl)) m λqZ A outer s H E ds φ hr hl hT=>?_
 have hu:=hr.units
 refine ⟨_,(zf (sr (v7 (z9 0)) (y3 (i:=2) S.nd rfl (by walk_at "o")) (yp 2) (zu (xm (xh hu (zh hu (z9 2) zc) (z9 1)) (zu (yg (z9 2))) yn)))
   (zu dz)),?_⟩
 obtain ⟨fns,nm,fn,rfl,hl1,hn,hf,pf,h⟩:=hT
 show sFor _ _ _ _ _
 refine vm (fns.map Prod.snd) ?_ (λi ρ=>(∃ t,ρ=[some (dv (.tup (fns.map Prod.snd))),some (dv (.str nm)),t]) /\ ∀ p ∈ fns.take i,p.1 ≠ nm) ⟨⟨none,rfl⟩,by simp⟩ ?_ ?_
 ·intro ψ hψ
  walk_at "dl"
  exact hψ
 ·rintro i d _ hd ⟨⟨t,rfl⟩,hp⟩
  rw [zai] at hd
  cases ep:fns[i]? with
  | none=>rw [ep] at hd; cases hd
  | some p =>
   rw [ep] at hd
   cases hd
   have hm:p ∈ fns:=zan ep
   obtain ⟨r,er⟩:=hn p hm
   have tk:fns.take (i + 1)=fns.take i ++ [p]:=by rw [List.take_add_one,ep]; rfl
   obtain ⟨z,d⟩:=p
   simp only at er
   subst er
   walk_at "dl"
   refine ⟨λe=>?_,λe=>⟨⟨_,rfl⟩,?_⟩⟩
   ·subst e
    have e2:=Lr hp ep
    rw [e2] at hf
    cases hf
    exact ⟨pf.2,h⟩
   ·rw [tk]
    intro q hq
    rcases zas.mp hq with hq | hq
    ·exact hp q hq
    ·rw [List.mem_singleton.mp hq]; exact e
 ·rintro _ ⟨⟨t,rfl⟩,hp⟩
  obtain ⟨p,hm,e⟩:=Pa hf
  rw [zLm,List.take_length] at hp
  exact hp p hm e
def bu (T:Tops mg) (A0:FD P w K mg base 3 "fits" ["shape", "thing"] (Nl Fz)) (F:Fun K "check_args" "check_args" (top 16) f fd) (m:mg "check_args" = some (.ref f)):FD P w K mg base 4 "check_args" ["function", "args"] (Nm Fz):=by
 have S:zw ["function", "args", "shapes"] ["function", "args"] (ze (top 16)):=by walk_at "f"
 refine ub F S (F.binds λ_ _ _ _ _ _ us hl=>(by obtain ⟨_,_,rfl⟩:=sy hl; rfl)) m λqZ A outer s H E ds φ hr hl hT=>?_
 have hu:=hr.units
 refine ⟨_,(zf (qe (T:=["param", "shape"]) (F:=[]) (js:=[]) 2 S.nd (v7 (zh hu (z9 0) zc)) (show y9 (ze (top 16)) _ ["param", "shape"] [] from by walk_at "c") .nil (by decide) (λcl C fp s H=>(cf (K0:=K) (n:=2) (by rfl) (by rfl) (x4 (y3 (i:=0) (show ((["param", "shape"]:List Str) ++ ([]:List Str)).Nodup by decide +kernel) rfl (by walk_at "o")) (x4 (y3 (i:=1) (show ((["param", "shape"]:List Str) ++ ([]:List Str)).Nodup by decide +kernel) rfl (by walk_at "o")) ql)))) (Rc (qv ua (Xs ua fo) (yy (by decide)) (qv ua fo (yy (by decide)) Re))) (bh 0 1) (λcl C fp s H=>xy) (λcl C fp s H=>(z9 1)))
   (zf (xm (jq hu (wj T.len (z0 (z9 1) za)) (wj T.len (z0 (z9 2) za))) (zu dz) yn)
   (zu (Wm 2 (xm (v6 (xj (Ry T.all (z0 (wf (T:=["shape", "arg"]) (F:=[]) (js:=[]) (Er T.zip (z0 (z9 2) (z0 (z9 1) za))) (show y9 (ze (top 16)) _ ["shape", "arg"] [] from by walk_at "c") .nil (by decide) (λcl C fp s H=>(cf (K0:=K) (n:=2) (by rfl) (by rfl) (x4 (y3 (i:=0) (show ((["shape", "arg"]:List Str) ++ ([]:List Str)).Nodup by decide +kernel) rfl (by walk_at "o")) (x4 (y3 (i:=1) (show ((["shape", "arg"]:List Str) ++ ([]:List Str)).Nodup by decide +kernel) rfl (by walk_at "o")) ql)))) (Rc (qv ua (Xs ua fo) (yy (by decide)) (qv ua fo (yy (by decide)) Re))) (bh 0 1) (λcl C fp s H=>xy) (λcl C fp s H=>(ya A0 (hr.mono (by decide)) (z0 (z9 0) (z0 (z9 1) za))))) za)))) (zu dz) yn))))),?_⟩
 obtain ⟨n0,ps,sz,b,as,rfl,hl1,hl2,hz,h⟩:=hT
 walk_at "dl"
 refine yw (ps.map λp=>.tup [.str p.1,p.2]) ?_ (λd=>match d with | .tup [_,a]=>some a | _=>none) (by rw [zLm]; omega) ?_ ?_
 ·intro ψ hψ
  unfold pmD
  walk_at "dl"
  exact hψ
 ·intro d hd
  obtain ⟨y,hy,rfl⟩:=zah.mp hd
  unfold ρ0
  walk_at "dl"
 ·have ef:(ps.map λp=>D.tup [.str p.1,p.2]).filterMap (λd=>match d with | .tup [_,a]=>some a | _=>none)=ps.map Prod.snd:=by
   rw [List.filterMap_map,<- List.filterMap_eq_map]
   rfl
  rw [ef]
  have lp:as.length=(ps.map Prod.snd).length:=by rw [zLm]; exact hl1.symm
  refine ⟨trivial,λq=>absurd (congrArg Int.ofNat lp) q,λ_=>?_⟩
  refine yw (zipD (ps.map Prod.snd) as) ?_ (λ_=>some (.bl true)) ?_ ?_ ?_
  ·intro ψ hψ
   walk_at "dl"
   exact hψ
  ·unfold zipD
   rw [List.length_zipWith]
   omega
  ·intro d hd
   unfold zipD at hd
   have ez:∀ (xs ys:List D),List.zipWith (λx y=>D.tup [x,y]) xs ys=(xs.zip ys).map λq=>D.tup [q.1,q.2]:=λxs=>by
    induction xs with
    | nil=>intro ys; simp
    | cons x xs ih=>intro ys; cases ys with
     | nil=>simp
     | cons y ys=>simp [ih]
   rw [ez] at hd
   obtain ⟨q,hq,rfl⟩:=zah.mp hd
   unfold ρ0
   walk_at "dl"
   exact ⟨_,_,rfl,hz q hq,trivial,rfl⟩
  ·have e3:∀ l:List D,l.filterMap (λ_=>some (D.bl true))=(List.replicate l.length true).map D.bl:=λl=>by
    induction l with
    | nil=>rfl
    | cons x l ih=>simp only [List.filterMap_cons,zLc,List.replicate_succ,List.map_cons,ih]
   rw [e3]
   show match blsD _ with | some bs=>_ | none=>False
   rw [Z3]
   refine ⟨λz=>?_,λ_=>h⟩
   rw [show (List.replicate _ true).all id=true from by simp] at z
   cases z
def W1 (T:Tops mg) (F:Fun K "is_whole" "is_whole" (top 5) f fd) (m:mg "is_whole" = some (.ref f)):FD P w K mg base 1 "is_whole" ["thing"] T5:=by
 have S:zw ["thing"] ["thing"] (ze (top 5)):=by walk_at "f"
 refine ub F S (F.binds λ_ _ _ _ _ _ us hl=>(by obtain ⟨_,rfl⟩:=cr hl; rfl)) m λqZ A outer s H E ds φ hr hl hT=>?_
 have hu:=hr.units
 refine ⟨_,(zu (yg (Ym (ym T.isinstance (z0 (z9 0) (z0 (uq T.int jy) za))) (jr (Ru (ym T.isinstance (z0 (z9 0) (z0 (uq T.bool u7) za)))))))),?_⟩
 obtain ⟨n,rfl,h⟩:=hT
 walk_at "dl"
 exact h
def Ul (T:Tops mg) (Cd:FD P w K mg base 1 "is_whole" ["thing"] T5) (F:Fun K "is_tree" "is_tree" (top 9) f fd) (m:mg "is_tree" = some (.ref f)):FD P w K mg base 2 "is_tree" ["thing"] Nd:=by
 have S:zw ["thing", "waiting", "part"] ["thing"] (ze (top 9)):=by walk_at "f"
 refine ub F S (F.binds λ_ _ _ _ _ _ us hl=>(by obtain ⟨_,rfl⟩:=cr hl; rfl)) m λqZ A outer s H E ds φ hr hl hT=>?_
 have hu:=hr.units
 refine ⟨_,(zf (y0 1 S.nd (yu (z0 (z9 0) za)))
   (zf (Wl (xj (z9 1)) (zf (Np 1 2 S.nd)
    (zf (xm (Dt (z9 2) v8) (zu X5) yn)
    (zf (xm (EW.et (u1 (v6 (xj (ym T.isinstance (z0 (z9 2) (z0 (uq T.tuple xt) za))))) (u1 (jq hu (wj T.len (z0 (z9 2) za)) zc) (t9 (v6 (xj (ya Cd (hr.mono (by decide)) (z0 (zh hu (z9 2) zc) za)))))))) (zu (yg wy)) yn)
    (zu (Zg 1 (z0 (zh hu (z9 2) zc) (z0 (zh hu (z9 2) zc) za))))))))
   (zu (yg wy)))),?_⟩
 obtain ⟨d0,rfl,t,rfl,hn,h⟩:=Em hT
 walk_at "dl"
 refine ⟨λρ=>∃ (ts:List Tr) (a2:Option EV),ρ=[some (dv t.d),some (dO (.lst (ts.map Tr.d))),a2] /\ sumZ (ts.map Tr.d) <= 300,λρ=>match ρ with
  | [_,some ⟨_,.lst ds⟩,_]=>sumZ ds
  | _=>0,⟨[t],none,rfl,by simp [sumZ,Tr.sz]; omega⟩,?_⟩
 rintro ρ ⟨ts,a2,rfl,e3⟩
 refine N9 (ds:=ts.map Tr.d) rfl ⟨λz=>?_,λz=>?_⟩
 ·rcases List.eq_nil_or_concat ts with rfl | ⟨ts,q,rfl⟩
  ·cases z
  rw [List.concat_eq_append,zMa] at e3 ⊢
  rw [ux] at e3
  have hl:=cq (ts.map Tr.d)
  have e5:sumZ (ts.map Tr.d ++ [q].map Tr.d)=sumZ (ts.map Tr.d) + szD q.d:=by rw [ux]; simp [sumZ]
  have e4:sumZ ([q].map Tr.d)=szD q.d:=by simp [sumZ]
  have hz:=X4 q.d
  cases q with
  | lf =>
   simp only [List.map_cons,List.map_nil,Tr.d] at e5 ⊢
   walk_at "dl"
   refine ⟨⟨ts,_,rfl,by omega⟩,?_⟩
   rw [e5,show szD (.non:D)=1 from by simp [szD]]
   omega
  | nd l v r =>
   have e7:szD (Tr.nd l v r).d=1 + szD l.d + szD r.d:=by simp [Tr.d,szD]
   rw [e7] at e5 e4
   simp only [List.map_cons,List.map_nil,Tr.d] at e5 ⊢
   walk_at "dl"
   have ez:sumZ (ts.map Tr.d ++ [l.d,r.d])=sumZ (ts.map Tr.d) + szD l.d + szD r.d:=by rw [ux]; simp [sumZ]; omega
   refine ⟨λq=>absurd rfl q,λ_=>⟨v,rfl,λq=>(by cases q),λ_=>⟨by simp at hl ⊢; omega,⟨ts ++ [l,r],some (dv (.tup [l.d,.int v,r.d])),by simp,by simp only [zMa,List.map_cons,List.map_nil]; omega⟩,?_⟩⟩⟩
   rw [ez,e5]
   omega
 ·have e0:ts=[]:=by cases ts with | nil=>rfl | cons=>cases z
  subst e0
  walk_at "dl"
  exact h
def Xx (T:Tops mg) (F:Fun K "nodes_of" "nodes_of" (top 11) f fd) (m:mg "nodes_of" = some (.ref f)):FD P w K mg base 1 "nodes_of" ["tree"] T1:=by
 have S:zw ["tree", "many", "waiting", "part"] ["tree"] (ze (top 11)):=by walk_at "f"
 refine ub F S (F.binds λ_ _ _ _ _ _ us hl=>(by obtain ⟨_,rfl⟩:=cr hl; rfl)) m λqZ A outer s H E ds φ hr hl hT=>?_
 have hu:=hr.units
 refine ⟨_,(zf (y0 1 S.nd zc)
   (zf (y0 2 S.nd (yu (z0 (z9 0) za)))
   (zf (Wl (xj (z9 2)) (zf (Np 2 3 S.nd)
    (zu (xm (Vg (z9 3) v8) (zf (Hl 1 S.nd zc)
     (zu (Zg 2 (z0 (zh hu (z9 3) zc) (z0 (zh hu (z9 3) zc) za))))) yn))))
   (zu (yg (z9 1)))))),?_⟩
 obtain ⟨d0,rfl,t,rfl,hn,h⟩:=Em hT
 walk_at "dl"
 refine ⟨λρ=>∃ (ts:List Tr) (a3:Option EV) (k:Nat),ρ=[some (dv t.d),some (dv (.int (k:Nat))),some (dO (.lst (ts.map Tr.d))),a3] /\ k + (ts.map Tr.nodes).sum=t.nodes /\ sumZ (ts.map Tr.d) <= 600,λρ=>match ρ with
  | [_,_,some ⟨_,.lst ds⟩,_]=>sumZ ds
  | _=>0,⟨[t],none,0,rfl,by simp,by simp [sumZ,Tr.sz]; omega⟩,?_⟩
 rintro ρ ⟨ts,a2,k,rfl,hk,e3⟩
 refine N9 (ds:=ts.map Tr.d) rfl ⟨λz=>?_,λz=>?_⟩
 ·rcases List.eq_nil_or_concat ts with rfl | ⟨ts,q,rfl⟩
  ·cases z
  rw [List.concat_eq_append,zMa] at e3 ⊢
  rw [List.concat_eq_append,zMa,List.sum_append] at hk
  rw [ux] at e3
  have hl:=cq (ts.map Tr.d)
  have e5:sumZ (ts.map Tr.d ++ [q].map Tr.d)=sumZ (ts.map Tr.d) + szD q.d:=by rw [ux]; simp [sumZ]
  have e4:sumZ ([q].map Tr.d)=szD q.d:=by simp [sumZ]
  have hz:=X4 q.d
  cases q with
  | lf =>
   simp only [List.map_cons,List.map_nil,Tr.d] at e5 ⊢
   walk_at "dl"
   refine ⟨⟨ts,_,k,rfl,by simpa [Tr.nodes] using hk,by omega⟩,?_⟩
   rw [e5,show szD (.non:D)=1 from by simp [szD]]
   omega
  | nd l v r =>
   have e7:szD (Tr.nd l v r).d=1 + szD l.d + szD r.d:=by simp [Tr.d,szD]
   rw [e7] at e5 e4
   simp only [List.map_cons,List.map_nil,Tr.d] at e5 ⊢
   walk_at "dl"
   have ez:sumZ (ts.map Tr.d ++ [l.d,r.d])=sumZ (ts.map Tr.d) + szD l.d + szD r.d:=by rw [ux]; simp [sumZ]; omega
   refine ⟨by simp at hl ⊢; omega,⟨ts ++ [l,r],some (dv (.tup [l.d,.int v,r.d])),k + 1,by simp,by simp [Tr.nodes] at hk ⊢; omega,by simp only [zMa,List.map_cons,List.map_nil]; omega⟩,?_⟩
   rw [ez,e5]
   omega
 ·have e0:ts=[]:=by cases ts with | nil=>rfl | cons=>cases z
  subst e0
  have:k=t.nodes:=by simpa using hk
  subst this
  walk_at "dl"
  exact h
def Jd (T:Tops mg) (Cd:FD P w K mg base 1 "is_whole" ["thing"] T5) (Bx:FD P w K mg base 2 "is_tree" ["thing"] Nd) (F:Fun K "fits" "fits" (top 8) f fd) (m:mg "fits" = some (.ref f)):FD P w K mg base 3 "fits" ["shape", "thing"] (Nl FzT):=by
 have S:zw ["shape", "thing"] ["shape", "thing"] (ze (top 8)):=by walk_at "f"
 refine ub F S (F.binds λ_ _ _ _ _ _ us hl=>(by obtain ⟨_,_,rfl⟩:=sy hl; rfl)) m λqZ A outer s H E ds φ hr hl hT=>?_
 have hu:=hr.units
 refine ⟨_,(zf (xm (xh hu (z9 0) zj) (zu (yg (ya Cd (hr.mono (by decide)) (z0 (z9 1) za)))) yn)
   (zf (xm (xh hu (z9 0) zj) (zu (yg (Ym (ym T.isinstance (z0 (z9 1) (z0 (uq T.tuple xt) za))) (jr (Ry T.all (z0 (wf (T:=["number"]) (F:=[]) (js:=[]) (v7 (z9 1)) (show y9 (ze (top 8)) _ ["number"] [] from by walk_at "c") .nil (by decide) (λcl C fp s H=>(y3 (i:=0) (show ((["number"]:List Str) ++ ([]:List Str)).Nodup by decide +kernel) rfl (by walk_at "o"))) (yy (by decide)) (yp 0) (λcl C fp s H=>xy) (λcl C fp s H=>(ya Cd (hr.mono (by decide)) (z0 (z9 0) za)))) za)))))) yn)
   (zu (yg (ya Bx (hr.mono (by decide)) (z0 (z9 1) za)))))),?_⟩
 obtain ⟨s,d,rfl,⟨rfl,n,rfl⟩ | ⟨rfl,l,rfl,hl2⟩ | ⟨rfl,t,rfl,hn⟩,h⟩:=hT
 ·walk_at "dl"
  exact ⟨n,rfl,trivial,h⟩
 rotate_left
 ·walk_at "dl"
  exact ⟨t,rfl,hn,trivial,h⟩
 walk_at "dl"
 refine yw (l.map D.int) ?_ (λ_=>some (.bl true)) (by rw [zLm]; omega) ?_ ?_
 ·intro ψ hψ
  walk_at "dl"
  exact hψ
 ·intro d hd
  obtain ⟨y,hy,rfl⟩:=zah.mp hd
  unfold ρ0
  walk_at "dl"
  exact ⟨y,rfl,trivial,rfl⟩
 ·have e3:∀ l:List D,l.filterMap (λ_=>some (D.bl true))=(List.replicate l.length true).map D.bl:=λl=>by
   induction l with
   | nil=>rfl
   | cons x l ih=>simp only [List.filterMap_cons,zLc,List.replicate_succ,List.map_cons,ih]
  rw [e3]
  show match blsD _ with | some bs=>φ (dv (.bl (bs.all id))) | none=>False
  rw [Z3]
  dsimp only
  rw [show (List.replicate _ true).all id=true from by simp]
  exact h
def Uj (T:Tops mg) (Bo:FD P w K mg base 1 "nodes_of" ["tree"] T1) (F:Fun K "size_of" "size_of" (top 10) f fd) (m:mg "size_of" = some (.ref f)):FD P w K mg base 5 "size_of" ["shape", "value"] (Wh RT):=by
 have S:zw ["shape", "value"] ["shape", "value"] (ze (top 10)):=by walk_at "f"
 refine ub F S (F.binds λ_ _ _ _ _ _ us hl=>(by obtain ⟨_,_,rfl⟩:=sy hl; rfl)) m λqZ A outer s H E ds φ hr hl hT=>?_
 have hu:=hr.units
 refine ⟨_,(zf (xm (xh hu (z9 0) zj) (zu (yg zc)) yn)
   (zf (xm (xh hu (z9 0) zj) (zu (yg (wj T.len (z0 (z9 1) za)))) yn)
   (zu (yg (ya Bo (hr.mono (by decide)) (z0 (z9 1) za)))))),?_⟩
 unfold Wh g2 at hT
 split at hT
 ·obtain ⟨sh,v,n,rfl,rfl,⟨rfl,l,rfl,rfl⟩ | ⟨rfl,t,rfl,rfl,hn⟩,h⟩:=hT
  ·walk_at "dl"
   simpa using h
  ·walk_at "dl"
   exact ⟨t,rfl,hn,trivial,h⟩
 ·exact hT.elim
def sn (C:Addr) (R:Str->D->Int->Prop) (Fz:D->D->Prop):FT:=λds φ=>∃ fns:List (Str × D),∃ nm as most n0 ps sz b s1 n,ds=[.tup (fns.map Prod.snd),.str nm,.lst as,.int most] /\ fns.length <= 100 /\ (fns.map Prod.fst).Nodup /\ zn (fns.map Prod.snd) /\ (∀ p ∈ fns,∃ r,p.2=.tup (.str p.1 :: r)) /\
 rowG fns nm=some (.tup [n0,pmD ps,sz,b]) /\ zk n0 /\ zn (ps.map Prod.snd) /\ zk sz /\ zk b /\ zn as /\ ps.length=as.length /\ as.length <= 10 /\ (ps.map Prod.fst).Nodup /\ (∀ p ∈ (ps.map Prod.snd).zip as,Fz p.1 p.2) /\
 RunN C R fns most n (uo most nm as ps b ms0) s1 /\
 ((s1.cut=true /\ φ ⟨.new,.tup [.bl false,.non,.lst s1.calls,.lst s1.steps]⟩) \/ (s1.cut=false /\ ∃ v r,s1.ready=v :: r /\ zk v /\ φ ⟨.new,.tup [.bl true,v,.lst s1.calls,.lst s1.steps]⟩))
def N6:Stmt->List Expr
 | .Assign _ (.Call _ as _ _) _=>as
 | _=>[]
def Oe {v:Value} (T:Tops mg) (O:CO K C zp) (Bc:FD P w K mg base 4 "check_args" ["function", "args"] (Nm Fz)) (B3:FD P w K mg base 1 "function_of" ["program", "name"] Nk)
  (Bp:FM P w K mg base 2 C zp "__init__" ["self", "program", "most"] (Lc C)) (Cg:FM P w K mg base 2 C zp "enter" ["self", "name", "args"] (gw C)) (A6:FM P w K mg base 8 C zp "go" ["self"] (tGo C R)) (Bq:FMR P w K mg base 1 C zp "told" ["self"] (L9 C))
  (mk:W.makesIn K C=true) (kC:W.keepIn K (.ref C)=true) (mR:mg "Run" = some (.ref C)) (F:FunV K "trace" "trace" (top 15) f v fd):FnOk P w K mg base CX0 10 f fd ["program", "name", "args", "most"] (spD K 4 (sn C R Fz)):=by
 have S:zw ["program", "name", "args", "most", "run"] ["program", "name", "args", "most"] (ze (top 15)):=by walk_at "f"
 obtain ⟨fI,fdI,okI,bI,hI⟩:=Bp.ex
 obtain ⟨fT,fdT,okT,bT,hTt⟩:=Bq.ex
 refine Ef (N:=["program", "name", "args", "most", "run"]) (C:=C) (ns:=zp) (m:="told") (l:=4) (nI:=3) (nM:=1) (TI:=Lc C) (TM:=L9 C) (as1:=N6 ((yq (top 15)).getD 1 (.Pass ⟨0,0,0,0⟩))) (λlen hb=>F.ok S len hb) (by decide) rfl rfl λqZ A outer s H E ds φ hr hl hT=>?_
 have hu:=hr.units
 refine ⟨_,_,_,_,(Ll (ya Bc (hr.mono (by decide)) (z0 (ya B3 (hr.mono (by decide)) (z0 (z9 0) (z0 (z9 1) za))) (z0 (z9 2) za)))),(z0 (z9 0) (z0 (z9 3) za)),?_,(xw (yk O Cg (hr.mono (by decide)) (y4 (z9 1) (y4 (rj T.tuple (z0 (z9 2) za)) xa)))),(xw (Vh O A6 (hr.mono (by decide)))),?_,?_⟩
 ·intro t ht
  exact Wy (Kb ⟨mk,hI.at_,hI.fn,kC⟩ okI (hr.mono (by decide)) rfl mR bI .nil ci ht) (y3 (i:=4) S.nd rfl (by walk_at "o")) rfl rfl rfl
 ·exact Zm (V0 (wq rfl (by walk_at "o") (by decide) (by decide)) O.cl hTt okT (hr.mono (by decide)) bT .nil ci rfl)
 ·obtain ⟨fns,nm,as,most,n0,ps,sz,b,s1,n,rfl,hl1,nd,pf,hn,hf,p1,p2,p3,p4,p5,hl2,hl3,nd2,hz,hR,h⟩:=hT
  have ppm:zk (pmD ps):=yf.mpr λx hx=>by
   obtain ⟨y,hy,rfl⟩:=zah.mp hx
   exact ⟨trivial,yf.mp p2 _ (zah.mpr ⟨y,hy,rfl⟩),trivial⟩
  walk_at "dl"
  refine ⟨fns,nm,_,rfl,hl1,hn,hf,⟨p1,ppm,p3,p4,trivial⟩,?_⟩
  refine ⟨n0,ps,sz,b,as,rfl,hl2,by omega,hz,?_⟩
  refine ⟨by simp,by simp,?_⟩
  refine ⟨fns,most,rfl,rfl,hl1,nd,pf,hn,rfl,?_⟩
  refine ⟨_,rfl,fns,most,ms0,nm,as,n0,ps,sz,b,rfl,rfl,hf,p1,p2,p3,p4,p5,hl2,hl3,nd2,by decide,by decide,by decide,?_⟩
  refine ⟨_,rfl,fns,most,_,s1,n,rfl,rfl,hR,?_⟩
  exact ⟨_,rfl,fns,most,s1,rfl,rfl,h⟩
def zi (i:Int):Option EV:=some (dv (.int i))
def zs (s:Str):Option EV:=some (dv (.str s))
def zb (b:Bool):Option EV:=some (dv (.bl b))
def zd (d:D):Option EV:=some (dv d)
def zl (l:List D):Option EV:=some (dv (.lst l))
def zo (l:List D):Option EV:=some (dO (.lst l))
def letC (w:Int):Nat:=(("abcdfghjkmnopqrstuvwxyz" : Str).cps.toList).getD w.toNat 0
def one (c:Nat):Str:=⟨#[c]⟩
def U6 (ws:List Int) (a:Nat) (k:Nat):Str:=Str.join "" ((ws.set a ((ws.getD a 0 + (k:Int)).fmod 23)).map λw=>one (letC w))
def V6:∀ cs:List Nat,(Str.join "" (cs.map one)).cps.toList=cs
 | []=>rfl
 | [c]=>rfl
 | c :: c2 :: cs=>by
  have ih:=V6 (c2 :: cs)
  have e:Str.join "" ((c :: c2 :: cs).map one)=one c ++ ("" : Str) ++ Str.join "" ((c2 :: cs).map one):=rfl
  rw [e]
  show ((#[c] ++ #[]) ++ (Str.join "" ((c2 :: cs).map one)).cps:Array Nat).toList=_
  rw [Array.toList_append,ih]
  rfl
def O2:∀ i j:_root_.Fin 23,letC (i.val:Int)=letC (j.val:Int)->i=j:=by decide +kernel
def Xa (ws:List Int) (a:Nat) (ha:a < ws.length) (m:Nat) (hm:m <= 20):((List.range m).map (U6 ws a)).Nodup:=by
 refine List.pairwise_map.mpr (List.Pairwise.imp_of_mem ?_ List.nodup_range)
 intro k k' hk hk' ne e
 refine ne ?_
 have hk:=List.mem_range.mp hk
 have hk':=List.mem_range.mp hk'
 have ee:∀ k,(U6 ws a k).cps.toList=(ws.set a ((ws.getD a 0 + (k:Int)).fmod 23)).map letC:=λk=>by
  unfold U6
  rw [show ((ws.set a ((ws.getD a 0 + (k:Int)).fmod 23)).map λw=>one (letC w))=((ws.set a ((ws.getD a 0 + (k:Int)).fmod 23)).map letC).map one from by rw [List.map_map]; rfl]
  exact V6 _
 have e2:=congrArg (λs:Str=>s.cps.toList[a]?) e
 simp only [ee,zai,List.getElem?_set_self ha,Option.map_some,Option.some.injEq] at e2
 have m1:=ve (ws.getD a 0 + (k:Int)) 23 (by decide)
 have m2:=ve (ws.getD a 0 + (k':Int)) 23 (by decide)
 have q:=O2 ⟨((ws.getD a 0 + (k:Int)).fmod 23).toNat,by omega⟩ ⟨((ws.getD a 0 + (k':Int)).fmod 23).toNat,by omega⟩ (by
  simp only
  rw [Int.toNat_of_nonneg m1.1,Int.toNat_of_nonneg m2.1]
  exact e2)
 have q2:(ws.getD a 0 + (k:Int)).fmod 23=(ws.getD a 0 + (k':Int)).fmod 23:=by
  have:=congrArg _root_.Fin.val q
  simp only at this
  omega
 rw [Int.fmod_eq_emod_of_nonneg _ (by decide),Int.fmod_eq_emod_of_nonneg _ (by decide)] at q2
 omega
def Hf:FT:=λds φ=>∃ c,ds=[.int c] /\ ∀ n,φ (dv (.int n))
def Ni:FT:=λds φ=>∃ c:Int,∃ m:Nat,ds=[.int c,.int m] /\ m <= 20 /\ ∀ zs:List Str,zs.length=m->zs.Nodup->φ (df (.lst (zs.map D.str)))
def wk {a b:TDb} {ρ:DE} {ψ:Bool->Prop} (ha:∀ ψ:Bool->Prop,ψ false->a ρ ψ) (hb:∀ ψ:Bool->Prop,ψ false->b ρ ψ) (h:ψ false):bOr a b ρ ψ:=ha _ ⟨λz=>(by cases z),λ_=>hb _ h⟩
def fg {x:D} {ψ:Bool->Prop} (h1:okD 40 x) (h2:eqD x x=true) (h:ψ false):sNe x x λr=>match r.d with | .bl b=>ψ b | _=>False:=⟨h1,h1,by rw [h2]; exact h⟩
def kz {t:TD} {ρ:DE} {ψ:Bool->Prop} (h:t ρ λr=>match r.d with | .bl b=>ψ b | _=>False):tBo t ρ ψ:=h
def Jp {a:TDb} {ρ:DE} {ψ:Bool->Prop} (h:a ρ λc=>ψ (!c)):bNot a ρ ψ:=h
def kg {op:D->D->(EV->Prop)->Prop} {ta tb:TD} {ρ:DE} {φ:EV->Prop} (x y:EV) (h1:∀ ψ:EV->Prop,ψ x->ta ρ ψ) (h2:∀ ψ:EV->Prop,ψ y->tb ρ ψ) (h:op x.d y.d φ):d2 op ta tb ρ φ:=h1 _ (h2 _ h)
def vg {tc:TDb} {t1 t2:TDS} {ρ:DE} {Z:DZ} (b:Bool) (h:∀ ψ:Bool->Prop,ψ b->tc ρ ψ) (h1:b=true->t1 ρ Z) (h2:b=false->t2 ρ Z):sIf tc t1 t2 ρ Z:=h _ ⟨h1,h2⟩
def uj {t u:TDS} {ρ:DE} {Z:DZ} (h:t ρ { Z with nx:=λρ'=>u ρ' Z }):sSeq t u ρ Z:=h
def fc {t u:TDS} {ρ ρ':DE} {Z:DZ} (e:ρ=ρ') (h:sSeq t u ρ' Z):sSeq t u ρ Z:=e ▸ h
def qf {ρ:DE} {Z:DZ} (h:Z.nx ρ):sNil ρ Z:=h
def c5 {i:Nat} {te:TD} {ρ:DE} {Z:DZ} (h:te ρ λr=>(match r.k with | .own=>False | _=>True) /\ Z.nx (setS ρ i r.sto)):sSet i te ρ Z:=h
def vk {te:TD} {ρ:DE} {Z:DZ} (h:te ρ λr=>Z.rt r.ret):sRet te ρ Z:=h
def jl {i:Nat} {d:D} {ρ:DE} {ψ:DE->Prop} (h:ψ (setS ρ i (dv d))):gN i d ρ ψ:=h
def N2 {n:Nat} {T:FT} {t:TDs} {ρ:DE} {φ:EV->Prop} (rs:List EV) (h:∀ ψ:List EV->Prop,ψ rs->t ρ ψ) (hn:Nat.beq rs.length n=true) (hT:T (rs.map EV.d) φ):Q6 n T t ρ φ:=h _ ⟨hn,hT⟩
def N0 {te:TD} {ρ:DE} {φ:EV->Prop} (h:te ρ λr=>sTupC [r.d] φ):dCB sTupC (uu te aNil) ρ φ:=h
def bt (T:Tops mg) (F:Fun K "_law_number" "_law_number" (top 20) f fd) (m:mg "_law_number" = some (.ref f)):FD P w K mg base 1 "_law_number" ["_law_cell"] Hf:=by
 have S:zw ["_law_cell"] ["_law_cell"] (ze (top 20)):=by walk_at "f"
 refine ub F S (F.binds λ_ _ _ _ _ _ us hl=>(by obtain ⟨_,rfl⟩:=cr hl; rfl)) m λqZ A outer s H E ds φ hr hl hT=>?_
 have hu:=hr.units
 refine ⟨_,(zu (yg (wg (tm (wr (z9 0) (tm (Yl zc (Rt zc zc)) zc)) (Rt zc zc)) zc))),?_⟩
 obtain ⟨c,rfl,h⟩:=hT
 walk_at "dl"
 exact ⟨IntMulOk.of_left (by decide),by decide,h _⟩
def Yh (T:Tops mg) (F:Fun K "_law_names" "_law_names" (top 21) f fd) (m:mg "_law_names" = some (.ref f)):FD P w K mg base 1 "_law_names" ["_law_cell", "_law_many"] Ni:=by
 have S:zw ["_law_cell", "_law_many", "_law_letters", "_law_word", "_law_at", "_law_names_here", "_law_k", "_law_turned"] ["_law_cell", "_law_many"] (ze (top 21)):=by walk_at "f"
 refine ub F S (F.binds λ_ _ _ _ _ _ us hl=>(by obtain ⟨_,_,rfl⟩:=sy hl; rfl)) m λqZ A outer s H E ds φ hr hl hT=>?_
 have hu:=hr.units
 refine ⟨_,(zf (yd (y0 2 S.nd zj))
   (zf (yd (y0 0 S.nd (wr (z9 0) (Rt zc zc))))
   (zf (yd (qe (T:=["_law_k"]) (F:=["_law_cell"]) (js:=[0]) 3 S.nd (we T.range (z0 (wg zc (wr (z9 0) zc)) za)) (show y9 (ze (top 21)) _ ["_law_k"] ["_law_cell"] from by walk_at "c") (.cons rfl .nil) (by decide) (λcl C fp s H=>(y3 (i:=0) (show ((["_law_k"]:List Str) ++ (["_law_cell"]:List Str)).Nodup by decide +kernel) rfl (by walk_at "o"))) (yy (by decide)) (yp 0) (λcl C fp s H=>xy) (λcl C fp s H=>(wr (wg (bx (z9 1) (wg (z9 0) zc)) (Yl (z9 0) (z9 0))) zc))))
   (zf (yd (y0 4 S.nd (wr (bx (z9 0) zc) (wj T.len (z0 (z9 3) za)))))
   (zf (yd (y0 5 S.nd (yu za)))
   (zf (yd (sr (we T.range (z0 (z9 1) za)) (y3 (i:=6) S.nd rfl (by walk_at "o")) (yp 6) (zf (y0 7 S.nd (Ou T.list (z0 (z9 3) za)))
    (zf (Lk 7 hu (z9 4) (wr (wg (zh hu (z9 3) (z9 4)) (z9 6)) zc))
    (zu (Wm 7 (j3 5 (Ov zj (wf (T:=["_law_part"]) (F:=["_law_letters"]) (js:=[2]) (v7 (z9 7)) (show y9 (ze (top 21)) _ ["_law_part"] ["_law_letters"] from by walk_at "c") (.cons rfl .nil) (by decide) (λcl C fp s H=>(y3 (i:=0) (show ((["_law_part"]:List Str) ++ (["_law_letters"]:List Str)).Nodup by decide +kernel) rfl (by walk_at "o"))) (yy (by decide)) (yp 0) (λcl C fp s H=>xy) (λcl C fp s H=>(zh hu (z9 1) (z9 0))))))))))))
   (zu (yg (z9 5))))))))),?_⟩
 obtain ⟨c0,m,rfl,hl1,h⟩:=hT
 have f9:∀ (x:Int) (y:Int),y ≠ 0->y.natAbs <= 100->FdOk x y:=λx y a b=>of_eq_true (Mi a (by omega))
 refine zx (λρ=>ρ=[some (dv (.int c0)),some (dv (.int m)),some (dv (.str "abcdfghjkmnopqrstuvwxyz")),none,none,none,none,none]) ?_ ?_
 ·walk_at "dl"
 rintro _ rfl
 have cb:=ve c0 (10 ^ 9) (by decide)
 obtain ⟨c,ec⟩:∃ c,c0.fmod (10 ^ 9)=c:=⟨_,rfl⟩
 rw [ec] at cb
 refine zx (λρ=>ρ=[some (dv (.int c)),some (dv (.int m)),some (dv (.str "abcdfghjkmnopqrstuvwxyz")),none,none,none,none,none]) ?_ ?_
 ·walk_at "dl"
  rw [ec]
 rintro _ rfl
 have c8:=ve c 8 (by decide)
 refine zx (λρ=>∃ ws:List Int,(∀ w ∈ ws,0 <= w /\ w < 23) /\ 1 <= ws.length /\ ws.length <= 8 /\ ρ=[some (dv (.int c)),some (dv (.int m)),some (dv (.str "abcdfghjkmnopqrstuvwxyz")),some (dO (.lst (ws.map D.int))),none,none,none,none]) ?_ ?_
 ·walk_at "dl"
  refine yw (rngD 0 (1 + c.fmod 8).toNat) (λψ hψ=>?_) (λd=>match d with | .int k=>some (.int ((c.fdiv (k + 1) + k * k).fmod 23)) | _=>none) (by rw [wm]; omega) ?_ ?_
  ·walk_at "dl"
   exact ⟨by omega,by omega,hψ⟩
  ·intro d hd
   obtain ⟨i,hi⟩:=List.getElem?_of_mem hd
   obtain ⟨hi2,rfl⟩:=tw hi
   unfold ρ0
   walk_at "dl"
   exact ⟨fdOk (m:=64) (by omega) (Mu (by omega)),IntMulOk.of_left (Mu (m:=64) (by omega))⟩
  ·refine ⟨trivial,(List.range (1 + c.fmod 8).toNat).map λk:Nat=>(c.fdiv ((k:Int) + 1) + (k:Int) * k).fmod 23,λw hw=>?_,by rw [zLm,List.length_range]; omega,by rw [zLm,List.length_range]; omega,?_⟩
   ·obtain ⟨k,_,rfl⟩:=zah.mp hw
    exact ve _ 23 (by decide)
   ·have e4:∀ n,(rngD 0 n).filterMap (λd=>match d with | .int k=>some (D.int ((c.fdiv (k + 1) + k * k).fmod 23)) | _=>none)=((List.range n).map λk:Nat=>(c.fdiv ((k:Int) + 1) + (k:Int) * k).fmod 23).map D.int:=λn=>by
     unfold rngD
     rw [List.filterMap_map,List.map_map,<- List.filterMap_eq_map]
     congr 1
     funext k
     simp
    rw [e4]
 rintro _ ⟨ws,hw,l1,l2,rfl⟩
 have ab:=ve (c.fdiv 8) ws.length (by omega)
 obtain ⟨at_,ea⟩:∃ at_:Nat,(c.fdiv 8).fmod ws.length=at_:=⟨((c.fdiv 8).fmod ws.length).toNat,by omega⟩
 rw [ea] at ab
 refine zx (λρ=>ρ=[some (dv (.int c)),some (dv (.int m)),some (dv (.str "abcdfghjkmnopqrstuvwxyz")),some (dO (.lst (ws.map D.int))),some (dv (.int at_)),none,none,none]) ?_ ?_
 ·walk_at "dl"
  rw [ea]
  exact ⟨f9 _ _ (by decide) (by decide),by omega,rfl⟩
 rintro _ rfl
 refine zx (λρ=>ρ=[some (dv (.int c)),some (dv (.int m)),some (dv (.str "abcdfghjkmnopqrstuvwxyz")),some (dO (.lst (ws.map D.int))),some (dv (.int at_)),some (dO (.lst [])),none,none]) ?_ ?_
 ·walk_at "dl"
 rintro _ rfl
 refine zx (λρ=>∃ a b,ρ=[some (dv (.int c)),some (dv (.int m)),some (dv (.str "abcdfghjkmnopqrstuvwxyz")),some (dO (.lst (ws.map D.int))),some (dv (.int at_)),some (dO (.lst (((List.range m).map (U6 ws at_)).map D.str))),a,b]) ?_ ?_
 ·refine vm (rngD 0 m) (λψ hψ=>?_) (λi ρ=>∃ a b,ρ=[some (dv (.int c)),some (dv (.int m)),some (dv (.str "abcdfghjkmnopqrstuvwxyz")),some (dO (.lst (ws.map D.int))),some (dv (.int at_)),some (dO (.lst (((List.range i).map (U6 ws at_)).map D.str))),a,b]) ⟨none,none,rfl⟩ ?_ ?_
  ·walk_at "dl"
   exact ⟨by omega,by omega,hψ⟩
  ·rintro i d _ hd ⟨a,b,rfl⟩
   obtain ⟨hi,rfl⟩:=tw hd
   have lt:at_ < ws.length:=by omega
   have e1:atI ws (at_:Int)=some (ws.getD at_ 0):=tu (by omega) (by simp [lt])
   have e2:ixN ws.length (at_:Int)=some at_:=by
    unfold ixN
    rw [if_pos (by omega),if_pos (by omega)]
    simp
   have ln23:(("abcdfghjkmnopqrstuvwxyz" : Str).cps.toList).length=23:=by decide +kernel
   have sz:("abcdfghjkmnopqrstuvwxyz" : Str).length <= sizeLine:=by rw [sizeLine_eq]; decide +kernel
   walk_at "dl"
   simp only [e1,e2,Option.map_some]
   simp only [Mr,dC]
   have es:(ws.map D.int).set at_ (.int ((ws.getD at_ 0 + (i:Int)).fmod 23))=(ws.set at_ ((ws.getD at_ 0 + (i:Int)).fmod 23)).map D.int:=by rw [List.map_set]
   rw [es]
   have hv:∀ w ∈ ws.set at_ ((ws.getD at_ 0 + (i:Int)).fmod 23),0 <= w /\ w < 23:=λw hw'=>by
    rcases List.mem_or_eq_of_mem_set hw' with q | q
    ·exact hw w q
    ·rw [q]; exact ve _ 23 (by decide)
   have lv:(ws.set at_ ((ws.getD at_ 0 + (i:Int)).fmod 23)).length <= 8:=by rw [List.length_set]; exact l2
   have en:U6 ws at_ i=Str.join "" ((ws.set at_ ((ws.getD at_ 0 + (i:Int)).fmod 23)).map λw=>one (letC w)):=rfl
   generalize ws.set at_ ((ws.getD at_ 0 + (i:Int)).fmod 23)=vs at hv lv en
   refine yw (vs.map D.int) (λψ hψ=>?_) (λd=>match d with | .int w=>some (.str (one (letC w))) | _=>none) (by rw [zLm]; omega) ?_ ?_
   ·walk_at "dl"
    exact hψ
   ·intro d hd
    obtain ⟨w,hw',rfl⟩:=zah.mp hd
    obtain ⟨w0,w1⟩:=hv w hw'
    have e5:atI ("abcdfghjkmnopqrstuvwxyz" : Str).cps.toList w=some (letC w):=tu w0 (by
     unfold letC
     rw [List.getD_eq_getElem?_getD,zaf (by rw [ln23]; omega)]
     rfl)
    unfold ρ0
    walk_at "dl"
    rw [e5]
    exact ⟨sz,rfl⟩
   ·have e6:(vs.map D.int).filterMap (λd=>match d with | .int w=>some (D.str (one (letC w))) | _=>none)=(vs.map λw=>one (letC w)).map D.str:=by
     rw [List.filterMap_map,List.map_map,<- List.filterMap_eq_map]
     rfl
    rw [e6]
    refine ⟨_,rfl,?_,trivial,by simp; omega,some (dv (.int i)),some (dv (.lst (vs.map D.int))),?_⟩
    ·have sm:∀ us:List Int,((us.map λw=>one (letC w)).map λt=>t.length + (Str.ofString "").length).sum=us.length:=λus=>by
      induction us with
      | nil=>rfl
      | cons u us ih=>simp only [List.map_cons,List.sum_cons,ih,zLc]; show 1 + 0 + us.length=_; omega
     rw [sm,sizeLine_eq]
     omega
    ·rw [List.range_succ,zMa,zMa,List.map_cons,List.map_nil,List.map_cons,List.map_nil,en]
  ·rintro _ ⟨a,b,rfl⟩
   rw [wm]
   exact ⟨a,b,rfl⟩
 rintro _ ⟨a,b,rfl⟩
 walk_at "dl"
 exact ⟨yf.mpr λx hx=>by obtain ⟨z,_,rfl⟩:=zah.mp hx; trivial,h _ (by simp) (Xa ws at_ (by omega) m hl1)⟩
def xc {i:Nat} {te:TD} {u:TDS} {ρ:DE} {Z:DZ} (h:te ρ λr=>(match r.k with | .own=>False | _=>True) /\ u (setS ρ i r.sto) Z):sSeq (sSet i te) u ρ Z:=h
def shW:Nat->Str
 | 0=>"num"
 | 1=>"list"
 | _=>"tree"
def szW:Nat->D
 | 0=>.tup [.int 0,.int 0,.int 0]
 | _=>.tup [.int 0,.int 1,.int 0]
def fnW (f x nn:Str) (w:Nat) (b:D):D:=.tup [.str f,pmD [(x,.str (shW w)),(nn,.str "num")],.tup [.str (shW w),szW w],b]
def WB (w:Nat) (far:Int) (f x nn y:Str) (b:D):Prop :=
 (w=0 /\ b=bd0 f x nn far) \/ ∃ fn:Nat,far=fn /\ 1 <= fn /\ fn <= 4 /\ ((w=1 /\ b=bd1 f x nn fn) \/ (w=2 /\ b=bd2 f x nn y) \/ (w=3 /\ b=bd3 f x nn fn))
def He:FT:=λds φ=>∃ (w:Nat) (far:Int) (f x nn y:Str) (b:D),ds=[.int w,.int far,.lst [.str f,.str x,.str nn,.str y]] /\ WB w far f x nn y b /\ φ (dv (.tup [fnW f x nn w b]))
def WB.pure {w:Nat} {far:Int} {f x nn y:Str} {b:D} (h:WB w far f x nn y b):zk b:=by
 rcases h with ⟨_,rfl⟩ | ⟨fn,_,_,_,⟨_,rfl⟩ | ⟨_,rfl⟩ | ⟨_,rfl⟩⟩
 ·simp [bd0,caD,vaD,nuD,zk,zn]
 ·exact ⟨trivial,⟨trivial,trivial,⟨pCo fn,pv nn,trivial⟩,trivial⟩,trivial⟩
 ·simp [bd2,noE,caD,vaD,zk,zn]
 ·exact ⟨trivial,⟨trivial,trivial,⟨⟨trivial,pv x,pv nn,pCh _,trivial⟩,pv nn,trivial⟩,trivial⟩,trivial⟩
def bj {w:Nat} {f x nn:Str} {b:D} (h:zk b):zk (fnW f x nn w b):=by
 refine ⟨trivial,?_,?_,h,trivial⟩
 ·simp [pmD,zk,zn]
 ·refine ⟨trivial,?_,trivial⟩
  cases w <;> simp [szW,zk,zn]
def gj (T:Tops mg) (F:Fun K "_law_program" "_law_program" (top 22) f fd) (m:mg "_law_program" = some (.ref f)):FD P w K mg base 1 "_law_program" ["_law_way", "_law_far", "_law_names_here"] He:=by
 have S:zw ["_law_way", "_law_far", "_law_names_here", "_law_f", "_law_x", "_law_n", "_law_y", "_law_shape", "_law_size", "_law_next_one", "_law_chain", "_law_k", "_law_body", "_law_great"] ["_law_way", "_law_far", "_law_names_here"] (ze (top 22)):=by walk_at "f"
 refine ub F S (F.binds λ_ _ _ _ _ _ us hl=>(by obtain ⟨_,_,_,rfl⟩:=gd hl; rfl)) m λqZ A outer s H E ds φ hr hl hT=>?_
 have hu:=hr.units
 refine ⟨_,(zf (yd (Lj (z9 2) (S6 (K0:=K) (n:=4) (by rfl) (by rfl) (x4 (y3 (i:=3) S.nd rfl (by walk_at "o")) (x4 (y3 (i:=4) S.nd rfl (by walk_at "o")) (x4 (y3 (i:=5) S.nd rfl (by walk_at "o")) (x4 (y3 (i:=6) S.nd rfl (by walk_at "o")) ql))))) (Rb 3 4 5 6)))
   (zf (yd (y0 7 S.nd (zh hu (yu (z0 zj (z0 zj (z0 zj (z0 zj za))))) (z9 0))))
   (zf (yd (y0 8 S.nd (zh hu (yu (z0 (zm (z0 zc (z0 zc (z0 zc za)))) (z0 (zm (z0 zc (z0 zc (z0 zc za)))) za))) (ju T.int (z0 (Rv (z9 0) zc) za)))))
   (zf (yd (xm (xh hu (z9 0) zc) (zu (y0 9 S.nd (zm (z0 zj (z0 (zm (z0 zj (z0 (z9 4) za))) (z0 (zm (z0 zj (z0 (z9 1) za))) za)))))) (zu (xm (xh hu (z9 0) zc) (zf (y0 10 S.nd (zm (z0 zj za)))
     (zf (sr (we T.range (z0 (tm (z9 1) zc) za)) (y3 (i:=11) S.nd rfl (by walk_at "o")) (yp 11) (zu (y0 10 S.nd (zm (z0 zj (z0 (zm (z0 zj za)) (z0 (zm (z0 zj (z0 (z9 5) za))) (z0 (z9 10) za))))))))
     (zu (y0 9 S.nd (zm (z0 zj (z0 (zm (z0 zj (z0 (z9 4) za))) (z0 (zm (z0 zj (z0 (z9 5) za))) (z0 (z9 10) za))))))))) (zf (y0 9 S.nd (zm (z0 zj (z0 (z9 4) za))))
     (zu (sr (we T.range (z0 (z9 1) za)) (y3 (i:=11) S.nd rfl (by walk_at "o")) (yp 11) (zu (y0 9 S.nd (zm (z0 zj (z0 (zm (z0 zj (z0 (z9 5) za))) (z0 (z9 9) za)))))))))))))
   (zf (yd (y0 12 S.nd (zm (z0 zj (z0 (zm (z0 zj (z0 (z9 3) (z0 (zm (z0 (z9 9) (z0 (zm (z0 zj (z0 (z9 5) za))) za))) za)))) za)))))
   (zf (yd (xm (xh hu (z9 0) zc) (zf (y0 13 S.nd (zm (z0 zj (z0 (zm (z0 zj (z0 (z9 4) za))) (z0 (zm (z0 zj (z0 (z9 5) za))) (z0 (zm (z0 zj (z0 (z9 4) za))) za))))))
    (zu (y0 12 S.nd (zm (z0 zj (z0 (z9 6) (z0 (z9 13) (z0 (zm (z0 zj (z0 (zm (z0 zj (z0 (z9 3) (z0 (zm (z0 (zm (z0 zj (z0 (z9 6) za))) (z0 (zm (z0 zj (z0 (z9 5) za))) za))) za)))) za))) za)))))))) yn))
   (zu (yg (zm (z0 (zm (z0 (z9 3) (z0 (zm (z0 (zm (z0 (z9 4) (z0 (z9 7) za))) (z0 (zm (z0 (z9 5) (z0 zj za))) za))) (z0 (zm (z0 (z9 7) (z0 (z9 8) za))) (z0 (z9 12) za))))) za)))))))))),?_⟩
 obtain ⟨w,far,f1,x,nn,y,b,rfl,hb,h⟩:=hT
 have pb:=hb.pure
 have pu:zk (.tup [fnW f1 x nn w b]):=⟨bj pb,trivial⟩
 have hw:w=0 \/ w=1 \/ w=2 \/ w=3:=by
  rcases hb with ⟨rfl,_⟩ | ⟨_,_,_,_,⟨rfl,_⟩ | ⟨rfl,_⟩ | ⟨rfl,_⟩⟩ <;> decide
 refine zx (λρ=>ρ=[zi (w:Nat),zi far,zl ([.str f1,.str x,.str nn,.str y]),zs f1,zs x,zs nn,zs y,none,none,none,none,none,none,none]) ⟨trivial,rfl⟩ ?_
 rintro _ rfl
 refine zx (λρ=>ρ=[zi (w:Nat),zi far,zl ([.str f1,.str x,.str nn,.str y]),zs f1,zs x,zs nn,zs y,zs (shW w),none,none,none,none,none,none]) (by rcases hw with rfl | rfl | rfl | rfl <;> exact ⟨rfl,rfl,trivial,rfl⟩) ?_
 rintro _ rfl
 refine zx (λρ=>ρ=[zi (w:Nat),zi far,zl ([.str f1,.str x,.str nn,.str y]),zs f1,zs x,zs nn,zs y,zs (shW w),zd (szW w),none,none,none,none,none]) (by rcases hw with rfl | rfl | rfl | rfl <;> exact ⟨rfl,rfl,rfl,rfl,rfl,rfl,trivial,rfl⟩) ?_
 rintro _ rfl
 refine zx (λρ=>∃ ne,(w ≠ 2->b=.tup [.str "give", caD f1 [ne,vaD nn]]) /\ (w=2->b=bd2 f1 x nn y) /\ ∃ a c,ρ=[zi (w:Nat),zi far,zl ([.str f1,.str x,.str nn,.str y]),zs f1,zs x,zs nn,zs y,zs (shW w),zd (szW w),zd (ne),a,c,none,none]) ?_ ?_
 ·clear pu
  rcases hb with ⟨rfl,rfl⟩ | ⟨fn,rfl,hf1,hf4,⟨rfl,rfl⟩ | ⟨rfl,rfl⟩ | ⟨rfl,rfl⟩⟩
  ·refine vg true (λψ hψ=>⟨zg ▸ trivial,zg ▸ trivial,hψ⟩) (λ_=>?_) (λz=>(by cases z))
   exact ⟨rfl,rfl,rfl,rfl,rfl,rfl,trivial,_,λ_=>rfl,λz=>absurd z (by decide),_,_,rfl⟩
  ·refine vg false (λψ hψ=>⟨zg ▸ trivial,zg ▸ trivial,hψ⟩) (λz=>(by cases z)) (λ_=>?_)
   refine vg false (λψ hψ=>⟨zg ▸ trivial,zg ▸ trivial,hψ⟩) (λz=>(by cases z)) (λ_=>?_)
   refine xc ⟨rfl,rfl,trivial,?_⟩
   refine (show sFor _ _ _ [zi (1:Nat),zi (fn:Nat),zl ([.str f1,.str x,.str nn,.str y]),zs f1,zs x,zs nn,zs y,zs (shW 1),zd (szW 1),zd (coE x nn 0),none,none,none,none] _ from ?_)
   refine vm (rngD 0 fn) (λψ hψ=>⟨(show -(2 ^ 62) <= (fn:Int) by omega),(show (fn:Int) < 2 ^ 62 by omega),hψ⟩) (λi ρ=>∃ a,ρ=[zi (1:Nat),zi (fn:Nat),zl ([.str f1,.str x,.str nn,.str y]),zs f1,zs x,zs nn,zs y,zs (shW 1),zd (szW 1),zd (coE x nn i),none,a,none,none]) ⟨none,rfl⟩ ?_ ?_
   ·rintro i d _ hd ⟨a,rfl⟩
    obtain ⟨hi,rfl⟩:=tw hd
    exact ⟨rfl,rfl,rfl,rfl,trivial,_,rfl⟩
   ·rintro _ ⟨a,rfl⟩
    rw [wm]
    exact ⟨_,λ_=>rfl,λz=>absurd z (by decide),_,_,rfl⟩
  ·refine vg false (λψ hψ=>⟨zg ▸ trivial,zg ▸ trivial,hψ⟩) (λz=>(by cases z)) (λ_=>?_)
   refine vg false (λψ hψ=>⟨zg ▸ trivial,zg ▸ trivial,hψ⟩) (λz=>(by cases z)) (λ_=>?_)
   refine xc ⟨rfl,rfl,trivial,?_⟩
   refine (show sFor _ _ _ [zi (2:Nat),zi (fn:Nat),zl ([.str f1,.str x,.str nn,.str y]),zs f1,zs x,zs nn,zs y,zs (shW 2),zd (szW 2),zd (coE x nn 0),none,none,none,none] _ from ?_)
   refine vm (rngD 0 fn) (λψ hψ=>⟨(show -(2 ^ 62) <= (fn:Int) by omega),(show (fn:Int) < 2 ^ 62 by omega),hψ⟩) (λi ρ=>∃ a,ρ=[zi (2:Nat),zi (fn:Nat),zl ([.str f1,.str x,.str nn,.str y]),zs f1,zs x,zs nn,zs y,zs (shW 2),zd (szW 2),zd (coE x nn i),none,a,none,none]) ⟨none,rfl⟩ ?_ ?_
   ·rintro i d _ hd ⟨a,rfl⟩
    obtain ⟨hi,rfl⟩:=tw hd
    exact ⟨rfl,rfl,rfl,rfl,trivial,_,rfl⟩
   ·rintro _ ⟨a,rfl⟩
    rw [wm]
    exact ⟨_,λz=>absurd rfl z,λ_=>rfl,_,_,rfl⟩
  ·refine vg false (λψ hψ=>⟨zg ▸ trivial,zg ▸ trivial,hψ⟩) (λz=>(by cases z)) (λ_=>?_)
   refine vg true (λψ hψ=>⟨zg ▸ trivial,zg ▸ trivial,hψ⟩) (λ_=>?_) (λz=>(by cases z))
   refine xc ⟨rfl,rfl,trivial,?_⟩
   refine fc (ρ':=[zi (3:Nat),zi (fn:Nat),zl ([.str f1,.str x,.str nn,.str y]),zs f1,zs x,zs nn,zs y,zs (shW 3),zd (szW 3),none,zd (chE nn 0),none,none,none]) (by rfl) (uj ?_)
   refine vm (rngD 0 (fn - 1)) (λψ hψ=>⟨(show -(2 ^ 62) <= (fn:Int) - 1 by omega),(show (fn:Int) - 1 < 2 ^ 62 by omega),by rw [show ((fn:Int) - 1).toNat=fn - 1 by omega]; exact hψ⟩) (λi ρ=>∃ a,ρ=[zi (3:Nat),zi (fn:Nat),zl ([.str f1,.str x,.str nn,.str y]),zs f1,zs x,zs nn,zs y,zs (shW 3),zd (szW 3),none,zd (chE nn i),a,none,none]) ⟨none,rfl⟩ ?_ ?_
   ·rintro i d _ hd ⟨a,rfl⟩
    obtain ⟨hi,rfl⟩:=tw hd
    exact ⟨rfl,rfl,rfl,rfl,rfl,rfl,trivial,_,rfl⟩
   ·rintro _ ⟨a,rfl⟩
    rw [wm]
    exact ⟨rfl,rfl,rfl,rfl,rfl,rfl,trivial,_,λ_=>rfl,λz=>absurd z (by decide),_,_,rfl⟩
 rintro _ ⟨ne,h1,h2,a,c,rfl⟩
 refine zx (λρ=>ρ=[zi (w:Nat),zi far,zl ([.str f1,.str x,.str nn,.str y]),zs f1,zs x,zs nn,zs y,zs (shW w),zd (szW w),zd (ne),a,c,zd (.tup [.str "give", caD f1 [ne,vaD nn]]),none]) (by exact ⟨rfl,rfl,rfl,rfl,rfl,rfl,rfl,rfl,trivial,rfl⟩) ?_
 rintro _ rfl
 refine zx (λρ=>∃ g,ρ=[zi (w:Nat),zi far,zl ([.str f1,.str x,.str nn,.str y]),zs f1,zs x,zs nn,zs y,zs (shW w),zd (szW w),zd (ne),a,c,zd (b),g]) ?_ ?_
 ·by_cases e:w=2
  ·cases (h2 e)
   subst e
   refine vg true (λψ hψ=>⟨zg ▸ trivial,zg ▸ trivial,hψ⟩) (λ_=>?_) (λz=>(by cases z))
   refine xc ⟨rfl,rfl,rfl,rfl,rfl,rfl,rfl,rfl,trivial,?_⟩
   exact ⟨rfl,rfl,rfl,rfl,rfl,rfl,rfl,rfl,rfl,rfl,rfl,rfl,trivial,_,rfl⟩
  ·refine vg false (λψ hψ=>⟨zg ▸ trivial,zg ▸ trivial,?_⟩) (λz=>(by cases z)) (λ_=>qf ⟨none,by rw [h1 e]⟩)
   show ψ (eqD (.int (w:Nat)) (.int 2))
   rw [show eqD (.int (w:Nat)) (.int 2)=false from by rw [W4]; exact beq_eq_false_iff_ne.mpr (by omega)]
   exact hψ
 rintro _ ⟨g,rfl⟩
 exact ⟨rfl,rfl,rfl,rfl,rfl,rfl,rfl,rfl,rfl,rfl,rfl,rfl,pu,h⟩
def ug (w:Nat) (far num:Int) (th:Nat->D) (sz:Nat->Nat) (inn:Nat->List Str) (ov:Nat->Bool):Prop :=
 (w=0 /\ ∃ t,th=th0 t far /\ sz=(λ_=>0) /\ inn=in0 /\ ov=λ_=>false) \/
 ∃ fn:Nat,far=fn /\ 1 <= fn /\ fn <= 4 /\
  ((w=1 /\ ∃ l:List Int,l.length <= 100 /\ th=th1 l num fn /\ sz=(λk=>l.length + k * fn) /\ inn=in1 l.length fn /\ ov=ov1 l.length fn) \/
   (w=2 /\ ∃ t:Tr,t.nodes <= 100 /\ t.dep <= 50 /\ th=(λk=>(T2 t num k).d) /\ sz=(λk=>(T2 t num k).nodes) /\ inn=in2 t num /\ ov=ov2 t num) \/
   (w=3 /\ ∃ t:Tr,t.nodes <= 100 /\ t.dep <= 50 /\ th=(λk=>(T3 t num fn k).d) /\ sz=(λk=>t.nodes + k * fn) /\ inn=in3 t.nodes fn /\ ov=ov1 t.nodes fn))
def Qu1:FT:=λds φ=>∃ w far num th sz inn ov,∃ k:Nat,ug w far num th sz inn ov /\ k <= 20 /\ sz k <= 300 /\ ds=[.int w,.int far,th k,.int num] /\ ∀ kd:Kd,(kd=.val \/ kd=.new)->φ ⟨kd,th (k + 1)⟩
def Nj:FT:=λds φ=>∃ w far num th sz inn ov,∃ k:Nat,∃ a:Int,ug w far num th sz inn ov /\ sz k <= 100 /\ ds=[.int w,.int far,.int (sz k:Nat),.int a] /\ φ (df (.lst ((inn k).map (stp a))))
def La1:FT:=λds φ=>∃ w far num th sz inn ov,∃ k:Nat,ug w far num th sz inn ov /\ sz k <= 100 /\ ds=[.int w,.int far,.int (sz k:Nat)] /\ φ (dv (.bl (ov k)))
def ji (l:List Int):zn (l.map D.int):=yf.mpr λd hd=>by obtain ⟨i,_,rfl⟩:=zah.mp hd; trivial
def rb {α β:Type} (b:β):∀ l:List α,l.filterMap (λ_=>some b)=List.replicate l.length b
 | []=>rfl
 | a :: l=>by rw [List.filterMap_cons]; show b :: l.filterMap _=_; rw [rb b l]; rfl
def ui (a:Int) (l:List Str):zn (l.map (stp a)):=yf.mpr λd hd=>by obtain ⟨i,_,rfl⟩:=zah.mp hd; exact ⟨trivial,trivial,trivial⟩
def Q7 {s:FT} {te:TD} {ρ:DE} {φ:EV->Prop} (h:te ρ λr=>s [r.d] φ):dCB s (uu te aNil) ρ φ:=h
def qy {ta tb:TD} {ρ:DE} {φ:EV->Prop} (b:Bool) (h:∀ ψ:EV->Prop,ψ (dv (.bl b))->ta ρ ψ) (h1:b=true->tb ρ φ) (h2:b=false->φ (dv (.bl false))):vAnd ta tb ρ φ:=h _ ⟨h1,h2⟩
def Ut {ta tb:TD} {ρ:DE} {φ:EV->Prop} (b:Bool) (h:∀ ψ:EV->Prop,ψ (dv (.bl b))->ta ρ ψ) (h1:b=true->φ (dv (.bl true))) (h2:b=false->tb ρ φ):vOr ta tb ρ φ:=h _ ⟨h1,h2⟩
def vt {tc:TDb} {t1 u:TDS} {ρ:DE} {Z:DZ} (h:∀ ψ:Bool->Prop,ψ false->tc ρ ψ) (h2:u ρ Z):sSeq (sIf tc t1 sNil) u ρ Z:=h _ ⟨λz=>(by cases z),λ_=>h2⟩
def qg {tc:TDb} {t1 t2 u:TDS} {ρ:DE} {Z:DZ} (h:∀ ψ:Bool->Prop,ψ true->tc ρ ψ) (h1:t1 ρ { Z with nx:=λρ'=>u ρ' Z }):sSeq (sIf tc t1 t2) u ρ Z:=h _ ⟨λ_=>h1,λz=>(by cases z)⟩
def W0 (T:Tops mg) (F:Fun K "_law_next" "_law_next" (top 23) f fd) (m:mg "_law_next" = some (.ref f)):FD P w K mg base 1 "_law_next" ["_law_way", "_law_far", "_law_thing", "_law_number_here"] Qu1:=by
 have S:zw ["_law_way", "_law_far", "_law_thing", "_law_number_here", "_law_chain", "_law_k"] ["_law_way", "_law_far", "_law_thing", "_law_number_here"] (ze (top 23)):=by walk_at "f"
 refine ub F S (F.binds λ_ _ _ _ _ _ us hl=>(by obtain ⟨_,_,_,_,rfl⟩:=Kz hl; rfl)) m λqZ A outer s H E ds φ hr hl hT=>?_
 have hu:=hr.units
 refine ⟨_,(zf (xm (xh hu (z9 0) zc) (zu (yg (wg (z9 2) (z9 1)))) yn)
   (zf (xm (xh hu (z9 0) zc) (zu (yg (Rz (rj T.tuple (z0 (wf (T:=["_law_k"]) (F:=["_law_number_here"]) (js:=[3]) (we T.range (z0 (z9 1) za)) (show y9 (ze (top 23)) _ ["_law_k"] ["_law_number_here"] from by walk_at "c") (.cons rfl .nil) (by decide) (λcl C fp s H=>(y3 (i:=0) (show ((["_law_k"]:List Str) ++ (["_law_number_here"]:List Str)).Nodup by decide +kernel) rfl (by walk_at "o"))) (yy (by decide)) (yp 0) (λcl C fp s H=>xy) (λcl C fp s H=>(z9 1))) za)) (z9 2)))) yn)
   (zf (xm (xh hu (z9 0) zc) (zu (yg (zm (z0 (z9 2) (z0 (z9 3) (z0 (z9 2) za)))))) yn)
   (zf (y0 4 S.nd v8)
   (zf (sr (we T.range (z0 (tm (z9 1) zc) za)) (y3 (i:=5) S.nd rfl (by walk_at "o")) (yp 5) (zu (y0 4 S.nd (zm (z0 v8 (z0 (z9 3) (z0 (z9 4) za)))))))
   (zu (yg (zm (z0 (z9 2) (z0 (z9 3) (z0 (z9 4) za))))))))))),?_⟩
 obtain ⟨w,far,num,th,sz,inn,ov,k,hF,hk20,hk,rfl,h⟩:=hT
 walk_at "h"
 
 ·refine qg (λψ hψ=>⟨zg ▸ trivial,zg ▸ trivial,hψ⟩) ?_
  have e:(D.int (t + k * far + far))=th0 t far (k + 1):=by
   unfold th0
   congr 1
   rw [Int.natCast_add,Int.add_mul]
   simp only [Int.natCast_one,Int.one_mul]
   omega
  have:=h .val (.inl rfl)
  rw [<- e] at this
  exact ⟨trivial,this⟩
 ·refine vt (λψ hψ=>⟨zg ▸ trivial,zg ▸ trivial,hψ⟩) ?_
  refine qg (λψ hψ=>⟨zg ▸ trivial,zg ▸ trivial,hψ⟩) ?_
  refine vk ?_
  refine (show Jm _ _ _ _ from ?_)
  refine Q7 (yw (rngD 0 fn) (λψ hψ=>⟨(show -(2 ^ 62) <= (fn:Int) by omega),(show (fn:Int) < 2 ^ 62 by omega),hψ⟩) (λ_=>some (.int num)) (by rw [wm]; omega) (λd hd=>?_) ?_)
  ·exact ⟨λ_=>⟨trivial,rfl⟩,λz=>(by cases z)⟩
  ·rw [rb,wm,<- List.map_replicate]
   refine ⟨ji _,ji _,?_,?_⟩
   ·rw [sizeLine_eq]
    simp only [zLm,List.length_replicate,Qi]
    have hk:l.length + k * fn <= 300:=hk
    omega
   ·have:=h .new (.inr rfl)
    unfold th1 at this
    rw [L1,zMa] at this
    exact ⟨trivial,this⟩
 ·refine vt (λψ hψ=>⟨zg ▸ trivial,zg ▸ trivial,hψ⟩) ?_
  refine vt (λψ hψ=>⟨zg ▸ trivial,zg ▸ trivial,hψ⟩) ?_
  refine qg (λψ hψ=>⟨zg ▸ trivial,zg ▸ trivial,hψ⟩) ?_
  exact ⟨rfl,rfl,⟨(T2 t num k).pure,trivial,(T2 t num k).pure,trivial⟩,h .val (.inl rfl)⟩
 ·refine vt (λψ hψ=>⟨zg ▸ trivial,zg ▸ trivial,hψ⟩) ?_
  refine vt (λψ hψ=>⟨zg ▸ trivial,zg ▸ trivial,hψ⟩) ?_
  refine vt (λψ hψ=>⟨zg ▸ trivial,zg ▸ trivial,hψ⟩) ?_
  refine xc ⟨trivial,?_⟩
  refine fc (ρ':=[zi (3:Nat),zi (fn:Nat),zd ((T3 t num fn k).d),zi num,zd ((chT num 0).d),none]) (by rfl) (uj ?_)
  refine vm (rngD 0 (fn - 1)) (λψ hψ=>⟨(show -(2 ^ 62) <= (fn:Int) - 1 by omega),(show (fn:Int) - 1 < 2 ^ 62 by omega),by rw [show ((fn:Int) - 1).toNat=fn - 1 by omega]; exact hψ⟩) (λi ρ=>∃ a,ρ=[zi (3:Nat),zi (fn:Nat),zd ((T3 t num fn k).d),zi num,zd ((chT num i).d),a]) ⟨none,rfl⟩ ?_ ?_
  ·rintro i d _ hd ⟨a,rfl⟩
   obtain ⟨hi,rfl⟩:=tw hd
   exact ⟨rfl,rfl,trivial,_,rfl⟩
  ·rintro _ ⟨a,rfl⟩
   rw [wm]
   exact ⟨rfl,rfl,⟨(T3 t num fn k).pure,trivial,(chT num (fn - 1)).pure,trivial⟩,h .val (.inl rfl)⟩
def Yi (T:Tops mg) (F:Fun K "_law_inner" "_law_inner" (top 24) f fd) (m:mg "_law_inner" = some (.ref f)):FD P w K mg base 1 "_law_inner" ["_law_way", "_law_far", "_law_size", "_law_at"] Nj:=by
 have S:zw ["_law_way", "_law_far", "_law_size", "_law_at"] ["_law_way", "_law_far", "_law_size", "_law_at"] (ze (top 24)):=by walk_at "f"
 refine ub F S (F.binds λ_ _ _ _ _ _ us hl=>(by obtain ⟨_,_,_,_,rfl⟩:=Kz hl; rfl)) m λqZ A outer s H E ds φ hr hl hT=>?_
 have hu:=hr.units
 refine ⟨_,(zf (xm (xh hu (z9 0) zc) (zu (yg (yu (z0 (zm (z0 (z9 3) (z0 zj za))) za)))) yn)
   (zf (xm (xh hu (z9 0) zc) (zu (yg (wf (T:=["_law_k"]) (F:=["_law_at"]) (js:=[3]) (we T.range (z0 (Jh T.min (z0 (z9 1) (z0 (tm zc (z9 2)) za))) za)) (show y9 (ze (top 24)) _ ["_law_k"] ["_law_at"] from by walk_at "c") (.cons rfl .nil) (by decide) (λcl C fp s H=>(y3 (i:=0) (show ((["_law_k"]:List Str) ++ (["_law_at"]:List Str)).Nodup by decide +kernel) rfl (by walk_at "o"))) (yy (by decide)) (yp 0) (λcl C fp s H=>xy) (λcl C fp s H=>(zm (z0 (z9 1) (z0 zj za))))))) yn)
   (zf (xm (xh hu (z9 0) zc) (zu (yg (wf (T:=["_law_k"]) (F:=["_law_at"]) (js:=[3]) (we T.range (z0 (tm (z9 1) (ju T.int (z0 (Rv (wg (z9 2) (z9 1)) zc) za))) za)) (show y9 (ze (top 24)) _ ["_law_k"] ["_law_at"] from by walk_at "c") (.cons rfl .nil) (by decide) (λcl C fp s H=>(y3 (i:=0) (show ((["_law_k"]:List Str) ++ (["_law_at"]:List Str)).Nodup by decide +kernel) rfl (by walk_at "o"))) (yy (by decide)) (yp 0) (λcl C fp s H=>xy) (λcl C fp s H=>(zm (z0 (z9 1) (z0 zj za))))))) yn)
   (zf (xm (Oq (wg (Yl zc (z9 2)) zc) zc) (zu (yg (yu za))) yn)
   (zu (yg (yu (z0 (zm (z0 (z9 3) (z0 zj za))) (z0 (zm (z0 (z9 3) (z0 zj za))) za))))))))),?_⟩
 obtain ⟨w,far,num,th,sz,inn,ov,k,a,hF,hk,rfl,h⟩:=hT
 walk_at "h"
 
 ·refine qg (λψ hψ=>⟨zg ▸ trivial,zg ▸ trivial,hψ⟩) ?_
  exact ⟨rfl,rfl,rfl,rfl,ui a ["sum"],h⟩
 ·refine vt (λψ hψ=>⟨zg ▸ trivial,zg ▸ trivial,hψ⟩) ?_
  refine qg (λψ hψ=>⟨zg ▸ trivial,zg ▸ trivial,hψ⟩) ?_
  refine vk ?_
  have hk:l.length + k * fn <= 100:=hk
  refine yw (rngD 0 (min fn (100 - (l.length + k * fn)))) (λψ hψ=>?_) (λ_=>some (stp a "make")) (by rw [wm]; omega) (λd hd=>?_) ?_
  ·have e:(if (100:Int) - ((l.length + k * fn:Nat):Int) < (fn:Int) then (100:Int) - ((l.length + k * fn:Nat):Int) else (fn:Int))=((min fn (100 - (l.length + k * fn)):Nat):Int):=by split <;> omega
   have e3:(if (100:Int) - ((l.length + k * fn:Nat):Int) < (fn:Int) then (100:Int) - ((l.length + k * fn:Nat):Int) else (fn:Int)).toNat=min fn (100 - (l.length + k * fn)):=by rw [e]; omega
   refine ⟨?_,?_,?_⟩
   ·show -(2 ^ 62) <= (if (100:Int) - ((l.length + k * fn:Nat):Int) < (fn:Int) then (100:Int) - ((l.length + k * fn:Nat):Int) else (fn:Int))
    omega
   ·show (if (100:Int) - ((l.length + k * fn:Nat):Int) < (fn:Int) then (100:Int) - ((l.length + k * fn:Nat):Int) else (fn:Int)) < 2 ^ 62
    omega
   ·show ψ (rngD 0 (if (100:Int) - ((l.length + k * fn:Nat):Int) < (fn:Int) then (100:Int) - ((l.length + k * fn:Nat):Int) else (fn:Int)).toNat)
    rw [e3]
    exact hψ
  ·exact ⟨λ_=>⟨rfl,rfl,trivial,rfl⟩,λz=>(by cases z)⟩
  ·rw [rb,wm,<- List.map_replicate]
   exact ⟨ui _ _,h⟩
 ·refine vt (λψ hψ=>⟨zg ▸ trivial,zg ▸ trivial,hψ⟩) ?_
  refine vt (λψ hψ=>⟨zg ▸ trivial,zg ▸ trivial,hψ⟩) ?_
  refine vt (λψ hψ=>⟨zg ▸ trivial,zg ▸ trivial,hψ⟩) ?_
  have hk:(T2 t num k).nodes <= 100:=hk
  refine uj (vg (decide (100 < 2 * (T2 t num k).nodes + 1)) (λψ hψ=>⟨IntMulOk.of_left (by decide),?_⟩) (λz=>?_) (λz=>qf ?_))
  ·have e:decide ((2:Int) * ((T2 t num k).nodes:Nat) + 1 > 100)=decide (100 < 2 * (T2 t num k).nodes + 1):=decide_eq_decide.mpr (by omega)
   show ψ (decide ((2:Int) * ((T2 t num k).nodes:Nat) + 1 > 100))
   rw [e]
   exact hψ
  ·have z:=of_decide_eq_true z
   unfold in2 at h
   rw [if_pos z] at h
   exact ⟨rfl,rfl,trivial,h⟩
  ·have z:=of_decide_eq_false z
   unfold in2 at h
   rw [if_neg z] at h
   exact ⟨rfl,rfl,rfl,rfl,rfl,rfl,ui a ["make", "let"],h⟩
 ·refine vt (λψ hψ=>⟨zg ▸ trivial,zg ▸ trivial,hψ⟩) ?_
  refine vt (λψ hψ=>⟨zg ▸ trivial,zg ▸ trivial,hψ⟩) ?_
  refine qg (λψ hψ=>⟨zg ▸ trivial,zg ▸ trivial,hψ⟩) ?_
  refine vk ?_
  have hk:t.nodes + k * fn <= 100:=hk
  refine yw (rngD 0 (fn - (if 100 < t.nodes + k * fn + fn then 1 else 0))) (λψ hψ=>?_) (λ_=>some (stp a "make")) (by rw [wm]; omega) (λd hd=>?_) ?_
  ·have e:decide (((t.nodes + k * fn:Nat):Int) + (fn:Int) > 100)=decide (100 < t.nodes + k * fn + fn):=decide_eq_decide.mpr (by omega)
   have e3:((fn:Int) - (if decide (((t.nodes + k * fn:Nat):Int) + (fn:Int) > 100) then (1:Int) else 0)).toNat=fn - (if 100 < t.nodes + k * fn + fn then 1 else 0):=by
    rw [e]
    by_cases z:100 < t.nodes + k * fn + fn
    ·simp [z]
    ·simp [z]
   refine ⟨?_,?_,?_⟩
   ·show -(2 ^ 62) <= (fn:Int) - (if decide (((t.nodes + k * fn:Nat):Int) + (fn:Int) > 100) then (1:Int) else 0)
    split <;> omega
   ·show (fn:Int) - (if decide (((t.nodes + k * fn:Nat):Int) + (fn:Int) > 100) then (1:Int) else 0) < 2 ^ 62
    split <;> omega
   ·show ψ (rngD 0 ((fn:Int) - (if decide (((t.nodes + k * fn:Nat):Int) + (fn:Int) > 100) then (1:Int) else 0)).toNat)
    rw [e3]
    exact hψ
  ·exact ⟨λ_=>⟨rfl,rfl,trivial,rfl⟩,λz=>(by cases z)⟩
  ·rw [rb,wm,<- List.map_replicate]
   exact ⟨ui _ _,h⟩
def Xz (T:Tops mg) (F:Fun K "_law_over" "_law_over" (top 25) f fd) (m:mg "_law_over" = some (.ref f)):FD P w K mg base 1 "_law_over" ["_law_way", "_law_far", "_law_size"] La1:=by
 have S:zw ["_law_way", "_law_far", "_law_size"] ["_law_way", "_law_far", "_law_size"] (ze (top 25)):=by walk_at "f"
 refine ub F S (F.binds λ_ _ _ _ _ _ us hl=>(by obtain ⟨_,_,_,rfl⟩:=gd hl; rfl)) m λqZ A outer s H E ds φ hr hl hT=>?_
 have hu:=hr.units
 refine ⟨_,(zu (yg (Et (Ym (Dv hu (z9 0) (zm (z0 zc (z0 zc za)))) (jr (Rv (wg (z9 2) (z9 1)) zc))) (jr (Ym (Ow hu (z9 0) zc) (jr (Rv (wg (Yl zc (z9 2)) zc) zc))))))),?_⟩
 obtain ⟨w,far,num,th,sz,inn,ov,k,hF,hk,rfl,h⟩:=hT
 walk_at "h"
 ·exact vk (Ut false (λψ hψ=>qy false (λψ h'=>⟨rfl,rfl,rfl,rfl,h'⟩) (λz=>(by cases z)) (λ_=>hψ)) (λz=>(by cases z)) (λ_=>qy false (λψ h'=>⟨zg ▸ trivial,zg ▸ trivial,h'⟩) (λz=>(by cases z)) (λ_=>⟨trivial,h⟩)))
 ·have e:decide (((l.length + k * fn:Nat):Int) + (fn:Int) > 100)=ov1 l.length fn k:=decide_eq_decide.mpr (by omega)
  refine vk (Ut (ov1 l.length fn k) (λψ hψ=>qy true (λψ h'=>⟨rfl,rfl,rfl,rfl,h'⟩) (λ_=>?_) (λz=>(by cases z))) (λz=>?_) (λz=>qy false (λψ h'=>⟨zg ▸ trivial,zg ▸ trivial,h'⟩) (λz=>(by cases z)) (λ_=>?_)))
  ·show ψ (dv (.bl (decide (((l.length + k * fn:Nat):Int) + (fn:Int) > 100))))
   rw [e]
   exact hψ
  ·rw [z] at h
   exact ⟨trivial,h⟩
  ·rw [z] at h
   exact ⟨trivial,h⟩
 ·have e:decide ((2:Int) * ((T2 t num k).nodes:Nat) + 1 > 100)=ov2 t num k:=decide_eq_decide.mpr (by omega)
  refine vk (Ut false (λψ hψ=>qy false (λψ h'=>⟨rfl,rfl,rfl,rfl,h'⟩) (λz=>(by cases z)) (λ_=>hψ)) (λz=>(by cases z)) (λ_=>qy true (λψ h'=>⟨zg ▸ trivial,zg ▸ trivial,h'⟩) (λ_=>⟨IntMulOk.of_left (by decide),trivial,?_⟩) (λz=>(by cases z))))
  show φ (dv (.bl (decide ((2:Int) * ((T2 t num k).nodes:Nat) + 1 > 100))))
  rw [e]
  exact h
 ·have e:decide (((t.nodes + k * fn:Nat):Int) + (fn:Int) > 100)=ov1 t.nodes fn k:=decide_eq_decide.mpr (by omega)
  refine vk (Ut (ov1 t.nodes fn k) (λψ hψ=>qy true (λψ h'=>⟨rfl,rfl,rfl,rfl,h'⟩) (λ_=>?_) (λz=>(by cases z))) (λz=>?_) (λz=>qy false (λψ h'=>⟨zg ▸ trivial,zg ▸ trivial,h'⟩) (λz=>(by cases z)) (λ_=>?_)))
  ·show ψ (dv (.bl (decide (((t.nodes + k * fn:Nat):Int) + (fn:Int) > 100))))
   rw [e]
   exact hψ
  ·rw [z] at h
   exact ⟨trivial,h⟩
  ·rw [z] at h
   exact ⟨trivial,h⟩
variable {w:Nat} {sz:Nat->Nat} {f:Str}
def bv (hF:ug w far num th sz inn ov) (k:Nat):zk (th k):=by
 walk_at "h"
 ·trivial
 ·exact ji _
 ·exact (T2 t num k).pure
 ·exact (T3 t num fn k).pure
def Ej (hF:ug w far num th sz inn ov) {k:Nat} (ho:ov k=false) (hk:sz k <= 100):sz (k + 1) <= 100:=by
 walk_at "h"
 ·exact Nat.zero_le _
 ·have:=of_decide_eq_false ho
  show l.length + (k + 1) * fn <= 100
  rw [Nat.add_mul]
  omega
 ·have:=of_decide_eq_false ho
  show 1 + (T2 t num k).nodes + (T2 t num k).nodes <= 100
  omega
 ·have:=of_decide_eq_false ho
  show t.nodes + (k + 1) * fn <= 100
  rw [Nat.add_mul]
  omega
def cP (f:Str) (num:Int) (th:Nat->D) (i:Nat):List D:=(List.range i).map (rowK f num th)
def sP (inn:Nat->List Str) (i:Nat):List D:=(List.range i).flatMap λ(k:Nat)=>stp k "call" :: inS inn k
def W9 (i:Nat):cP f num th (i + 1)=cP f num th i ++ [rowK f num th i]:=by unfold cP; rw [List.range_succ,zMa]; rfl
def c6 (i:Nat):sP inn (i + 1)=sP inn i ++ (stp i "call" :: inS inn i):=by unfold sP; rw [List.range_succ,List.flatMap_append]; simp
def Jk:∀ i,i <= 20->(∀ j,j < i->ov j=false)->dueC f num th ov 20 0=cP f num th i ++ dueC f num th ov (20 - i) i
 | 0,_,_=>rfl
 | i + 1,hi,ho=>by
  rw [Jk i (by omega) λj hj=>ho j (by omega),show 20 - i=(20 - (i + 1)) + 1 by omega,dueC,ho i (by omega),W9]
  simp
def Jj:∀ i,i <= 20->(∀ j,j < i->ov j=false)->dueS inn ov 20 0=sP inn i ++ dueS inn ov (20 - i) i
 | 0,_,_=>rfl
 | i + 1,hi,ho=>by
  rw [Jj i (by omega) λj hj=>ho j (by omega),show 20 - i=(20 - (i + 1)) + 1 by omega,dueS,ho i (by omega),c6]
  simp
def Qd (hF:ug w far num th sz inn ov) (i:Nat):zn (cP f num th i):=yf.mpr λd hd=>by
 obtain ⟨k,_,rfl⟩:=zah.mp hd
 refine ⟨trivial,⟨bv hF k,trivial,trivial⟩,?_,trivial,trivial,trivial⟩
 cases k <;> trivial
def Tb (i:Nat):zn (sP inn i):=yf.mpr λd hd=>by
 obtain ⟨k,_,hd⟩:=List.mem_flatMap.mp hd
 rcases zam.mp hd with rfl | hd
 ·exact ⟨trivial,trivial,trivial⟩
 ·exact yf.mp (ui _ _) d hd
def Vf (hF:ug w far num th sz inn ov) (k:Nat):(inn k).length <= 5:=by
 walk_at "h"
 ·simp [in0]
 ·simp [in1]; omega
 ·unfold in2; split <;> simp
 ·simp [in3]; omega
def Nr (hF:ug w far num th sz inn ov):∀ i,(sP inn i).length <= 6 * i
 | 0=>zaj _
 | i + 1=>by
  have h1:=Nr hF i
  have h2:=Vf hF i
  rw [c6]
  simp [inS]
  omega
variable {w:World} {f:Addr}
def tDue:FT:=λds φ=>∃ w far num th sz inn ov f,ug w far num th sz inn ov /\ sz 0 <= 100 /\ ds=[.int w,.int far,.str f,th 0,.int num,.int (sz 0:Nat)] /\ φ ⟨.new,.tup [.lst (dueC f num th ov 20 0),.lst (dueS inn ov 20 0)]⟩
def Uk (T:Tops mg) (Bd:FD P w K mg base 1 "_law_inner" ["_law_way", "_law_far", "_law_size", "_law_at"] Nj) (Bj:FD P w K mg base 1 "_law_over" ["_law_way", "_law_far", "_law_size"] La1) (Bk:FD P w K mg base 1 "_law_next" ["_law_way", "_law_far", "_law_thing", "_law_number_here"] Qu1) (F:Fun K "_law_due" "_law_due" (top 26) f fd) (m:mg "_law_due" = some (.ref f)):FD P w K mg base 2 "_law_due" ["_law_way", "_law_far", "_law_name", "_law_thing", "_law_number_here", "_law_size"] tDue:=by
 have S:zw ["_law_way", "_law_far", "_law_name", "_law_thing", "_law_number_here", "_law_size", "_law_calls", "_law_steps", "_law_k"] ["_law_way", "_law_far", "_law_name", "_law_thing", "_law_number_here", "_law_size"] (ze (top 26)):=by walk_at "f"
 refine ub F S (F.binds λ_ _ _ _ _ _ us hl=>(by obtain ⟨_,_,_,_,_,_,rfl⟩:=Dm hl; rfl)) m λqZ A outer s H E ds φ hr hl hT=>?_
 have hu:=hr.units
 refine ⟨_,(zf (y0 6 S.nd (yu za))
   (zf (y0 7 S.nd (yu za))
   (zf (sr (we T.range (z0 zc za)) (y3 (i:=8) S.nd rfl (by walk_at "o")) (yp 8) (zf (j3 6 (zm (z0 (z9 2) (z0 (zm (z0 (z9 3) (z0 (z9 4) za))) (z0 (zh hu (yu (z0 v8 (z0 (tm (z9 8) zc) za))) (ju T.int (z0 (Rv (z9 8) zc) za))) (z0 wy (z0 v8 za)))))))
    (zf (j3 7 (zm (z0 (z9 8) (z0 zj za))))
    (zf (y0 7 S.nd (wg (z9 7) (ya Bd (hr.mono (by decide)) (z0 (z9 0) (z0 (z9 1) (z0 (z9 5) (z0 (z9 8) za)))))))
    (zf (xm (xj (ya Bj (hr.mono (by decide)) (z0 (z9 0) (z0 (z9 1) (z0 (z9 5) za))))) (zu (T9 (z0 (z9 6) (z0 (z9 7) za)))) yn)
    (zf (y0 3 S.nd (ya Bk (hr.mono (by decide)) (z0 (z9 0) (z0 (z9 1) (z0 (z9 3) (z0 (z9 4) za))))))
    (zu (y0 5 S.nd (zh hu (yu (z0 zc (z0 (wg (z9 5) (z9 1)) (z0 (wg (Yl zc (z9 5)) zc) (z0 (wg (z9 5) (z9 1)) za))))) (z9 0))))))))))
   (zu (T9 (z0 (z9 6) (z0 (z9 7) za))))))),?_⟩
 obtain ⟨w,far,num,th,sz,inn,ov,f0,hF,hs,rfl,h⟩:=hT
 refine xc ⟨rfl,rfl,trivial,?_⟩
 refine xc ⟨rfl,rfl,trivial,?_⟩
 refine fc (ρ':=[zi w,zi far,zs f0,zd (th (0)),zi num,zi (sz (0):Nat),zo (cP f0 num th 0),zo (sP inn 0),none]) (by rfl) (uj ?_)
 refine vm (rngD 0 20) (λψ hψ=>⟨(show (-(2 ^ 62):Int) <= 20 by decide),(show (20:Int) < 2 ^ 62 by decide),hψ⟩) (λi ρ=>(∀ j,j < i->ov j=false) /\ sz i <= 100 /\ ∃ a,ρ=[zi w,zi far,zs f0,zd (th (i)),zi num,zi (sz (i):Nat),zo (cP f0 num th i),zo (sP inn i),a]) ⟨(λj hj=>absurd hj (Nat.not_lt_zero j)),hs,none,rfl⟩ ?_ ?_
 ·rintro i d _ hd ⟨ho,hk,a,rfl⟩
  obtain ⟨hi,rfl⟩:=tw hd
  rw [Int.zero_add]
  refine jl ?_
  refine (show sSeq _ _ [zi w,zi far,zs f0,zd (th (i)),zi num,zi (sz (i):Nat),zo (cP f0 num th i),zo (sP inn i),zi (i:Nat)] _ from ?_)
  have lc:(cP f0 num th i).length=i:=by unfold cP; simp
  have ls:=Nr hF i
  refine uj (Te (ds:=cP f0 num th i) rfl ?_)
  have eu:∀ ψ:EV->Prop,ψ (dv (upK i))->d2 sIxx (dLst (uu (dC .non) (uu (d2 sSub (ut 8) (dC (.int 1))) aNil))) (dCB sIntC (uu (d2 sGt (ut 8) (dC (.int 0))) aNil)) [zi w,zi far,zs f0,zd (th (i)),zi num,zi (sz (i):Nat),zo (cP f0 num th i),zo (sP inn i),zi (i:Nat)] ψ:=λψ hψ=>by
   refine ⟨rfl,rfl,?_⟩
   cases i with
   | zero=>exact hψ
   | succ j =>
    show sIxx (.lst [.non,.int (((j + 1:Nat):Int) - 1)]) (.int (if decide (((j + 1:Nat):Int) > 0) then 1 else 0)) ψ
    rw [show decide (((j + 1:Nat):Int) > 0)=true from decide_eq_true (by omega)]
    have e:(D.int (((j + 1:Nat):Int) - 1))=upK (j + 1):=by
     show D.int (((j + 1:Nat):Int) - 1)=D.int (j:Nat)
     rw [show ((j + 1:Nat):Int) - 1=(j:Nat) by omega]
    rw [e]
    exact hψ
  refine ⟨rfl,rfl,?_⟩
  refine (show d2 sIxx _ _ _ _ from eu _ ?_)
  refine ⟨rfl,rfl,trivial,by omega,?_⟩
  dsimp only
  refine fc (ρ':=[zi w,zi far,zs f0,zd (th (i)),zi num,zi (sz (i):Nat),zo (cP f0 num th i ++ [rowK f0 num th i]),zo (sP inn i),zi (i:Nat)]) (by rfl) ?_
  rw [<- W9]
  refine uj (Te (ds:=sP inn i) rfl ⟨rfl,rfl,trivial,by omega,?_⟩)
  dsimp only
  refine fc (ρ':=[zi w,zi far,zs f0,zd (th (i)),zi num,zi (sz (i):Nat),zo (cP f0 num th (i + 1)),zo (sP inn i ++ [stp i "call"]),zi (i:Nat)]) (by rfl) ?_
  have hin:=Vf hF i
  refine xc (kg (dO (.lst (sP inn i ++ [stp i "call"]))) (df (.lst ((inn i).map (stp i)))) (λψ hψ=>hψ) (λψ hψ=>⟨rfl,w,far,num,th,sz,inn,ov,i,i,hF,hk,rfl,hψ⟩) ?_)
  refine (show (sP inn i ++ [stp i "call"]).length + ((inn i).map (stp i)).length <= sizeLine /\ _ from ⟨?_,trivial,?_⟩)
  ·rw [sizeLine_eq]
   simp
   omega
  have e2:sP inn i ++ [stp i "call"] ++ (inn i).map (stp i)=sP inn (i + 1):=by rw [c6]; simp [inS]
  refine fc (ρ':=[zi w,zi far,zs f0,zd (th (i)),zi num,zi (sz (i):Nat),zo (cP f0 num th (i + 1)),zo (sP inn (i + 1)),zi (i:Nat)]) (by rw [<- e2]; rfl) ?_
  refine uj (vg (ov i) (λψ hψ=>⟨rfl,w,far,num,th,sz,inn,ov,i,hF,hk,rfl,hψ⟩) (λz=>?_) (λz=>qf ?_))
  ·have d1:=Jk (f:=f0) (num:=num) (th:=th) i (by omega) ho
   have d2:=Jj (inn:=inn) i (by omega) ho
   rw [show 20 - i=(19 - i) + 1 by omega] at d1 d2
   have q1:dueC f0 num th ov (19 - i + 1) i=[rowK f0 num th i]:=by simp [dueC,z]
   have q2:dueS inn ov (19 - i + 1) i=stp i "call" :: inS inn i:=by simp [dueS,z]
   rw [q1,<- W9] at d1
   rw [q2,<- c6] at d2
   rw [d1,d2] at h
   exact ⟨⟨Qd hF _,Tb _,trivial⟩,rfl,trivial,h⟩
  have ho2:∀ j,j < i + 1->ov j=false:=λj hj=>by
   by_cases e:j=i
   ·rw [e]; exact z
   ·exact ho j (by omega)
  have hk2:=Ej hF z hk
  dsimp only
  refine xc ⟨rfl,w,far,num,th,sz,inn,ov,i,hF,by omega,by omega,rfl,λkd hkd=>?_⟩
  have go:sSet 5 (d2 sIxx (dLst (uu (dC (.int 0)) (uu (d2 sAdd (ut 5) (ut 1)) (uu (d2 sAdd (d2 sMul (dC (.int 2)) (ut 5)) (dC (.int 1))) (uu (d2 sAdd (ut 5) (ut 1)) aNil))))) (ut 0)) [zi w,zi far,zs f0,zd (th (i + 1)),zi num,zi (sz (i):Nat),zo (cP f0 num th (i + 1)),zo (sP inn (i + 1)),zi (i:Nat)] { nx:=λρ=>(∀ j,j < i + 1->ov j=false) /\ sz (i + 1) <= 100 /\ ∃ a,ρ=[zi w,zi far,zs f0,zd (th (i + 1)),zi num,zi (sz (i + 1):Nat),zo (cP f0 num th (i + 1)),zo (sP inn (i + 1)),a],rt:=λr=>uc r /\ φ r,bk:=λ_=>False,ct:=λ_=>False }:=by
   clear h
   walk_at "h"
   ·exact ⟨IntMulOk.of_left (by decide),rfl,rfl,trivial,ho2,hk2,_,rfl⟩
   ·refine ⟨IntMulOk.of_left (by decide),rfl,rfl,trivial,ho2,hk2,zi (i:Nat),?_⟩
    have e:((l.length + i * fn:Nat):Int) + (fn:Int)=((l.length + (i + 1) * fn:Nat):Int):=by rw [Nat.add_mul]; omega
    show setS _ 5 (dv (.int (((l.length + i * fn:Nat):Int) + (fn:Int))))=_
    rw [e]
    rfl
   ·refine ⟨IntMulOk.of_left (by decide),rfl,rfl,trivial,ho2,hk2,zi (i:Nat),?_⟩
    have e:(2:Int) * ((T2 t num i).nodes:Nat) + 1=((T2 t num (i + 1)).nodes:Nat):=by
     show _=((1 + (T2 t num i).nodes + (T2 t num i).nodes:Nat):Int)
     omega
    show setS _ 5 (dv (.int ((2:Int) * ((T2 t num i).nodes:Nat) + 1)))=_
    rw [e]
    rfl
   ·refine ⟨IntMulOk.of_left (by decide),rfl,rfl,trivial,ho2,hk2,zi (i:Nat),?_⟩
    have e:((t.nodes + i * fn:Nat):Int) + (fn:Int)=((t.nodes + (i + 1) * fn:Nat):Int):=by rw [Nat.add_mul]; omega
    show setS _ 5 (dv (.int (((t.nodes + i * fn:Nat):Int) + (fn:Int))))=_
    rw [e]
    rfl
  rcases hkd with rfl | rfl
  ·exact ⟨trivial,go⟩
  ·exact ⟨trivial,go⟩
 ·rintro _ ⟨ho,hk,a,rfl⟩
  rw [wm] at ho ⊢
  have d1:=Jk (f:=f0) (num:=num) (th:=th) 20 (by omega) ho
  have d2:=Jj (inn:=inn) 20 (by omega) ho
  rw [show dueC f0 num th ov (20 - 20) 20=[] from rfl,List.append_nil] at d1
  rw [show dueS inn ov (20 - 20) 20=[] from rfl,List.append_nil] at d2
  rw [d1,d2] at h
  exact ⟨⟨Qd hF _,Tb _,trivial⟩,rfl,trivial,h⟩
def Fl:∀ {n:Nat} {d:D},okD n d->okD (n + 1) d:=λ{n}=>by
 induction n with
 | zero=>intro d h; cases d <;> first | exact h.elim | trivial
 | succ n ih =>
  intro d h
  cases d with
  | tup ds=>exact λx hx=>ih (h x hx)
  | lst ds=>exact λx hx=>ih (h x hx)
  | _=>exact h
def M7 {n m:Nat} {d:D} (h:okD n d) (hm:n <= m):okD m d:=by
 induction m with
 | zero=>rw [show n=0 by omega] at h; exact h
 | succ m ih =>
  by_cases z:n=m + 1
  ·rw [<- z]; exact h
  ·exact Fl (ih (by omega))
def Td {i:Nat} {t:TDS} {ρ:DE} {Z:DZ} (h:t (frzS ρ i) Z):sFrz i t ρ Z:=h
def Tc {x:D} {ψ:Bool->Prop} (h1:okD 150 x) (h:ψ false):sNeH x x λr=>match r.d with | .bl b=>ψ b | _=>False:=⟨h1,h1,by show ψ (!eqD x x); rw [t6 150 x h1]; exact h⟩
variable {w:Nat} {f:Str}
def Mx (t:Tr) (num:Int):∀ k,(T2 t num k).dep <= t.dep + k
 | 0=>zaj _
 | k + 1=>by
  have:=Mx t num k
  show 1 + max (T2 t num k).dep (T2 t num k).dep <= _
  omega
def Qa (num:Int):∀ j,(chT num j).dep <= j
 | 0=>zaj _
 | j + 1=>by
  have:=Qa num j
  show 1 + max 0 (chT num j).dep <= _
  omega
def Mw (t:Tr) (num:Int) {fn:Nat} (h:fn <= 4):∀ k,(T3 t num fn k).dep <= t.dep + 5 + k
 | 0=>by show t.dep <= _; omega
 | k + 1=>by
  have h1:=Mw t num h k
  have h2:=Qa num (fn - 1)
  show 1 + max (T3 t num fn k).dep (chT num (fn - 1)).dep <= _
  omega
def Mj (hF:ug w far num th sz inn ov) {k:Nat} (hk:k <= 20):okD 100 (th k):=by
 walk_at "h"
 ·trivial
 ·unfold th1
  rw [vo (by decide)]
  intro d hd
  obtain ⟨i,_,rfl⟩:=zah.mp hd
  trivial
 ·have:=Mx t num k
  exact (T2 t num k).ok 99 (by omega)
 ·have:=Mw t num hf4 k
  exact (T3 t num fn k).ok 99 (by omega)
def Uw (t:Tr):isT t.d "bool" = some false:=by cases t <;> rfl
def Oo (hF:ug w far num th sz inn ov) (k:Nat):isT (th k) "bool" = some false:=by
 walk_at "h"
 ·rfl
 ·rfl
 ·exact Uw _
 ·exact Uw _
def Qp (k:Nat):isT (upK k) "bool" = some false:=by cases k <;> rfl
def Vn:∀ (m k:Nat) {d:D},d ∈ dueC f num th ov m k->∃ j,j < k + m /\ d=rowK f num th j
 | 0,_,_,h=>nomatch h
 | m + 1,k,d,h=>by
  rw [dueC] at h
  rcases zam.mp h with rfl | h
  ·exact ⟨k,by omega,rfl⟩
  ·split at h
   ·cases h
   ·obtain ⟨j,hj,e⟩:=Vn m (k + 1) h
    exact ⟨j,by omega,e⟩
def Vm:∀ (m k:Nat) {d:D},d ∈ dueS inn ov m k->∃ (j:Int) (s:Str),d=stp j s
 | 0,_,_,h=>nomatch h
 | m + 1,k,d,h=>by
  rw [dueS] at h
  rcases zas.mp h with h | h
  ·rcases zam.mp h with rfl | h
   ·exact ⟨_,_,rfl⟩
   ·obtain ⟨z,_,rfl⟩:=zah.mp h
    exact ⟨_,_,rfl⟩
  ·split at h
   ·cases h
   ·exact Vm m (k + 1) h
def Z0:∀ (m k:Nat),(dueC f num th ov m k).length <= m
 | 0,_=>zaj _
 | m + 1,k=>by
  have:=Z0 m (k + 1)
  rw [dueC,zLc]
  split
  ·simp
  ·omega
def bz (hF:ug w far num th sz inn ov):∀ (m k:Nat),(dueS inn ov m k).length <= 6 * m
 | 0,_=>zaj _
 | m + 1,k=>by
  have h1:=bz hF m (k + 1)
  have h2:=Vf hF k
  rw [dueS,zLa,zLc,inS,zLm]
  split
  ·simp; omega
  ·omega
def Fj (hF:ug w far num th sz inn ov) {k:Nat} (hk:k <= 20):okD 149 (rowK f num th k):=by
 unfold rowK
 rw [vo (by decide)]
 intro d hd
 simp only [zam,List.not_mem_nil,or_false] at hd
 rcases hd with rfl | rfl | rfl | rfl | rfl
 ·trivial
 ·rw [vo (by decide)]
  intro d hd
  simp only [zam,List.not_mem_nil,or_false] at hd
  rcases hd with rfl | rfl
  ·exact M7 (Mj hF hk) (by omega)
  ·trivial
 ·cases k <;> trivial
 ·trivial
 ·trivial
def Si {l:List D} (h:∀ d ∈ l,∃ (j:Int) (s:Str),d=stp j s):okD 40 (.lst l):=by
 rw [tz (by decide)]
 intro d hd
 obtain ⟨j,s,rfl⟩:=h d hd
 exact (show okD 39 (.tup [.int j,.str s]) from by rw [vo (by decide)]; intro d hd; simp only [zam,List.not_mem_nil,or_false] at hd; rcases hd with rfl | rfl <;> trivial)
def sf {α:Type} (p:α->Bool):∀ l:List α,l.filterMap (λd=>if p d then some d else none)=l.filter p
 | []=>rfl
 | a :: l=>by
  rw [List.filterMap_cons,List.filter_cons,sf p l]
  cases p a <;> rfl
def fdW (C0 D0:List D) (most:Int):D:=.tup [.bl false,.non,.lst (C0.take (xx (D0.take most.toNat))),.lst (D0.take most.toNat)]
variable {w:World} {f:Addr}
def Nf:FT:=λds φ=>∃ w far num th sz inn ov f,∃ most:Int,ug w far num th sz inn ov /\ 0 <= most /\ ds=[fdW (dueC f num th ov 20 0) (dueS inn ov 20 0) most,.tup [.lst (dueC f num th ov 20 0),.lst (dueS inn ov 20 0)],.int most] /\ φ (dv (.bl true))
def Uy {t:TD} {ρ:DE} {ψ:Bool->Prop} (d:D) (b:Bool) (h:∀ φ:EV->Prop,φ (dv d)->t ρ φ) (e:truD d=some b) (k:ψ b):tTru t ρ ψ:=h _ (by show match truD d with | some b=>ψ b | none=>False; rw [e]; exact k)
def Md {d:D} {T:String} {b:Bool} {ta tb:TD} {ρ:DE} {φ:EV->Prop} (h1:∀ φ:EV->Prop,φ (dv d)->ta ρ φ) (h2:∀ φ:EV->Prop,φ (dv (.ty T))->tb ρ φ) (e:isT d T=some b) (h:φ (dv (.bl b))):dCB sIsI (uu ta (uu tb aNil)) ρ φ:=h1 _ (h2 _ (by show sIsI [d,.ty T] φ; unfold sIsI; dsimp only; rw [e]; exact h))
def Yg (T:Tops mg) (F:Fun K "_law_whole" "_law_whole" (top 27) f fd) (m:mg "_law_whole" = some (.ref f)):FD P w K mg base 1 "_law_whole" ["_law_found"] T5:=by
 have S:zw ["_law_found"] ["_law_found"] (ze (top 27)):=by walk_at "f"
 refine ub F S (F.binds λ_ _ _ _ _ _ us hl=>(by obtain ⟨_,rfl⟩:=cr hl; rfl)) m λqZ A outer s H E ds φ hr hl hT=>?_
 have hu:=hr.units
 refine ⟨_,(zu (yg (Ym (ym T.isinstance (z0 (z9 0) (z0 (uq T.int jy) za))) (jr (Ru (ym T.isinstance (z0 (z9 0) (z0 (uq T.bool u7) za)))))))),?_⟩
 obtain ⟨n,rfl,h⟩:=hT
 walk_at "dl"
 exact h
def Xy (T:Tops mg) (Cm:FD P w K mg base 1 "_law_whole" ["_law_found"] T5) (F:Fun K "_law_told" "_law_told" (top 28) f fd) (m:mg "_law_told" = some (.ref f)):FD P w K mg base 2 "_law_told" ["_law_found", "_law_due_here", "_law_most"] Nf:=by
 have S:zw ["_law_found", "_law_due_here", "_law_most", "_law_calls", "_law_steps", "_law_begun", "_law_row", "_law_step"] ["_law_found", "_law_due_here", "_law_most"] (ze (top 28)):=by walk_at "f"
 refine ub F S (F.binds λ_ _ _ _ _ _ us hl=>(by obtain ⟨_,_,_,rfl⟩:=gd hl; rfl)) m λqZ A outer s H E ds φ hr hl hT=>?_
 have hu:=hr.units
 refine ⟨_,(zf (yd (xm (EW.et (u1 (v6 (xj (ym T.isinstance (z0 (z9 0) (z0 (uq T.tuple xt) za))))) (u1 (jq hu (wj T.len (z0 (z9 0) za)) zc) (u1 (Yj (zh hu (z9 0) zc) wy) (t9 (Vg (zh hu (z9 0) zc) v8)))))) (zu (yg wy)) yn))
   (zf (yd (Lj (z9 1) (cf (K0:=K) (n:=2) (by rfl) (by rfl) (x4 (y3 (i:=3) S.nd rfl (by walk_at "o")) (x4 (y3 (i:=4) S.nd rfl (by walk_at "o")) ql))) (bh 3 4)))
   (zf (yd (y0 4 S.nd (x5 (z9 4) wx (x8 (z9 2)))))
   (zf (yd (Wm 4 (y0 5 S.nd (wj T.len (z0 (wf (T:=["_law_step"]) (F:=[]) (js:=[]) (v7 (z9 4)) (show y9 (ze (top 28)) _ ["_law_step"] [] from by walk_at "c") .nil (by decide) (λcl C fp s H=>(y3 (i:=0) (show ((["_law_step"]:List Str) ++ ([]:List Str)).Nodup by decide +kernel) rfl (by walk_at "o"))) (yy (by decide)) (yp 0) (λcl C fp s H=>(Rr (xh hu (zh hu (z9 0) zc) zj))) (λcl C fp s H=>(z9 0))) za)))))
   (zf (yd (xm (EW.et (u1 (v6 (xj (ym T.isinstance (z0 (zh hu (z9 0) zc) (z0 (uq T.list t8) za))))) (u1 (v6 (xj (ym T.isinstance (z0 (zh hu (z9 0) zc) (z0 (uq T.list t8) za))))) (t9 (Mo (Room.far hr) (zh hu (z9 0) zc) (x5 (z9 3) wx (x8 (z9 5)))))))) (zu (yg wy)) yn))
   (zf (yd (sr (v7 (zh hu (z9 0) zc)) (y3 (i:=6) S.nd rfl (by walk_at "o")) (yp 6) (zf (xm (EW.et (u1 (v6 (xj (ym T.isinstance (z0 (z9 6) (z0 (uq T.tuple xt) za))))) (u1 (Yj (zh hu (z9 6) zc) wy) (t9 (xj (ym T.isinstance (z0 (zh hu (z9 6) zc) (z0 (uq T.bool u7) za)))))))) (zu (yg wy)) yn)
    (zu (xm (EW.et (u1 (v6 (xj (ym T.isinstance (z0 (zh hu (z9 6) zc) (z0 (uq T.tuple xt) za))))) (u1 (v6 (xj (ya Cm (hr.mono (by decide)) (z0 (zh hu (zh hu (z9 6) zc) zc) za)))) (t9 (xj (ym T.isinstance (z0 (zh hu (zh hu (z9 6) zc) zc) (z0 (uq T.bool u7) za)))))))) (zu (yg wy)) yn)))))
   (zf (yd (sr (v7 (zh hu (z9 0) zc)) (y3 (i:=7) S.nd rfl (by walk_at "o")) (yp 7) (zu (xm (EW.et (u1 (v6 (xj (ym T.isinstance (z0 (z9 7) (z0 (uq T.tuple xt) za))))) (u1 (jq hu (wj T.len (z0 (z9 7) za)) zc) (t9 (v6 (xj (ya Cm (hr.mono (by decide)) (z0 (zh hu (z9 7) zc) za)))))))) (zu (yg wy)) yn))))
   (zu (yg (Ow hu (zh hu (z9 0) zc) (z9 4))))))))))),?_⟩
 obtain ⟨w,far,num,th,sz,inn,ov,f0,most,hF,h0,rfl,h⟩:=hT
 have hcm:∀ d ∈ dueC f0 num th ov 20 0,∃ j,j <= 20 /\ d=rowK f0 num th j:=λd hd=>by
  obtain ⟨j,hj,e⟩:=Vn 20 0 hd
  exact ⟨j,by omega,e⟩
 have hsm:∀ d ∈ dueS inn ov 20 0,∃ (j:Int) (s:Str),d=stp j s:=λd hd=>Vm 20 0 hd
 have hcl:=Z0 (f:=f0) (num:=num) (th:=th) (ov:=ov) 20 0
 have hsl:=bz hF 20 0
 generalize dueC f0 num th ov 20 0=C0 at *
 generalize dueS inn ov 20 0=D0 at *
 obtain ⟨m,rfl⟩:∃ m:Nat,most=m:=⟨most.toNat,by omega⟩
 have em:((m:Nat):Int).toNat=m:=by omega
 generalize hms:((m:Nat):Int)=most at *
 have ecut:∀ l:List D,cutD l none (some most)=l.take most.toNat:=λl=>by have:=u6 l m; rw [hms] at this; rw [this,em]
 refine zx (λρ=>ρ=[zd (fdW C0 D0 most),zd (.tup [.lst C0,.lst D0]),zi most,none,none,none,none,none]) ?_ ?_
 ·exact vg false (λψ hψ=>wk (λψ hψ=>hψ) (λψ hψ=>wk (λψ hψ=>⟨zg ▸ trivial,zg ▸ trivial,hψ⟩) (λψ hψ=>wk (λψ hψ=>hψ) (λψ hψ=>hψ) hψ) hψ) hψ) (λz=>(by cases z)) (λ_=>rfl)
 rintro _ rfl
 refine zx (λρ=>ρ=[zd (fdW C0 D0 most),zd (.tup [.lst C0,.lst D0]),zi most,zl C0,zl D0,none,none,none]) ?_ ?_
 ·exact ⟨trivial,rfl⟩
 rintro _ rfl
 refine zx (λρ=>ρ=[zd (fdW C0 D0 most),zd (.tup [.lst C0,.lst D0]),zi most,zl C0,zo (D0.take most.toNat),none,none,none]) ?_ ?_
 ·refine (show True /\ setS _ 4 (dO (.lst (cutD D0 none (some most))))=_ from ⟨trivial,?_⟩)
  rw [ecut]
  rfl
 rintro _ rfl
 have hs2:∀ d ∈ D0.take most.toNat,∃ (j:Int) (s:Str),d=stp j s:=λd hd=>hsm d (List.mem_of_mem_take hd)
 refine zx (λρ=>ρ=[zd (fdW C0 D0 most),zd (.tup [.lst C0,.lst D0]),zi most,zl C0,zl (D0.take most.toNat),zi (xx (D0.take most.toNat):Nat),none,none]) ?_ ?_
 ·refine Td (c5 (Q7 (yw (D0.take most.toNat) (λψ hψ=>⟨trivial,hψ⟩) (λd=>if k8 d then some d else none) (by rw [List.length_take]; omega) (λd hd=>?_) ?_)))
  ·obtain ⟨j,s,rfl⟩:=hs2 d hd
   refine jl ?_
   refine (show _ /\ _ /\ _ from ⟨tx ▸ trivial,tx ▸ trivial,?_⟩)
   refine ⟨λz=>⟨trivial,?_⟩,λz=>?_⟩
   ·have z:(s == ("call" : Str))=true:=z
    rw [if_pos (show k8 (stp j s)=true from z)]
    try rfl
   ·have z:(s == ("call" : Str))=false:=z
    rw [if_neg (by rw [show k8 (stp j s)=(s == ("call" : Str)) from rfl,z]; decide)]
  ·rw [sf]
   exact ⟨trivial,rfl⟩
 rintro _ rfl
 have okc:okD 150 (.lst (C0.take (xx (D0.take most.toNat)))):=by
  rw [tz (by decide)]
  intro d hd
  obtain ⟨j,hj,rfl⟩:=hcm d (List.mem_of_mem_take hd)
  exact Fj hF hj
 refine zx (λρ=>ρ=[zd (fdW C0 D0 most),zd (.tup [.lst C0,.lst D0]),zi most,zl C0,zl (D0.take most.toNat),zi (xx (D0.take most.toNat):Nat),none,none]) ?_ ?_
 ·exact vg false (λψ hψ=>wk (λψ hψ=>hψ) (λψ hψ=>wk (λψ hψ=>hψ) (λψ hψ=>kz (kg (dv (.lst (C0.take (xx (D0.take most.toNat))))) (df (.lst (C0.take (xx (D0.take most.toNat))))) (λψ hψ=>hψ) (λψ hψ=>by show ψ (df (.lst (cutD C0 none (some (xx (D0.take most.toNat):Nat))))); rw [u6]; exact hψ) (Tc okc hψ))) hψ) hψ) (λz=>(by cases z)) (λ_=>rfl)
 rintro _ rfl
 refine zx (λρ=>∃ a,ρ=[zd (fdW C0 D0 most),zd (.tup [.lst C0,.lst D0]),zi most,zl C0,zl (D0.take most.toNat),zi (xx (D0.take most.toNat):Nat),a,none]) ?_ ?_
 ·refine vm (C0.take (xx (D0.take most.toNat))) (λψ hψ=>⟨trivial,hψ⟩) (λi ρ=>∃ a,ρ=[zd (fdW C0 D0 most),zd (.tup [.lst C0,.lst D0]),zi most,zl C0,zl (D0.take most.toNat),zi (xx (D0.take most.toNat):Nat),a,none]) ⟨none,rfl⟩ ?_ (λρ hρ=>hρ)
  rintro i d _ hd ⟨a,rfl⟩
  obtain ⟨k,hk,rfl⟩:=hcm d (List.mem_of_mem_take (zan hd))
  refine jl ?_
  refine vt (λψ hψ=>wk (λψ hψ=>hψ) (λψ hψ=>wk (λψ hψ=>hψ) (λψ hψ=>Uy (.bl false) false (λφ hφ=>Md (d:=upK k) (λφ hφ=>hφ) (λφ hφ=>hφ) (Qp k) hφ) rfl hψ) hψ) hψ) ?_
  exact vg false (λψ hψ=>wk (λψ hψ=>hψ) (λψ hψ=>wk (λψ hψ=>⟨rfl,num,rfl,hψ⟩) (λψ hψ=>Uy (.bl false) false (λφ hφ=>Md (d:=th k) (λφ hφ=>hφ) (λφ hφ=>hφ) (Oo hF k) hφ) rfl hψ) hψ) hψ) (λz=>(by cases z)) (λ_=>⟨_,rfl⟩)
 rintro _ ⟨a,rfl⟩
 refine zx (λρ=>∃ b,ρ=[zd (fdW C0 D0 most),zd (.tup [.lst C0,.lst D0]),zi most,zl C0,zl (D0.take most.toNat),zi (xx (D0.take most.toNat):Nat),a,b]) ?_ ?_
 ·refine vm (D0.take most.toNat) (λψ hψ=>⟨trivial,hψ⟩) (λi ρ=>∃ b,ρ=[zd (fdW C0 D0 most),zd (.tup [.lst C0,.lst D0]),zi most,zl C0,zl (D0.take most.toNat),zi (xx (D0.take most.toNat):Nat),a,b]) ⟨none,rfl⟩ ?_ (λρ hρ=>hρ)
  rintro i d _ hd ⟨b,rfl⟩
  obtain ⟨j,s,rfl⟩:=hs2 d (zan hd)
  refine jl ?_
  exact vg false (λψ hψ=>wk (λψ hψ=>hψ) (λψ hψ=>wk (λψ hψ=>⟨zg ▸ trivial,zg ▸ trivial,hψ⟩) (λψ hψ=>⟨rfl,j,rfl,hψ⟩) hψ) hψ) (λz=>(by cases z)) (λ_=>⟨_,rfl⟩)
 rintro _ ⟨b,rfl⟩
 have oks:=Si hs2
 refine vk (kg (dv (.lst (D0.take most.toNat))) (dv (.lst (D0.take most.toNat))) (λψ hψ=>hψ) (λψ hψ=>hψ) ⟨oks,oks,trivial,?_⟩)
 show φ (dv (.bl (eqD (.lst (D0.take most.toNat)) (.lst (D0.take most.toNat)))))
 rw [t6 40 _ oks]
 exact h
def Z8 {t u:TW} {ρ ρ':DE} {Z:DE->Prop} (e:ρ=ρ') (h:wSeq t u ρ' Z):wSeq t u ρ Z:=e ▸ h
def Ey {tc:TDb} {t u:TW} {ρ ρ':DE} {Z:DE->Prop} (e:ρ=ρ') (h:wIf tc t u ρ' Z):wIf tc t u ρ Z:=e ▸ h
def Na {T:FT2} {t u:TD} {ρ ρ':DE} {Z:DE->Prop} (e:ρ=ρ') (h:wTwo T t u ρ' Z):wTwo T t u ρ Z:=e ▸ h
def Jz {i:Nat} {t:TD} {ρ ρ':DE} {Z:DE->Prop} (e:ρ=ρ') (h:wApp i t ρ' Z):wApp i t ρ Z:=e ▸ h
def ky (p:Int × D):D:=.tup [.int p.1,p.2]
def TDb1 (N:Nat):FT2:=λd0 d1 cs ss φ=>∃ n:Nat,d0=.int n /\ n < N /\ cs.length + nc n <= 2000 /\ ss.length + ns n <= 5000 /\ φ (cs ++ (dbC n cs.length d1).map ky) (ss ++ dbS n cs.length)
def fnB (f x:Str):D:=.tup [.str f,pmD [(x,.str "num")],.tup [.str "num", .tup [.int 0,.int 0]],bdB f x]
def Zc:FT:=λds φ=>∃ f x nn y:Str,ds=[.lst [.str f,.str x,.str nn,.str y]] /\ φ (dv (.tup [fnB f x]))
def bm (f x:Str):zk (fnB f x):=by simp [fnB,bdB,sbE,caD,vaD,nuD,pmD,zk,zn]
def ku:∀ (n a:Nat) {up:D},zk up->zn ((dbC n a up).map ky)
 | 0,a,up,h=>⟨⟨trivial,h,trivial⟩,trivial⟩
 | n + 1,a,up,h=>by
  rw [dbC,List.map_cons,zMa]
  exact ⟨⟨trivial,h,trivial⟩,yb.mpr ⟨ku n _ trivial,ku n _ trivial⟩⟩
def x3 (a:Int) (k:Str):zk (stp a k):=⟨trivial,trivial,trivial⟩
def kq:∀ (n a:Nat),zn (dbS n a)
 | 0,a=>⟨x3 _ _,x3 _ _,trivial⟩
 | n + 1,a=>by
  rw [dbS]
  exact yb.mpr ⟨yb.mpr ⟨⟨x3 _ _,x3 _ _,x3 _ _,trivial⟩,kq n _⟩,yb.mpr ⟨yb.mpr ⟨⟨x3 _ _,trivial⟩,kq n _⟩,⟨x3 _ _,trivial⟩⟩⟩
def jp (T:Tops mg) (F:Fun K "_law_doubling" "_law_doubling" (top 29) f fd) (m:mg "_law_doubling" = some (.ref f)):FD P w K mg base 1 "_law_doubling" ["_law_names_here"] Zc:=by
 have S:zw ["_law_names_here", "_law_f", "_law_x", "_law_n", "_law_y", "_law_less", "_law_body"] ["_law_names_here"] (ze (top 29)):=by walk_at "f"
 refine ub F S (F.binds λ_ _ _ _ _ _ us hl=>(by obtain ⟨_,rfl⟩:=cr hl; rfl)) m λqZ A outer s H E ds φ hr hl hT=>?_
 have hu:=hr.units
 refine ⟨_,(zf (yd (Lj (z9 0) (S6 (K0:=K) (n:=4) (by rfl) (by rfl) (x4 (y3 (i:=1) S.nd rfl (by walk_at "o")) (x4 (y3 (i:=2) S.nd rfl (by walk_at "o")) (x4 (y3 (i:=3) S.nd rfl (by walk_at "o")) (x4 (y3 (i:=4) S.nd rfl (by walk_at "o")) ql))))) (Rb 1 2 3 4)))
   (zf (y0 5 S.nd (zm (z0 zj (z0 (z9 1) (z0 (zm (z0 (zm (z0 zj (z0 (zm (z0 zj (z0 (z9 2) za))) (z0 (zm (z0 zj (z0 zc za))) za)))) za)) za)))))
   (zf (y0 6 S.nd (zm (z0 zj (z0 (zm (z0 zj (z0 (z9 2) za))) (z0 (zm (z0 zj (z0 zc za))) (z0 (zm (z0 zj (z0 (zm (z0 zj (z0 zc za))) za))) (z0 (zm (z0 zj (z0 (zm (z0 zj (z0 (z9 5) (z0 (z9 5) za)))) za))) za)))))))
   (zu (yg (zm (z0 (zm (z0 (z9 1) (z0 (zm (z0 (zm (z0 (z9 2) (z0 zj za))) za)) (z0 (zm (z0 zj (z0 (zm (z0 zc (z0 zc za))) za))) (z0 (z9 6) za))))) za))))))),?_⟩
 obtain ⟨f1,x,nn,y,rfl,h⟩:=hT
 refine zx (λρ=>ρ=[zl ([.str f1,.str x,.str nn,.str y]),zs f1,zs x,zs nn,zs y,none,none]) ⟨trivial,rfl⟩ ?_
 rintro _ rfl
 refine xc ⟨rfl,rfl,rfl,rfl,rfl,rfl,rfl,rfl,rfl,rfl,trivial,?_⟩
 refine xc ⟨rfl,rfl,rfl,rfl,rfl,rfl,rfl,rfl,rfl,rfl,rfl,rfl,rfl,rfl,trivial,?_⟩
 exact ⟨rfl,rfl,rfl,rfl,rfl,rfl,rfl,rfl,rfl,rfl,rfl,rfl,⟨bm f1 x,trivial⟩,h⟩
def Ui (T:Tops mg) (F:Fun K "_law_doubled" "_law_doubled" (top 30) f fd) (m:mg "_law_doubled" = some (.ref f)):∀ N,F2 P w K mg base (N + 1) "_law_doubled" ["_law_number_here", "_law_up", "_law_calls", "_law_steps"] (TDb1 N):=by
 have S:zw ["_law_number_here", "_law_up", "_law_calls", "_law_steps", "_law_at", "_law_k"] ["_law_number_here", "_law_up", "_law_calls", "_law_steps"] (ze (top 30)):=by walk_at "f"
 have B:ZZ.Binds K fd ["_law_number_here", "_law_up", "_law_calls", "_law_steps"] []:=F.binds λ_ _ _ _ _ _ us hl=>(by obtain ⟨_,_,_,_,rfl⟩:=Kz hl; rfl)
 intro N
 induction N with
 | zero =>
  refine Rn F S B m rfl rfl λqZ A outer s H E a b d0 d1 cs ss φ hr p0 p1 pc ps hT=>?_
  obtain ⟨n,_,h,_⟩:=hT
  exact absurd h (Nat.not_lt_zero n)
 | succ N A8 =>
  refine Rn F S B m rfl rfl λqZ A outer s H E a b d0 up cs ss φ hr p0 pu pc ps hT=>?_
  obtain ⟨n,rfl,hn,hc,hs,h⟩:=hT
  have hu:=hr.units
  refine ⟨_,(uw (Jx 4 S.nd (wj T.len (z0 (z9 2) za)))
  (uw (Z7 2 (zm (z0 (z9 0) (z0 (z9 1) za))))
  (uw (Z7 3 (zm (z0 (z9 4) (z0 zj za)))) (uw (Z7 3 (zm (z0 (z9 4) (z0 zj za))))
  (Yy (Ex (Oq (z9 0) zc) (uw (L6 5 T.range zc (y3 (i:=5) S.nd rfl (by walk_at "o")) (uw (Z7 3 (zm (z0 (z9 4) (z0 zj za)))) (Yy (L7 A8 hr (tm (z9 0) zc) (z9 4))))) (Yy (Z7 3 (zm (z0 (z9 4) (z0 zj za)))))) L5)))))),?_⟩
  refine (show wSeq _ _ _ _ from ⟨rfl,?_⟩)
  refine Z8 (ρ':=[zi (n:Nat),zd up,zo (cs),zo (ss),zi cs.length,none]) (by rfl) ⟨rfl,rfl,rfl,by omega,?_⟩
  refine Z8 (ρ':=[zi (n:Nat),zd up,zo (cs ++ [D.tup [.int (n:Nat),up]]),zo (ss),zi cs.length,none]) (by rfl) ⟨rfl,rfl,rfl,by omega,?_⟩
  refine Z8 (ρ':=[zi (n:Nat),zd up,zo (cs ++ [D.tup [.int (n:Nat),up]]),zo (ss ++ [stp cs.length "call"]),zi cs.length,none]) (by rfl) ⟨rfl,rfl,rfl,by simp; omega,?_⟩
  refine Ey (ρ':=[zi (n:Nat),zd up,zo (cs ++ [D.tup [.int (n:Nat),up]]),zo (ss ++ [stp cs.length "call"] ++ [stp cs.length "less"]),zi cs.length,none]) (by rfl) ?_
  cases n with
  | zero =>
   refine ⟨λz=>(by cases z),λ_=>?_⟩
   refine ⟨_,_,rfl,rfl,yb.mpr ⟨pc,⟨trivial,pu,trivial⟩,trivial⟩,yb.mpr ⟨yb.mpr ⟨ps,x3 _ _,trivial⟩,x3 _ _,trivial⟩,?_⟩
   rw [app2]
   exact h
  | succ n =>
   simp only [nc,ns] at hc hs
   have p1:zn (cs ++ [D.tup [.int (n + 1:Nat),up]]):=yb.mpr ⟨pc,⟨trivial,pu,trivial⟩,trivial⟩
   have q1:zn (ss ++ [stp cs.length "call"] ++ [stp cs.length "less"]):=yb.mpr ⟨yb.mpr ⟨ps,x3 _ _,trivial⟩,x3 _ _,trivial⟩
   have p2:zn (cs ++ [D.tup [.int (n + 1:Nat),up]] ++ (dbC n (cs.length + 1) (.int cs.length)).map ky):=yb.mpr ⟨p1,ku _ _ trivial⟩
   have q2:zn (ss ++ [stp cs.length "call"] ++ [stp cs.length "less"] ++ [stp cs.length "sum"] ++ dbS n (cs.length + 1)):=yb.mpr ⟨yb.mpr ⟨q1,x3 _ _,trivial⟩,kq _ _⟩
   have l1:=ur n (cs.length + 1) (.int cs.length)
   have l2:=sk n (cs.length + 1)
   have l3:=ur n (cs.length + 1 + nc n) (.int cs.length)
   have l4:=sk n (cs.length + 1 + nc n)
   have en:D.int (((n + 1:Nat):Int) - 1)=.int (n:Nat):=by rw [show ((n + 1:Nat):Int) - 1=(n:Nat) by omega]
   have gt:decide (((n + 1:Nat):Int) > 0)=true:=decide_eq_true (by omega)
   refine (show (decide (((n + 1:Nat):Int) > 0)=true->_) /\ (decide (((n + 1:Nat):Int) > 0)=false->_) from ⟨λ_=>?_,λz=>?_⟩)
   rotate_left
   ·rw [gt] at z
    cases z
   refine (show Jy _ _ _ _ _ from ⟨2,rfl,by decide,λj ρ=>∃ a,(j=0 /\ ρ=[zi (n + 1:Nat),zd up,zo (cs ++ [D.tup [.int (n + 1:Nat),up]]),zo (ss ++ [stp cs.length "call"] ++ [stp cs.length "less"]),zi cs.length,a]) \/ (j=1 /\ ρ=[zi (n + 1:Nat),zd up,zo (cs ++ [D.tup [.int (n + 1:Nat),up]] ++ (dbC n (cs.length + 1) (.int cs.length)).map ky),zo (ss ++ [stp cs.length "call"] ++ [stp cs.length "less"] ++ [stp cs.length "sum"] ++ dbS n (cs.length + 1)),zi cs.length,a]) \/ (j=2 /\ ρ=[zi (n + 1:Nat),zd up,zo (cs ++ [D.tup [.int (n + 1:Nat),up]] ++ (dbC n (cs.length + 1) (.int cs.length)).map ky ++ (dbC n (cs.length + 1 + nc n) (.int cs.length)).map ky),zo (ss ++ [stp cs.length "call"] ++ [stp cs.length "less"] ++ [stp cs.length "sum"] ++ dbS n (cs.length + 1) ++ [stp cs.length "sum"] ++ dbS n (cs.length + 1 + nc n)),zi cs.length,a]),⟨none,.inl ⟨rfl,rfl⟩⟩,?_,?_⟩)
   ·rintro j _ hj ⟨a,⟨rfl,rfl⟩ | ⟨rfl,rfl⟩ | ⟨rfl,rfl⟩⟩
    ·refine Z8 (ρ':=[zi (n + 1:Nat),zd up,zo (cs ++ [D.tup [.int (n + 1:Nat),up]]),zo (ss ++ [stp cs.length "call"] ++ [stp cs.length "less"]),zi cs.length,zi (0:Nat)]) (by rfl) ⟨rfl,rfl,rfl,by simp; omega,?_⟩
     refine Na (ρ':=[zi (n + 1:Nat),zd up,zo (cs ++ [D.tup [.int (n + 1:Nat),up]]),zo (ss ++ [stp cs.length "call"] ++ [stp cs.length "less"] ++ [stp cs.length "sum"]),zi cs.length,zi (0:Nat)]) (by rfl) ⟨trivial,trivial,rfl,rfl,_,_,rfl,rfl,p1,yb.mpr ⟨q1,x3 _ _,trivial⟩,n,en,by omega,by simp; omega,by simp; omega,zi (0:Nat),.inr (.inl ⟨rfl,?_⟩)⟩
     rw [show (cs ++ [D.tup [.int (n + 1:Nat),up]]).length=cs.length + 1 by simp]
     rfl
    ·refine Z8 (ρ':=[zi (n + 1:Nat),zd up,zo (cs ++ [D.tup [.int (n + 1:Nat),up]] ++ (dbC n (cs.length + 1) (.int cs.length)).map ky),zo (ss ++ [stp cs.length "call"] ++ [stp cs.length "less"] ++ [stp cs.length "sum"] ++ dbS n (cs.length + 1)),zi cs.length,zi (1:Nat)]) (by rfl) ⟨rfl,rfl,rfl,by simp [l2]; omega,?_⟩
     refine Na (ρ':=[zi (n + 1:Nat),zd up,zo (cs ++ [D.tup [.int (n + 1:Nat),up]] ++ (dbC n (cs.length + 1) (.int cs.length)).map ky),zo (ss ++ [stp cs.length "call"] ++ [stp cs.length "less"] ++ [stp cs.length "sum"] ++ dbS n (cs.length + 1) ++ [stp cs.length "sum"]),zi cs.length,zi (1:Nat)]) (by rfl) ⟨trivial,trivial,rfl,rfl,_,_,rfl,rfl,p2,yb.mpr ⟨q2,x3 _ _,trivial⟩,n,en,by omega,by simp [l1]; omega,by simp [l2]; omega,zi (1:Nat),.inr (.inr ⟨rfl,?_⟩)⟩
     rw [show (cs ++ [D.tup [.int (n + 1:Nat),up]] ++ (dbC n (cs.length + 1) (.int cs.length)).map ky).length=cs.length + 1 + nc n by simp [l1]; omega]
     rfl
    ·omega
   ·rintro _ ⟨a,⟨z,_⟩ | ⟨z,_⟩ | ⟨_,rfl⟩⟩
    ·omega
    ·omega
    refine Jz (ρ':=[zi (n + 1:Nat),zd up,zo (cs ++ [D.tup [.int (n + 1:Nat),up]] ++ (dbC n (cs.length + 1) (.int cs.length)).map ky ++ (dbC n (cs.length + 1 + nc n) (.int cs.length)).map ky),zo (ss ++ [stp cs.length "call"] ++ [stp cs.length "less"] ++ [stp cs.length "sum"] ++ dbS n (cs.length + 1) ++ [stp cs.length "sum"] ++ dbS n (cs.length + 1 + nc n)),zi cs.length,a]) (by rfl) ⟨rfl,rfl,rfl,by simp [l2,l4]; omega,?_⟩
    refine ⟨_,_,rfl,rfl,yb.mpr ⟨p2,ku _ _ trivial⟩,yb.mpr ⟨yb.mpr ⟨yb.mpr ⟨q2,x3 _ _,trivial⟩,kq _ _⟩,x3 _ _,trivial⟩,?_⟩
    have e1:cs ++ [D.tup [.int (n + 1:Nat),up]] ++ (dbC n (cs.length + 1) (.int cs.length)).map ky ++ (dbC n (cs.length + 1 + nc n) (.int cs.length)).map ky=cs ++ (dbC (n + 1) cs.length up).map ky:=by simp [dbC,ky]
    have e2:ss ++ [stp cs.length "call"] ++ [stp cs.length "less"] ++ [stp cs.length "sum"] ++ dbS n (cs.length + 1) ++ [stp cs.length "sum"] ++ dbS n (cs.length + 1 + nc n) ++ [stp cs.length "sum"]=ss ++ dbS (n + 1) cs.length:=by simp [dbS]
    rw [<- e1,<- e2] at h
    exact h
variable {w:Nat} {f:Str} {b:D}
def Ek (hF:ug w far num th sz inn ov) (k:Nat):∀ z ∈ inn k,z ≠ ("call" : Str):=by
 walk_at "h"
 ·intro z hz
  rw [List.mem_singleton.mp (show z ∈ [("sum" : Str)] from hz)]
  decide
 ·intro z hz
  rw [List.eq_of_mem_replicate hz]
  decide
 ·intro z hz
  unfold in2 at hz
  split at hz
  ·cases hz
  ·rcases zam.mp hz with rfl | hz
   ·decide
   ·rw [List.mem_singleton.mp hz]
    decide
 ·intro z hz
  rw [List.eq_of_mem_replicate hz]
  decide
def Jo (hF:ug w far num th sz inn ov) (hW:WB w far f x nn y b) (nd:[f,x,nn,y].Nodup):db C fns most f x nn num th inn ov b:=by
 have nds:=nd
 simp only [List.nodup_cons,zam,List.not_mem_nil,or_false,not_or] at nds
 have hxn:x ≠ nn:=nds.2.1.1
 walk_at "h" <;> rcases hW with ⟨e0,rfl⟩ | ⟨fn2,e2,_,_,⟨e0,rfl⟩ | ⟨e0,rfl⟩ | ⟨e0,rfl⟩⟩ <;> first | (exact absurd e0 (by decide)) | skip
 ·exact C2 hxn
 ·cases (show fn=fn2 by omega)
  exact C1 hf4 hl hxn
 ·exact Dy ht (by simp; exact ⟨nds.2.1,nds.2.2.1⟩)
 ·cases (show fn=fn2 by omega)
  exact Dx hf1 hf4 ht hxn
def Za (hF:ug w far num th sz inn ov) (hW:WB w far f x nn y b) (nd:[f,x,nn,y].Nodup) (h0:0 <= most) (hz:FzT (.str (shW w)) (th 0)) {φ:EV->Prop} (h:φ ⟨.new,fdW (dueC f num th ov 20 0) (dueS inn ov 20 0) most⟩):sn C RT FzT [.tup [fnW f x nn w b],.str f,.lst [th 0,.int num],.int most] φ:=by
 have nds:=nd
 simp only [List.nodup_cons,zam,List.not_mem_nil,or_false,not_or] at nds
 have hxn:x ≠ nn:=nds.2.1.1
 have psz:zk (.tup [.str (shW w),szW w]):=(bj (f:=f) (x:=x) (nn:=nn) (w:=w) hW.pure).2.2.1
 have hf:rowG [(f,fnW f x nn w b)] f=some (.tup [.str f,pmD [(x,.str (shW w)),(nn,.str "num")],.tup [.str (shW w),szW w],b]):=by simp [rowG,fnW]
 obtain ⟨n,s1,hr,hc,hs,hl⟩:=Lg (C:=C) (fns:=[(f,fnW f x nn w b)]) (most:=most) (sh:=.str (shW w)) (D0:=dueS inn ov 20 0) (C0:=dueC f num th ov 20 0) (Jo hF hW nd) (bv hF) (Ek hF) (Vf hF) hxn hW.pure (n0:=.str f) trivial psz trivial hf 20 0 [] [] [] [] [] rfl (λi hi=>absurd hi (Nat.not_lt_zero i)) rfl rfl rfl rfl rfl rfl h0 (zaj _) (zaj _) rfl
 refine ⟨[(f,fnW f x nn w b)],f,[th 0,.int num],most,.str f,[(x,.str (shW w)),(nn,.str "num")],.tup [.str (shW w),szW w],b,s1,n,rfl,by simp,by simp,⟨bj hW.pure,trivial⟩,λp hp=>(by rw [List.mem_singleton.mp hp]; exact ⟨_,rfl⟩),hf,trivial,⟨trivial,trivial,trivial⟩,psz,hW.pure,⟨bv hF 0,trivial,trivial⟩,rfl,by simp,by simp [hxn],λp hp=>?_,hr,.inl ⟨hc,?_⟩⟩
 ·rcases zam.mp (show p ∈ [(D.str (shW w),th 0),(D.str "num", D.int num)] from hp) with rfl | hp
  ·exact hz
  ·rw [List.mem_singleton.mp hp]
   exact .inl ⟨rfl,num,rfl⟩
 ·rw [hs,hl]
  exact h
def fdB (f:Str) (n:Nat) (most:Int) (sub:List Rw):D:=.tup [.bl (decide ((ns n:Int) <= most)),if (ns n:Int) <= most then .int 0 else .non,.lst (sub.map (rowB f)),.lst ((dbS n 0).take most.toNat)]
def Ju (n:Nat) (most:Int) (sub:List Rw):Prop:=sub.map Rw.key=(dbC n 0 .non).take (xx ((dbS n 0).take most.toNat)) /\ (¬ (ns n:Int) <= most->nd0 sub) /\ ((ns n:Int) <= most->sub=(dbC n 0 .non).map dnR)
def Fn:∀ n,n <= 8->ns n <= 1800 /\ nc n <= 600
 | 0,_=>by decide
 | 1,_=>by decide
 | 2,_=>by decide
 | 3,_=>by decide
 | 4,_=>by decide
 | 5,_=>by decide
 | 6,_=>by decide
 | 7,_=>by decide
 | 8,_=>by decide
 | n + 9,h=>by omega
def Zb {n:Nat} (hn:n <= 8) (h0:0 <= most) {φ:EV->Prop} (h:∀ sub,Ju n most sub->φ ⟨.new,fdB f n most sub⟩):sn C RT FzT [.tup [fnB f x],.str f,.lst [.int n],.int most] φ:=by
 have hf:rowG [(f,fnB f x)] f=some (.tup [.str f,pmD [(x,.str "num")],.tup [.str "num", .tup [.int 0,.int 0]],bdB f x]):=by simp [rowG,fnB]
 have hb:=Fn n hn
 have lS:=sk n 0
 have lC:=ur n 0 .non
 have pz:zk (.tup [.str "num", .tup [.int 0,.int 0]]):=⟨trivial,⟨trivial,trivial,trivial⟩,trivial⟩
 have pb:zk (bdB f x):=(bm f x).2.2.2.1
 obtain ⟨m,s1,hr,sub,hs,hl,ho,hc⟩:=Lh (C:=C) (fns:=[(f,fnB f x)]) (most:=most) (n0:=.str f) hf trivial pz n [] [] [] [] [] (λs:MS=>∃ sub:List Rw,s.steps=(dbS n 0).take most.toNat /\ s.calls=sub.map (rowB f) /\ Ju n most sub /\ ((s.cut=true /\ ¬ (ns n:Int) <= most) \/ (s.cut=false /\ (ns n:Int) <= most /\ s.ready=[.int 0]))) (by simp; omega) (by simp; omega) (by simp; omega) (zaj _) (zaj _) trivial h0 trivial
  (λX Y ck rk sub e1 hy e2 e3 e4 e5 hle h1 s1 c1 c2 c3=>by
   have e1:dbS n 0=X ++ Y:=e1
   have e2:dbC n 0 .non=ck ++ rk:=e2
   have hle:(X.length:Int) <= most:=hle
   have h1:most <= (X.length:Int):=h1
   have em:most.toNat=X.length:=by omega
   have ex:(dbS n 0).take most.toNat=X:=by rw [em,e1,List.take_left]
   have hy1:=List.length_pos_iff.mpr hy
   have hlt:¬ (ns n:Int) <= most:=by
    rw [<- lS,e1,zLa]
    omega
   refine ⟨sub,by rw [ex]; exact c3,c2,⟨?_,λ_=>e5,λz=>absurd z hlt⟩,.inl ⟨c1,hlt⟩⟩
   rw [ex,e3,e2,List.take_left]
   exact e4)
  (λhle=>by
   have hle:((dbS n 0).length:Int) <= most:=by simpa using hle
   have ex:(dbS n 0).take most.toNat=dbS n 0:=List.take_of_length_le (by omega)
   have hns:(ns n:Int) <= most:=by rw [<- lS]; exact hle
   refine w5 (.inl rfl) ⟨(dbC n 0 .non).map dnR,?_,?_,⟨?_,λz=>absurd hns z,λ_=>rfl⟩,.inr ⟨rfl,hns,rfl⟩⟩
   ·rw [ex]; rfl
   ·rfl
   ·rw [ex,t7,<- lC,List.take_length,d8])
 refine ⟨[(f,fnB f x)],f,[.int n],most,.str f,[(x,.str "num")],.tup [.str "num", .tup [.int 0,.int 0]],bdB f x,s1,m,rfl,by simp,by simp,⟨bm f x,trivial⟩,λp hp=>(by rw [List.mem_singleton.mp hp]; exact ⟨_,rfl⟩),hf,trivial,⟨trivial,trivial⟩,pz,pb,⟨trivial,trivial⟩,rfl,by simp,by simp,λp hp=>(by rw [List.mem_singleton.mp (show p ∈ [(D.str "num", D.int n)] from hp)]; exact .inl ⟨rfl,_,rfl⟩),hr,?_⟩
 have:=h sub ho
 unfold fdB at this
 rcases hc with ⟨c1,c2⟩ | ⟨c1,c2,c3⟩
 ·rw [if_neg c2,decide_eq_false c2] at this
  refine .inl ⟨c1,?_⟩
  rw [hs,hl]
  exact this
 ·rw [if_pos c2,decide_eq_true c2] at this
  refine .inr ⟨c1,_,_,c3,trivial,?_⟩
  rw [hs,hl]
  exact this
variable {w:World} {f:Addr}
def W6:∀ (n a:Nat) {d:D},d ∈ dbS n a->∃ (j:Int) (s:Str),d=stp j s
 | 0,a,d,h=>by
  rcases zam.mp h with rfl | h
  ·exact ⟨_,_,rfl⟩
  ·rw [List.mem_singleton.mp h]
   exact ⟨_,_,rfl⟩
 | n + 1,a,d,h=>by
  rw [dbS] at h
  simp only [zas,zam,List.not_mem_nil,or_false] at h
  rcases h with ((rfl | rfl | rfl) | h) | (rfl | h) | rfl
  ·exact ⟨_,_,rfl⟩
  ·exact ⟨_,_,rfl⟩
  ·exact ⟨_,_,rfl⟩
  ·exact W6 n _ h
  ·exact ⟨_,_,rfl⟩
  ·exact W6 n _ h
  ·exact ⟨_,_,rfl⟩
def upOk (d:D):Prop:=d=.non \/ ∃ i:Int,d=.int i
def Q2:∀ (n a:Nat) {up:D},upOk up->∀ p ∈ dbC n a up,upOk p.2
 | 0,a,up,h,p,hp=>by
  rw [List.mem_singleton.mp hp]
  exact h
 | n + 1,a,up,h,p,hp=>by
  rw [dbC] at hp
  rcases zam.mp hp with rfl | hp
  ·exact h
  ·rcases zas.mp hp with hp | hp
   ·exact Q2 n _ (.inr ⟨_,rfl⟩) p hp
   ·exact Q2 n _ (.inr ⟨_,rfl⟩) p hp
def upOk.ok {d:D} (h:upOk d) (n:Nat):okD n d:=by
 rcases h with rfl | ⟨i,rfl⟩
 ·rw [X9]; trivial
 ·rw [zg]; trivial
def r3 (f:Str) (p:Int × D):D:=.tup [.str f,.tup [.int p.1],p.2]
def D7 {f:Str} {p:Int × D} (h:upOk p.2):okD 39 (r3 f p):=by
 unfold r3
 rw [vo (by decide)]
 intro d hd
 simp only [zam,List.not_mem_nil,or_false] at hd
 rcases hd with rfl | rfl | rfl
 ·trivial
 ·rw [vo (by decide)]
  intro d hd
  rw [List.mem_singleton.mp hd]
  trivial
 ·exact h.ok _
def Dj {f:Str} {l:List (Int × D)} (h:∀ p ∈ l,upOk p.2):okD 40 (.lst (l.map (r3 f))):=by
 rw [tz (by decide)]
 intro d hd
 obtain ⟨p,hp,rfl⟩:=zah.mp hd
 exact D7 (h p hp)
def Ls {f:Str} {r:Rw} (h:upOk r.up):okD 39 (rowB f r):=by
 unfold rowB
 rw [vo (by decide)]
 intro d hd
 simp only [zam,List.not_mem_nil,or_false] at hd
 rcases hd with rfl | rfl | rfl | rfl | rfl
 ·trivial
 ·rw [vo (by decide)]
  intro d hd
  rw [List.mem_singleton.mp hd]
  trivial
 ·exact h.ok _
 ·trivial
 ·split <;> trivial
def f2 (f:Str):D->Option D
 | .tup [a,b]=>some (.tup [.str f,.tup [a],b])
 | _=>none
def El (f:Str):∀ l:List (Int × D),(l.map ky).filterMap (f2 f)=l.map (r3 f)
 | []=>rfl
 | p :: l=>by
  rw [List.map_cons,List.filterMap_cons_some (show f2 f (ky p)=some (r3 f p) from rfl),El f l]
  rfl
def f3:D->Option D
 | .tup [a,b,c,_,_]=>some (.tup [a,b,c])
 | _=>none
def Mm (f:Str):∀ l:List Rw,(l.map (rowB f)).filterMap f3=(l.map Rw.key).map (r3 f)
 | []=>rfl
 | r :: l=>by
  rw [List.map_cons,List.filterMap_cons_some (show f3 (rowB f r)=some (r3 f r.key) from rfl),Mm f l]
  rfl
def f4:D->Option D
 | .tup [_,_,_,a,b]=>some (.tup [a,b])
 | _=>none
def Ml (f:Str):∀ l:List (Int × D),((l.map dnR).map (rowB f)).filterMap f4=List.replicate l.length (.tup [.bl true,.int 0])
 | []=>rfl
 | p :: l=>by
  rw [List.map_cons,List.map_cons,List.filterMap_cons_some (show f4 (rowB f (dnR p))=some (.tup [.bl true,.int 0]) from rfl),Ml f l]
  rfl
def Ho {ds:List D} {i:Int} {d:D} {φ:EV->Prop} (e:atI ds i=some d) (h:φ (dv d)):sIxx (.lst ds) (.int i) φ:=by
 show match atI ds i with | some d=>φ (dv d) | none=>False
 rw [e]
 exact h
def tDT:FT:=λds φ=>∃ (f x nn y:Str) (n:Nat) (most:Int),ds=[.lst [.str f,.str x,.str nn,.str y],.int n,.int most] /\ n <= 8 /\ 0 <= most /\ φ (dv (.bl true))
def Lm {i j:Nat} {T:FT2} {t0 t1:TD} {ρ:DE} {Z:DZ} (h:t0 ρ λr0=>t1 ρ λr1=>zk r0.d /\ zk r1.d /\ r0.k=.val /\ r1.k=.val /\ ∃ cs ss,slot ρ i=some (dO (.lst cs)) /\ slot ρ j=some (dO (.lst ss)) /\ zn cs /\ zn ss /\ T r0.d r1.d cs ss λcs' ss'=>Z.nx (setS (setS ρ i (dO (.lst cs'))) j (dO (.lst ss')))):sTwo i j T t0 t1 ρ Z:=h
def sj (T:Tops mg) (Ci:FDV P w K mg base 10 "trace" ["program", "name", "args", "most"] 1000 (sn C RT FzT)) (Ct:F2 P w K mg base 10 "_law_doubled" ["_law_number_here", "_law_up", "_law_calls", "_law_steps"] (TDb1 9)) (Ce:FD P w K mg base 1 "_law_doubling" ["_law_names_here"] Zc) (Be:FD P w K mg base 10 "trace" ["program", "name", "args", "most"] (sn C RT FzT)) (F:Fun K "_law_doubled_told" "_law_doubled_told" (top 31) f fd) (m:mg "_law_doubled_told" = some (.ref f)):FD P w K mg base 12 "_law_doubled_told" ["_law_names_here", "_law_number_here", "_law_most"] tDT:=by
 have S:zw ["_law_names_here", "_law_number_here", "_law_most", "_law_calls", "_law_steps", "_law_done", "_law_found", "_law_begun", "_law_due_here"] ["_law_names_here", "_law_number_here", "_law_most"] (ze (top 31)):=by walk_at "f"
 refine ub F S (F.binds λ_ _ _ _ _ _ us hl=>(by obtain ⟨_,_,_,rfl⟩:=gd hl; rfl)) m λqZ A outer s H E ds φ hr hl hT=>?_
 have hu:=hr.units
 refine ⟨_,(zf (y0 3 S.nd (yu za))
   (zf (y0 4 S.nd (yu za))
   (zf (yd (P5 3 4 (by decide) Ct (hr.mono (by decide)) (z9 1) v8))
   (zf (yd (y0 5 S.nd (Du (wj T.len (z0 (z9 4) za)) (z9 2))))
   (zf (yd (xm (xh hu (z9 2) zc) (zu (y0 6 S.nd (Vl Ci (hr.mono (by decide)) (z0 (ya Ce (hr.mono (by decide)) (z0 (z9 0) za)) (z0 (zh hu (z9 0) zc) (z0 (yu (z0 (z9 1) za)) za)))))) (zu (y0 6 S.nd (ya Be (hr.mono (by decide)) (z0 (ya Ce (hr.mono (by decide)) (z0 (z9 0) za)) (z0 (zh hu (z9 0) zc) (z0 (yu (z0 (z9 1) za)) (z0 (z9 2) za)))))))))
   (zf (yd (xm (EW.et (u1 (v6 (xj (ym T.isinstance (z0 (z9 6) (z0 (uq T.tuple xt) za))))) (u1 (jq hu (wj T.len (z0 (z9 6) za)) zc) (u1 (v6 (xj (ym T.isinstance (z0 (zh hu (z9 6) zc) (z0 (uq T.bool u7) za))))) (t9 (jq hu (zh hu (z9 6) zc) (z9 5))))))) (zu (yg wy)) yn))
   (zf (yd (xm (EW.et (u1 (jq hu (zh hu (z9 6) zc) (zh hu (yu (z0 v8 (z0 zc za))) (ju T.int (z0 (z9 5) za)))) (u1 (v6 (xj (ym T.isinstance (z0 (zh hu (z9 6) zc) (z0 (uq T.list t8) za))))) (t9 (jq hu (zh hu (z9 6) zc) (x5 (z9 4) wx (x8 (z9 2)))))))) (zu (yg wy)) yn))
   (zf (yd (y0 7 S.nd (wj T.len (z0 (wf (T:=["_law_step"]) (F:=[]) (js:=[]) (v7 (x5 (z9 4) wx (x8 (z9 2)))) (show y9 (ze (top 31)) _ ["_law_step"] [] from by walk_at "c") .nil (by decide) (λcl C fp s H=>(y3 (i:=0) (show ((["_law_step"]:List Str) ++ ([]:List Str)).Nodup by decide +kernel) rfl (by walk_at "o"))) (yy (by decide)) (yp 0) (λcl C fp s H=>(Rr (xh hu (zh hu (z9 0) zc) zj))) (λcl C fp s H=>(z9 0))) za))))
   (zf (yd (qe (T:=["_law_part"]) (F:=["_law_names_here"]) (js:=[0]) 8 S.nd (v7 (x5 (z9 3) wx (x8 (z9 7)))) (show y9 (ze (top 31)) _ ["_law_part"] ["_law_names_here"] from by walk_at "c") (.cons rfl .nil) (by decide) (λcl C fp s H=>(y3 (i:=0) (show ((["_law_part"]:List Str) ++ (["_law_names_here"]:List Str)).Nodup by decide +kernel) rfl (by walk_at "o"))) (yy (by decide)) (yp 0) (λcl C fp s H=>xy) (λcl C fp s H=>(zm (z0 (zh hu (z9 1) zc) (z0 (zm (z0 (zh hu (z9 0) zc) za)) (z0 (zh hu (z9 0) zc) za)))))))
   (zf (yd (xm (EW.et (u1 (jq hu (wf (T:=["_law_row"]) (F:=[]) (js:=[]) (v7 (zh hu (z9 6) zc)) (show y9 (ze (top 31)) _ ["_law_row"] [] from by walk_at "c") .nil (by decide) (λcl C fp s H=>(y3 (i:=0) (show ((["_law_row"]:List Str) ++ ([]:List Str)).Nodup by decide +kernel) rfl (by walk_at "o"))) (yy (by decide)) (yp 0) (λcl C fp s H=>xy) (λcl C fp s H=>(x5 (z9 0) wx (x8 zc)))) (z9 8)) (t9 (EW.et (Mn (jq hu (zh hu (z9 6) zc) (yu za)) (Ro (jq hu (zh hu (zh hu (zh hu (z9 6) zc) zc) zc) (z9 5)))))))) (zu (yg wy)) yn))
   (zu (yg (Et (Ru (z9 5)) (jr (Ow hu (wf (T:=["_law_row"]) (F:=[]) (js:=[]) (v7 (zh hu (z9 6) zc)) (show y9 (ze (top 31)) _ ["_law_row"] [] from by walk_at "c") .nil (by decide) (λcl C fp s H=>(y3 (i:=0) (show ((["_law_row"]:List Str) ++ ([]:List Str)).Nodup by decide +kernel) rfl (by walk_at "o"))) (yy (by decide)) (yp 0) (λcl C fp s H=>xy) (λcl C fp s H=>(x5 (z9 0) (x8 zc) wx))) (wf (T:=["_law_row"]) (F:=[]) (js:=[]) (v7 (zh hu (z9 6) zc)) (show y9 (ze (top 31)) _ ["_law_row"] [] from by walk_at "c") .nil (by decide) (λcl C fp s H=>(y3 (i:=0) (show ((["_law_row"]:List Str) ++ ([]:List Str)).Nodup by decide +kernel) rfl (by walk_at "o"))) (yy (by decide)) (yp 0) (λcl C fp s H=>xy) (λcl C fp s H=>(zm (z0 wy (z0 zc za)))))))))))))))))))),?_⟩
 obtain ⟨f1,x,nn,y,n,most,rfl,hn,h0,h⟩:=hT
 have hb:=Fn n hn
 have lS:=sk n 0
 have lC:=ur n 0 .non
 obtain ⟨mm,rfl⟩:∃ m:Nat,most=m:=⟨most.toNat,by omega⟩
 have em:((mm:Nat):Int).toNat=mm:=by omega
 generalize hms:((mm:Nat):Int)=most at *
 have ecut:∀ l:List D,cutD l none (some most)=l.take most.toNat:=λl=>by have:=u6 l mm; rw [hms] at this; rw [this,em]
 refine xc ⟨rfl,rfl,trivial,?_⟩
 refine xc ⟨rfl,rfl,trivial,?_⟩
 refine zx (λρ=>ρ=[zl ([.str f1,.str x,.str nn,.str y]),zi (n:Nat),zi most,zo ((dbC n 0 .non).map ky),zo (dbS n 0),none,none,none,none]) ?_ ?_
 ·exact Lm ⟨trivial,trivial,rfl,rfl,[],[],rfl,rfl,trivial,trivial,n,rfl,by omega,by simp; omega,by simp; omega,rfl⟩
 rintro _ rfl
 refine zx (λρ=>ρ=[zl ([.str f1,.str x,.str nn,.str y]),zi (n:Nat),zi most,zo ((dbC n 0 .non).map ky),zo (dbS n 0),zb (decide ((ns n:Int) <= most)),none,none,none]) ?_ ?_
 ·refine (show True /\ setS _ 5 (dv (.bl (decide (((dbS n 0).length:Int) <= most))))=_ from ⟨trivial,?_⟩)
  rw [lS]
  rfl
 rintro _ rfl
 refine zx (λρ=>∃ sub,Ju n most sub /\ ρ=[zl ([.str f1,.str x,.str nn,.str y]),zi (n:Nat),zi most,zo ((dbC n 0 .non).map ky),zo (dbS n 0),zb (decide ((ns n:Int) <= most)),zd (fdB f1 n most sub),none,none]) ?_ ?_
 ·refine vg (most == 1000) (λψ hψ=>⟨zg ▸ trivial,zg ▸ trivial,hψ⟩) (λz=>?_) (λz=>?_)
  ·have e:most=1000:=eq_of_beq z
   clear hms em ecut z
   subst e
   exact ⟨rfl,f1,x,nn,y,rfl,rfl,rfl,rfl,Zb hn (by decide) λsub hs=>⟨trivial,sub,hs,rfl⟩⟩
  ·exact ⟨rfl,f1,x,nn,y,rfl,rfl,rfl,rfl,Zb hn h0 λsub hs=>⟨trivial,sub,hs,rfl⟩⟩
 rintro _ ⟨sub,⟨hk,hn0,hdn⟩,rfl⟩
 have hup:∀ p ∈ sub.map Rw.key,upOk p.2:=λp hp=>by
  rw [hk] at hp
  exact Q2 n 0 (.inl rfl) p (List.mem_of_mem_take hp)
 have lsub:sub.length <= 600:=by
  have:=congrArg List.length hk
  rw [zLm,List.length_take] at this
  omega
 obtain ⟨dn,vl,hdv,hd1,hd2,he⟩:∃ (dn:Bool) (vl:D),((dn=true /\ vl=.int 0) \/ (dn=false /\ vl=.non)) /\ (dn=false->nd0 sub) /\ (dn=true->sub=(dbC n 0 .non).map dnR) /\ [zl ([.str f1,.str x,.str nn,.str y]),zi (n:Nat),zi most,zo ((dbC n 0 .non).map ky),zo (dbS n 0),zb (decide ((ns n:Int) <= most)),zd (fdB f1 n most sub),none,none]=[zl ([.str f1,.str x,.str nn,.str y]),zi (n:Nat),zi most,zo ((dbC n 0 .non).map ky),zo (dbS n 0),zb dn,zd (.tup [.bl dn,vl,.lst (sub.map (rowB f1)),.lst ((dbS n 0).take most.toNat)]),none,none]:=by
  unfold fdB
  by_cases q:(ns n:Int) <= most
  ·rw [if_pos q,decide_eq_true q]
   exact ⟨true,_,.inl ⟨rfl,rfl⟩,λz=>(by cases z),λ_=>hdn q,rfl⟩
  ·rw [if_neg q,decide_eq_false q]
   exact ⟨false,_,.inr ⟨rfl,rfl⟩,λ_=>hn0 q,λz=>(by cases z),rfl⟩
 rw [he]
 clear he hn0 hdn
 have hs2:∀ d ∈ (dbS n 0).take most.toNat,∃ (j:Int) (s:Str),d=stp j s:=λd hd=>W6 n 0 (List.mem_of_mem_take hd)
 have oks:=Si hs2
 refine zx (λρ=>ρ=[zl ([.str f1,.str x,.str nn,.str y]),zi (n:Nat),zi most,zo ((dbC n 0 .non).map ky),zo (dbS n 0),zb dn,zd (.tup [.bl dn,vl,.lst (sub.map (rowB f1)),.lst ((dbS n 0).take most.toNat)]),none,none]) ?_ ?_
 ·exact vg false (λψ hψ=>wk (λψ hψ=>hψ) (λψ hψ=>wk (λψ hψ=>⟨zg ▸ trivial,zg ▸ trivial,hψ⟩) (λψ hψ=>wk (λψ hψ=>hψ) (λψ hψ=>kz (kg (dv (.bl dn)) (dv (.bl dn)) (λψ hψ=>hψ) (λψ hψ=>hψ) (fg (Sj ▸ trivial) (by rw [Rq]; simp) hψ))) hψ) hψ) hψ) (λz=>(by cases z)) (λ_=>rfl)
 rintro _ rfl
 refine zx (λρ=>ρ=[zl ([.str f1,.str x,.str nn,.str y]),zi (n:Nat),zi most,zo ((dbC n 0 .non).map ky),zo (dbS n 0),zb dn,zd (.tup [.bl dn,vl,.lst (sub.map (rowB f1)),.lst ((dbS n 0).take most.toNat)]),none,none]) ?_ ?_
 ·refine vg false (λψ hψ=>wk (λψ hψ=>kz (kg (dv vl) (dv vl) (λψ hψ=>hψ) (λψ hψ=>?_) ?_)) (λψ hψ=>wk (λψ hψ=>hψ) (λψ hψ=>kz (kg (dv (.lst ((dbS n 0).take most.toNat))) (df (.lst ((dbS n 0).take most.toNat))) (λψ hψ=>hψ) (λψ hψ=>by show ψ (df (.lst (cutD (dbS n 0) none (some most)))); rw [ecut]; exact hψ) (fg oks (t6 40 _ oks) hψ))) hψ) hψ) (λz=>(by cases z)) (λ_=>rfl)
  ·refine ⟨rfl,rfl,?_⟩
   rcases hdv with ⟨rfl,rfl⟩ | ⟨rfl,rfl⟩
   ·exact hψ
   ·exact hψ
  ·rcases hdv with ⟨rfl,rfl⟩ | ⟨rfl,rfl⟩
   ·exact fg (zg ▸ trivial) (by rw [W4]; simp) hψ
   ·exact fg (X9 ▸ trivial) rfl hψ
 rintro _ rfl
 refine zx (λρ=>ρ=[zl ([.str f1,.str x,.str nn,.str y]),zi (n:Nat),zi most,zo ((dbC n 0 .non).map ky),zo (dbS n 0),zb dn,zd (.tup [.bl dn,vl,.lst (sub.map (rowB f1)),.lst ((dbS n 0).take most.toNat)]),zi (xx ((dbS n 0).take most.toNat):Nat),none]) ?_ ?_
 ·refine c5 (Q7 (yw ((dbS n 0).take most.toNat) (λψ hψ=>?_) (λd=>if k8 d then some d else none) (by rw [List.length_take]; omega) (λd hd=>?_) ?_))
  ·show True /\ ψ (cutD (dbS n 0) none (some most))
   rw [ecut]
   exact ⟨trivial,hψ⟩
  ·obtain ⟨j,s,rfl⟩:=hs2 d hd
   refine jl ?_
   refine (show _ /\ _ /\ _ from ⟨tx ▸ trivial,tx ▸ trivial,?_⟩)
   refine ⟨λz=>⟨trivial,?_⟩,λz=>?_⟩
   ·have z:(s == ("call" : Str))=true:=z
    rw [if_pos (show k8 (stp j s)=true from z)]
    try rfl
   ·have z:(s == ("call" : Str))=false:=z
    rw [if_neg (by rw [show k8 (stp j s)=(s == ("call" : Str)) from rfl,z]; decide)]
  ·rw [sf]
   exact ⟨trivial,rfl⟩
 rintro _ rfl
 refine zx (λρ=>ρ=[zl ([.str f1,.str x,.str nn,.str y]),zi (n:Nat),zi most,zo ((dbC n 0 .non).map ky),zo (dbS n 0),zb dn,zd (.tup [.bl dn,vl,.lst (sub.map (rowB f1)),.lst ((dbS n 0).take most.toNat)]),zi (xx ((dbS n 0).take most.toNat):Nat),zo ((sub.map Rw.key).map (r3 f1))]) ?_ ?_
 ·refine c5 (yw ((sub.map Rw.key).map ky) (λψ hψ=>?_) (f2 f1) (by simp; omega) (λd hd=>?_) ?_)
  ·show True /\ ψ (cutD ((dbC n 0 .non).map ky) none (some (xx ((dbS n 0).take most.toNat):Nat)))
   rw [u6,<- List.map_take,<- hk]
   exact ⟨trivial,hψ⟩
  ·obtain ⟨p,hp,rfl⟩:=zah.mp hd
   exact jl ⟨λ_=>⟨rfl,rfl,rfl,rfl,trivial,rfl⟩,(λz=>(by cases z))⟩
  ·rw [El]
   exact ⟨trivial,rfl⟩
 rintro _ rfl
 have okr:=Dj (f:=f1) hup
 have okb:okD 40 (.lst (sub.map (rowB f1))):=by
  rw [tz (by decide)]
  intro d hd
  obtain ⟨r,hr2,rfl⟩:=zah.mp hd
  exact Ls (hup r.key (zah.mpr ⟨r,hr2,rfl⟩))
 refine zx (λρ=>ρ=[zl ([.str f1,.str x,.str nn,.str y]),zi (n:Nat),zi most,zo ((dbC n 0 .non).map ky),zo (dbS n 0),zb dn,zd (.tup [.bl dn,vl,.lst (sub.map (rowB f1)),.lst ((dbS n 0).take most.toNat)]),zi (xx ((dbS n 0).take most.toNat):Nat),zo ((sub.map Rw.key).map (r3 f1))]) ?_ ?_
 ·refine vg false (λψ hψ=>wk (λψ hψ=>kz (kg (df (.lst ((sub.map Rw.key).map (r3 f1)))) (dO (.lst ((sub.map Rw.key).map (r3 f1)))) (λψ hψ=>yw (sub.map (rowB f1)) (λψ hψ=>⟨trivial,hψ⟩) f3 (by simp; omega) (λd hd=>?_) (by rw [Mm]; exact hψ)) (λψ hψ=>hψ) (fg okr (t6 40 _ okr) hψ))) (λψ hψ=>?_) hψ) (λz=>(by cases z)) (λ_=>rfl)
  ·obtain ⟨r,_,rfl⟩:=zah.mp hd
   exact jl ⟨λ_=>⟨(show ¬ (ZZ.sIx 5 0 none=0 /\ ZZ.sIx 5 5 (some 3)=5) by decide),trivial,rfl⟩,(λz=>(by cases z))⟩
  ·cases sub with
   | nil=>exact ⟨rfl,rfl,okb,okb,(λz=>(by cases z)),λ_=>hψ⟩
   | cons r l =>
    refine ⟨rfl,rfl,okb,(show okD 40 (.lst []) from by rw [tz (by decide)]; exact λd hd=>nomatch hd),λ_=>?_,λ_=>hψ⟩
    have er:r.done=dn:=by
     cases dn with
     | false=>exact hd1 rfl r rfl
     | true =>
      have:=hd2 rfl
      cases e:dbC n 0 .non with
      | nil=>rw [e] at this; cases this
      | cons p q =>
       rw [e] at this
       cases this
       rfl
    have ei:atI ((r :: l).map (rowB f1)) 0=some (rowB f1 r):=by simp [atI,ZZ.ixN]
    refine kz (kg (dv (.bl r.done)) (dv (.bl dn)) (λψ hψ=>kg (dv (rowB f1 r)) (dv (.int 3)) (λψ hψ=>kg (dv (.lst ((r :: l).map (rowB f1)))) (dv (.int 0)) (λψ hψ=>hψ) (λψ hψ=>hψ) (Ho ei hψ)) (λψ hψ=>hψ) hψ) (λψ hψ=>hψ) ?_)
    rw [er]
    exact fg (Sj ▸ trivial) (by rw [Rq]; simp) hψ
 rintro _ rfl
 refine vk (Ut (!dn) (λψ hψ=>hψ) (λ_=>⟨trivial,h⟩) (λz=>?_))
 cases dn with
 | false=>cases z
 | true =>
  have e:=hd2 rfl
  subst e
  have okt:okD 40 (.lst (List.replicate (dbC n 0 .non).length (.tup [.bl true,.int 0]))):=by
   rw [tz (by decide)]
   intro d hd
   rw [List.eq_of_mem_replicate hd,vo (by decide)]
   intro d hd
   simp only [zam,List.not_mem_nil,or_false] at hd
   rcases hd with rfl | rfl <;> trivial
  refine kg (df (.lst (List.replicate (dbC n 0 .non).length (.tup [.bl true,.int 0])))) (df (.lst (List.replicate (dbC n 0 .non).length (.tup [.bl true,.int 0])))) (λψ hψ=>yw (((dbC n 0 .non).map dnR).map (rowB f1)) (λψ hψ=>⟨trivial,hψ⟩) f4 (by simp; omega) (λd hd=>?_) (by rw [Ml]; exact hψ)) (λψ hψ=>yw (((dbC n 0 .non).map dnR).map (rowB f1)) (λψ hψ=>⟨trivial,hψ⟩) (λ_=>some (.tup [.bl true,.int 0])) (by simp; omega) (λd hd=>?_) (by rw [rb]; simpa using hψ)) ⟨okt,okt,trivial,?_⟩
  ·obtain ⟨r,hr2,rfl⟩:=zah.mp hd
   exact jl ⟨λ_=>⟨(show ¬ (ZZ.sIx 5 0 (some 3)=0 /\ ZZ.sIx 5 5 none=5) by decide),trivial,rfl⟩,(λz=>(by cases z))⟩
  ·exact jl ⟨λ_=>⟨rfl,rfl,trivial,rfl⟩,(λz=>(by cases z))⟩
  ·show φ (dv (.bl (eqD _ _)))
   rw [t6 40 _ okt]
   exact h
def hte2:∀ σ H Q,(∀ v H',Same H H'->Q v H')->tC .non σ H Q:=λσ H Q h=>h _ _ (Same.refl _)
def N5 {n:Nat} {T:FT} {te:TD} {t:TDs} {ρ:DE} {φ:EV->Prop} (h:te ρ λr=>t ρ λrs=>Nat.beq (r :: rs).length n=true /\ T ((r :: rs).map EV.d) φ):Q6 n T (uu te t) ρ φ:=h
def Jc (C0 D0:List D) (most:Int) (h1:C0.length <= 100000) (h2:D0.length <= 100000):∃ ds l1 l2,fdW C0 D0 most=.tup ds /\ ds[2]?=some (.lst l1) /\ ds[3]?=some (.lst l2) /\ l1.length <= 100000 /\ l2.length <= 100000 :=
 ⟨_,_,_,rfl,rfl,rfl,by rw [List.length_take]; omega,by rw [List.length_take]; omega⟩
def Fk (T:Tops mg) (Ci:FDV P w K mg base 10 "trace" ["program", "name", "args", "most"] 1000 (sn C RT FzT)) (C6:FD P w K mg base 1 "_law_cell_at" ["_law_script", "_law_k"] P1) (C8:FD P w K mg base 1 "_law_number" ["_law_cell"] Hf) (Co:FD P w K mg base 1 "_law_names" ["_law_cell", "_law_many"] Ni) (Cu:FD P w K mg base 1 "_law_program" ["_law_way", "_law_far", "_law_names_here"] He) (Br:FD P w K mg base 2 "_law_due" ["_law_way", "_law_far", "_law_name", "_law_thing", "_law_number_here", "_law_size"] tDue) (Cq:FD P w K mg base 2 "_law_told" ["_law_found", "_law_due_here", "_law_most"] Nf) (Cj:FD P w K mg base 12 "_law_doubled_told" ["_law_names_here", "_law_number_here", "_law_most"] tDT) (Be:FD P w K mg base 10 "trace" ["program", "name", "args", "most"] (sn C RT FzT)) (F:Fun K "law" "law" (top 32) f fd):FnOk P w K mg base CX0 20 f fd ["_law_script"] (spD K 1 lawT):=by
 have S:zw ["_law_script", "_law_cell", "_law_number_here", "_law_most", "_law_way", "_law_names_here", "_law_cells", "_law_size", "_law_far", "_law_thing", "_law_due_here", "_law_program_here", "_law_handed", "_law_found"] ["_law_script"] (ze (top 32)):=by walk_at "f"
 refine Rj F S λqZ A outer s H E ds φ hr hl hT=>?_
 have hu:=hr.units
 refine ⟨_,(zf (yd (xm (xh hu (wr (bx (ya C6 (hr.mono (by decide)) (z0 (z9 0) (z0 zc za))) zc) zc) zc) (zf (yd (y0 1 S.nd (ya C6 (hr.mono (by decide)) (z0 (z9 0) (z0 zc za)))))
    (zf (yd (y0 2 S.nd (zh hu (yu (z0 (wr (bx (z9 1) zc) zc) (z0 zc za))) (ju T.int (z0 (Ow hu (wr (z9 1) zc) zc) za)))))
    (zf (yd (y0 3 S.nd (zh hu (yu (z0 zc (z0 (wg zc (wr (bx (z9 1) zc) zc)) (z0 (wr (bx (z9 1) zc) zc) za)))) (wr (bx (z9 1) zc) zc))))
    (zu (yg (ya Cj (hr.mono (by decide)) (z0 (ya Co (hr.mono (by decide)) (z0 (ya C6 (hr.mono (by decide)) (z0 (z9 0) (z0 zc za))) (z0 zc za))) (z0 (z9 2) (z0 (z9 3) za))))))))) yn))
   (zf (yd (y0 4 S.nd (wr (ya C6 (hr.mono (by decide)) (z0 (z9 0) (z0 zc za))) zc)))
   (zf (yd (y0 5 S.nd (ya Co (hr.mono (by decide)) (z0 (ya C6 (hr.mono (by decide)) (z0 (z9 0) (z0 zc za))) (z0 zc za)))))
   (zf (yd (y0 2 S.nd (ya C8 (hr.mono (by decide)) (z0 (ya C6 (hr.mono (by decide)) (z0 (z9 0) (z0 zc za))) za))))
   (zf (yd (y0 6 S.nd (x5 (z9 0) (x8 zc) (x8 zc))))
   (zf (yd (y0 7 S.nd zc))
   (zf (yd (y0 8 S.nd (wg zc (wr (ya C6 (hr.mono (by decide)) (z0 (z9 0) (z0 zc za))) zc))))
   (zf (yd (y0 9 S.nd (z9 2)))
   (zf (yd (xm (xh hu (z9 4) zc) (zu (y0 8 S.nd (ya C8 (hr.mono (by decide)) (z0 (ya C6 (hr.mono (by decide)) (z0 (z9 0) (z0 zc za))) za)))) yn))
   (zf (yd (Wm 6 (xm (xh hu (z9 4) zc) (zf (y0 9 S.nd (rj T.tuple (z0 (Oy (T:=["_law_cell"]) (F:=[]) (js:=[]) (v7 (z9 6)) (show y9 (ze (top 32)) _ ["_law_cell"] [] from by walk_at "c") .nil (by decide) (λcl C fp s H=>(y3 (i:=0) (show ((["_law_cell"]:List Str) ++ ([]:List Str)).Nodup by decide +kernel) rfl (by walk_at "o"))) (yy (by decide)) (yp 0) (λcl C fp s H=>xy) (λcl C fp s H=>(ya C8 (hr.mono (by decide)) (z0 (z9 0) za)))) za)))
    (zu (y0 7 S.nd (wj T.len (z0 (z9 6) za))))) yn)))
   (zf (yd (xm (Oq (z9 4) zc) (zf (y0 9 S.nd v8)
    (zu (sr (v7 (x5 (z9 6) wx (x8 (zh hu (yu (z0 zc (z0 zc za))) (tm (z9 4) zc))))) (y3 (i:=1) S.nd rfl (by walk_at "o")) (yp 1) (zf (y0 9 S.nd (zh hu (yu (z0 (zm (z0 (z9 9) (z0 (ya C8 (hr.mono (by decide)) (z0 (z9 1) za)) (z0 v8 za)))) (z0 (zm (z0 v8 (z0 (ya C8 (hr.mono (by decide)) (z0 (bx (z9 1) zc) za)) (z0 (z9 9) za)))) za))) (wr (z9 1) zc)))
     (zu (y0 7 S.nd (wg (z9 7) zc))))))) yn))
   (zf (yd (y0 3 S.nd zc))
   (zf (yd (xm (xh hu (wr (ya C6 (hr.mono (by decide)) (z0 (z9 0) (z0 zc za))) zc) zc) (zu (y0 3 S.nd (wr (bx (ya C6 (hr.mono (by decide)) (z0 (z9 0) (z0 zc za))) zc) zc))) yn))
   (zf (yd (y0 10 S.nd (ya Br (hr.mono (by decide)) (z0 (z9 4) (z0 (z9 8) (z0 (zh hu (z9 5) zc) (z0 (z9 9) (z0 (z9 2) (z0 (z9 7) za)))))))))
   (zf (yd (y0 11 S.nd (ya Cu (hr.mono (by decide)) (z0 (z9 4) (z0 (z9 8) (z0 (z9 5) za))))))
   (zf (yd (y0 12 S.nd (yu (z0 (z9 9) (z0 (z9 2) za)))))
   (Le 13 2 3 S.nd (ya Be (hr.mono (by decide)) (z0 (z9 11) (z0 (zh hu (z9 5) zc) (z0 (z9 12) (z0 (z9 3) za)))))
   (EW.et (u1 (v6 (xj (ya Cq (hr.mono (by decide)) (z0 (z9 13) (z0 (z9 10) (z0 (z9 3) za)))))) (t9 (Mo (Room.far hr) (z9 12) (yu (z0 (z9 9) (z0 (z9 2) za)))))))
   (zu (yg wy)) (K4 M3 hte2) Tw
   (zu (yg (ya Cq (hr.mono (by decide)) (z0 (Vl Ci (hr.mono (by decide)) (z0 (z9 11) (z0 (zh hu (z9 5) zc) (z0 (z9 12) za)))) (z0 (z9 10) (z0 zc za))))))))))))))))))))))),?_⟩
 obtain ⟨ns,rfl,hl1,h⟩:=hT
 have f9:∀ (x:Int) (y:Int),y ≠ 0->y.natAbs <= 1000->FdOk x y:=λx y a b=>of_eq_true (Mi a (by omega))
 refine zx (λρ=>ρ=[zd (.scr ns),none,none,none,none,none,none,none,none,none,none,none,none,none]) ?_ ?_
 ·refine ⟨rfl,by decide,f9 _ _ (by decide) (by decide),(show (4:Int) ≠ 0 by decide),zg ▸ trivial,zg ▸ trivial,λ_=>?_,λ_=>rfl⟩
  refine zx (λρ=>∃ c,ρ=[zd (.scr ns),zi c,none,none,none,none,none,none,none,none,none,none,none,none]) ⟨rfl,by decide,trivial,_,rfl⟩ ?_
  rintro _ ⟨c,rfl⟩
  refine zx (λρ=>∃ n:Nat,n <= 8 /\ ρ=[zd (.scr ns),zi c,zi (n:Nat),none,none,none,none,none,none,none,none,none,none,none]) ?_ ?_
  ·refine ⟨f9 _ _ (by decide) (by decide),(show (6:Int) ≠ 0 by decide),rfl,rfl,(show (4:Int) ≠ 0 by decide),zg ▸ trivial,zg ▸ trivial,?_⟩
   refine (show sIxx (.lst [.int ((c.fdiv 4).fmod 6),.int 8]) (.int (if eqD (.int (c.fmod 4)) (.int 1) then 1 else 0)) (λr=>_ /\ ∃ n:Nat,n <= 8 /\ setS [zd (.scr ns),zi c,none,none,none,none,none,none,none,none,none,none,none,none] 2 r.sto=[zd (.scr ns),zi c,zi (n:Nat),none,none,none,none,none,none,none,none,none,none,none]) from ?_)
   cases eqD (.int (c.fmod 4)) (.int 1) with
   | true=>exact ⟨trivial,8,by decide,rfl⟩
   | false =>
    have mb:=ve (c.fdiv 4) 6 (by decide)
    obtain ⟨n,en⟩:∃ n:Nat,(c.fdiv 4).fmod 6=(n:Int):=⟨((c.fdiv 4).fmod 6).toNat,by omega⟩
    rw [en]
    exact ⟨trivial,n,by omega,rfl⟩
  rintro _ ⟨n,hn,rfl⟩
  refine zx (λρ=>∃ most:Int,0 <= most /\ ρ=[zd (.scr ns),zi c,zi (n:Nat),zi most,none,none,none,none,none,none,none,none,none,none]) ?_ ?_
  ·refine ⟨f9 _ _ (by decide) (by decide),(show (4000:Int) ≠ 0 by decide),f9 _ _ (by decide) (by decide),(show (300:Int) ≠ 0 by decide),rfl,rfl,f9 _ _ (by decide) (by decide),(show (3:Int) ≠ 0 by decide),?_⟩
   have m1:=ve (c.fdiv 72) 4000 (by decide)
   have m2:=ve (c.fdiv 72) 300 (by decide)
   have m3:=ve (c.fdiv 24) 3 (by decide)
   refine (show sIxx (.lst [.int 1000,.int (1001 + (c.fdiv 72).fmod 4000),.int ((c.fdiv 72).fmod 300)]) (.int ((c.fdiv 24).fmod 3)) (λr=>_ /\ ∃ most:Int,0 <= most /\ setS [zd (.scr ns),zi c,zi (n:Nat),none,none,none,none,none,none,none,none,none,none,none] 3 r.sto=[zd (.scr ns),zi c,zi (n:Nat),zi most,none,none,none,none,none,none,none,none,none,none]) from ?_)
   rcases (show (c.fdiv 24).fmod 3=0 \/ (c.fdiv 24).fmod 3=1 \/ (c.fdiv 24).fmod 3=2 by omega) with e | e | e <;> rw [e]
   ·exact ⟨trivial,_,by decide,rfl⟩
   ·exact ⟨trivial,_,by omega,rfl⟩
   ·exact ⟨trivial,_,m2.1,rfl⟩
  rintro _ ⟨most,m0,rfl⟩
  refine ⟨rfl,by decide,rfl,_,4,rfl,by decide,λzs l nd=>?_⟩
  match zs,l,nd with
  | [a,b,d,e],_,nd=>exact ⟨rfl,a,b,d,e,n,most,rfl,hn,m0,trivial,h⟩
 rintro _ rfl
 have wb:=ve (ns.getD 0 0) 4 (by decide)
 obtain ⟨w,ew⟩:∃ w:Nat,(ns.getD 0 0).fmod 4=(w:Int):=⟨((ns.getD 0 0).fmod 4).toNat,by omega⟩
 have hw:w <= 3:=by omega
 clear wb
 refine zx (λρ=>ρ=[zd (.scr ns),none,none,none,zi (w:Nat),none,none,none,none,none,none,none,none,none]) ?_ ?_
 ·refine ⟨rfl,by decide,(show (4:Int) ≠ 0 by decide),trivial,?_⟩
  show setS _ 4 (dv (.int ((ns.getD 0 0).fmod 4)))=_
  rw [ew]
  rfl
 rintro _ rfl
 clear ew
 refine zx (λρ=>∃ f x nn y:Str,[f,x,nn,y].Nodup /\ ρ=[zd (.scr ns),none,none,none,zi (w:Nat),zo ([.str f,.str x,.str nn,.str y]),none,none,none,none,none,none,none,none]) ?_ ?_
 ·refine ⟨rfl,by decide,rfl,ns.getD 1 0,4,rfl,by decide,λzs l nd=>⟨trivial,?_⟩⟩
  match zs,l,nd with
  | [a,b,c,d],_,nd=>exact ⟨a,b,c,d,nd,rfl⟩
 rintro _ ⟨f,x,nn,y,nd,rfl⟩
 refine zx (λρ=>∃ num,ρ=[zd (.scr ns),none,zi num,none,zi (w:Nat),zo ([.str f,.str x,.str nn,.str y]),none,none,none,none,none,none,none,none]) ⟨rfl,by decide,rfl,_,rfl,λn=>⟨trivial,n,rfl⟩⟩ ?_
 rintro _ ⟨num,rfl⟩
 refine zx (λρ=>∃ cs:List Int,cs.length <= 40 /\ ρ=[zd (.scr ns),none,zi num,none,zi (w:Nat),zo ([.str f,.str x,.str nn,.str y]),zo (cs.map D.int),none,none,none,none,none,none,none]) ?_ ?_
 ·refine ⟨trivial,(ns.drop 5).take 40,by rw [List.length_take]; omega,?_⟩
  show setS _ 6 (dO (.lst (cutD (ns.map D.int) (some 5) (some 45))))=_
  rw [show cutD (ns.map D.int) (some 5) (some 45)=((ns.map D.int).drop 5).take (45 - 5) from N3 _ 5 45,List.map_take,List.map_drop]
  rfl
 rintro _ ⟨cs,hcs,rfl⟩
 refine zx (λρ=>ρ=[zd (.scr ns),none,zi num,none,zi (w:Nat),zo ([.str f,.str x,.str nn,.str y]),zo (cs.map D.int),zi (0:Nat),none,none,none,none,none,none]) ⟨trivial,rfl⟩ ?_
 rintro _ rfl
 refine zx (λρ=>∃ fn:Nat,1 <= fn /\ fn <= 4 /\ ρ=[zd (.scr ns),none,zi num,none,zi (w:Nat),zo ([.str f,.str x,.str nn,.str y]),zo (cs.map D.int),zi (0:Nat),zi (fn:Nat),none,none,none,none,none]) ?_ ?_
 ·have mb:=ve (ns.getD 3 0) 4 (by decide)
  obtain ⟨q,eq⟩:∃ q:Nat,1 + (ns.getD 3 0).fmod 4=(q:Int):=⟨(1 + (ns.getD 3 0).fmod 4).toNat,by omega⟩
  refine ⟨rfl,by decide,(show (4:Int) ≠ 0 by decide),trivial,q,by omega,by omega,?_⟩
  show setS _ 8 (dv (.int (1 + (ns.getD 3 0).fmod 4)))=_
  rw [eq]
  rfl
 rintro _ ⟨fn,hf1,hf4,rfl⟩
 refine zx (λρ=>ρ=[zd (.scr ns),none,zi num,none,zi (w:Nat),zo ([.str f,.str x,.str nn,.str y]),zo (cs.map D.int),zi (0:Nat),zi (fn:Nat),zi num,none,none,none,none]) ⟨trivial,rfl⟩ ?_
 rintro _ rfl
 refine zx (λρ=>∃ far:Int,(w ≠ 0->far=(fn:Nat)) /\ ρ=[zd (.scr ns),none,zi num,none,zi (w:Nat),zo ([.str f,.str x,.str nn,.str y]),zo (cs.map D.int),zi (0:Nat),zi far,zi num,none,none,none,none]) ?_ ?_
 ·refine vg (eqD (.int (w:Nat)) (.int 0)) (λψ hψ=>⟨zg ▸ trivial,zg ▸ trivial,hψ⟩) (λz=>?_) (λz=>qf ⟨_,λ_=>rfl,rfl⟩)
  have e:w=0:=by
   have:=beq_iff_eq.mp (show ((w:Int) == 0)=true from z)
   omega
  exact ⟨rfl,by decide,rfl,_,rfl,λn=>⟨trivial,n,λz=>absurd e z,rfl⟩⟩
 rintro _ ⟨far,hfar,rfl⟩
 refine zx (λρ=>∃ (th:D) (s:Nat),((w=1 /\ ∃ l:List Int,l.length <= 40 /\ s=l.length /\ th=.tup (l.map D.int)) \/ (w ≠ 1 /\ s=0 /\ th=.int num)) /\ ρ=[zd (.scr ns),none,zi num,none,zi (w:Nat),zo ([.str f,.str x,.str nn,.str y]),zl (cs.map D.int),zi (s:Nat),zi far,zd th,none,none,none,none]) ?_ ?_
 ·refine Td ?_
  refine vg (eqD (.int (w:Nat)) (.int 1)) (λψ hψ=>⟨zg ▸ trivial,zg ▸ trivial,hψ⟩) (λz=>?_) (λz=>qf ⟨.int num,0,.inr ⟨?_,rfl,rfl⟩,rfl⟩)
  ·have e:w=1:=by
    have:=beq_iff_eq.mp (show ((w:Int) == 1)=true from z)
    omega
   refine uj (c5 (N0 (Q4 (cs.map D.int) (λψ hψ=>⟨trivial,hψ⟩) (λi es=>∃ zs:List Int,es=zs.map D.int /\ zs.length=i) (by rw [zLm]; omega) ⟨[],rfl,rfl⟩ ?_ ?_)))
   ·rintro i d _ hd _ ⟨zs,rfl,lz⟩
    obtain ⟨z,_,rfl⟩:=zah.mp (zan hd)
    exact jl ⟨λ_=>⟨rfl,_,rfl,λn=>⟨trivial,zs ++ [n],by rw [zMa]; rfl,by rw [zLa,lz]; rfl⟩⟩,(λz=>(by cases z))⟩
   ·rintro _ ⟨zs,rfl,lz⟩
    rw [zLm] at lz
    refine ⟨trivial,?_⟩
    refine (show True /\ _ from ⟨trivial,_,zs.length,.inl ⟨e,zs,by omega,rfl,rfl⟩,?_⟩)
    show setS _ 7 (dv (.int ((cs.map D.int).length:Nat)))=_
    rw [zLm,<- lz]
    rfl
  ·intro e
   have:((w:Int) == 1)=false:=z
   rw [e] at this
   cases this
 rintro _ ⟨th1',s1',hts,rfl⟩
 refine zx (λρ=>∃ th sz inn ov far b a,ug w far num th sz inn ov /\ sz 0 <= 100 /\ FzT (.str (shW w)) (th 0) /\ WB w far f x nn y b /\ ρ=[zd (.scr ns),a,zi num,none,zi (w:Nat),zo ([.str f,.str x,.str nn,.str y]),zl (cs.map D.int),zi (sz 0:Nat),zi far,zd (th 0),none,none,none,none]) ?_ ?_
 ·refine vg (decide ((w:Int) > 1)) (λψ hψ=>hψ) (λz=>?_) (λz=>qf ?_)
  ·have z:=of_decide_eq_true z
   have hw2:w=2 \/ w=3:=by omega
   have ef:=hfar (by omega)
   subst ef
   rcases hts with ⟨e,_⟩ | ⟨_,rfl,rfl⟩
   ·omega
   refine xc ⟨trivial,?_⟩
   obtain ⟨q,hq,ecs⟩:∃ q:Nat,q <= 40 /\ ∀ ψ:List D->Prop,ψ ((cs.map D.int).take q)->iSeq (dSl (ut 6) Kp (Ko (d2 sIxx (dLst (uu (dC (.int 19)) (uu (dC (.int 40)) aNil))) (d2 sSub (ut 4) (dC (.int 2)))))) (setS [zd (.scr ns),none,zi num,none,zi (w:Nat),zo ([.str f,.str x,.str nn,.str y]),zl (cs.map D.int),zi (0:Nat),zi (fn:Nat),zi num,none,none,none,none] 9 (dv .non)) ψ:=by
    rcases hw2 with rfl | rfl
    ·refine ⟨19,by decide,λψ hψ=>⟨rfl,rfl,trivial,?_⟩⟩
     show ψ (cutD (cs.map D.int) none (some (19:Nat)))
     rw [u6]
     exact hψ
    ·refine ⟨40,by decide,λψ hψ=>⟨rfl,rfl,trivial,?_⟩⟩
     show ψ (cutD (cs.map D.int) none (some (40:Nat)))
     rw [u6]
     exact hψ
   refine vm ((cs.map D.int).take q) ecs (λi ρ=>∃ (t:Tr) (a:Option EV),t.nodes=i /\ t.dep <= i /\ ρ=[zd (.scr ns),a,zi num,none,zi (w:Nat),zo ([.str f,.str x,.str nn,.str y]),zl (cs.map D.int),zi (i:Nat),zi (fn:Nat),zd t.d,none,none,none,none]) ⟨.lf,none,rfl,zaj _,rfl⟩ ?_ ?_
   ·rintro i d _ hd ⟨t,a,tn,td,rfl⟩
    obtain ⟨c,_,rfl⟩:=zah.mp (List.mem_of_mem_take (zan hd))
    refine jl ?_
    refine xc ⟨rfl,c,rfl,λn1=>⟨rfl,rfl,f9 _ _ (by decide) (by decide),rfl,_,rfl,λn2=>⟨rfl,rfl,rfl,rfl,(show (2:Int) ≠ 0 by decide),?_⟩⟩⟩
    have mb:=ve c 2 (by decide)
    have es:(D.int (((i:Nat):Int) + 1))=.int ((i + 1:Nat):Int):=by rw [show ((i:Nat):Int) + 1=((i + 1:Nat):Int) by omega]
    have go:∀ t2:Tr,t2.nodes=i + 1->t2.dep <= i + 1->sSet 7 (d2 sAdd (ut 7) (dC (.int 1))) [zd (.scr ns),zi c,zi num,none,zi (w:Nat),zo ([.str f,.str x,.str nn,.str y]),zl (cs.map D.int),zi (i:Nat),zi (fn:Nat),zd t2.d,none,none,none,none] { nx:=λρ=>∃ (t:Tr) (a:Option EV),t.nodes=i + 1 /\ t.dep <= i + 1 /\ ρ=[zd (.scr ns),a,zi num,none,zi (w:Nat),zo ([.str f,.str x,.str nn,.str y]),zl (cs.map D.int),zi (i + 1:Nat),zi (fn:Nat),zd t.d,none,none,none,none],rt:=λr=>uc r /\ φ r,bk:=λ_=>False,ct:=λ_=>False }:=λt2 h1 h2=>by
     refine ⟨trivial,t2,zi c,h1,h2,?_⟩
     show setS _ 7 (dv (.int (((i:Nat):Int) + 1)))=_
     rw [es]
     rfl
    refine (show sIxx (.lst [.tup [t.d,.int n1,.non],.tup [.non,.int n2,t.d]]) (.int (c.fmod 2)) _ from ?_)
    rcases (show c.fmod 2=0 \/ c.fmod 2=1 by omega) with e | e <;> rw [e]
    ·exact ⟨trivial,go (.nd t n1 .lf) (by show 1 + t.nodes + 0=i + 1; omega) (by show 1 + max t.dep 0 <= i + 1; omega)⟩
    ·exact ⟨trivial,go (.nd .lf n2 t) (by show 1 + 0 + t.nodes=i + 1; omega) (by show 1 + max 0 t.dep <= i + 1; omega)⟩
   ·rintro _ ⟨t,a,tn,td,rfl⟩
    have lq:((cs.map D.int).take q).length <= 40:=by rw [List.length_take]; omega
    rcases hw2 with rfl | rfl
    ·refine ⟨λk=>(T2 t num k).d,λk=>(T2 t num k).nodes,in2 t num,ov2 t num,(fn:Nat),bd2 f x nn y,a,.inr ⟨fn,rfl,hf1,hf4,.inr (.inl ⟨rfl,t,by omega,by omega,rfl,rfl,rfl,rfl⟩)⟩,(show t.nodes <= 100 by omega),.inr (.inr ⟨rfl,t,rfl,by omega⟩),.inr ⟨fn,rfl,hf1,hf4,.inr (.inl ⟨rfl,rfl⟩)⟩,?_⟩
     rw [<- tn]
     rfl
    ·refine ⟨λk=>(T3 t num fn k).d,λk=>t.nodes + k * fn,in3 t.nodes fn,ov1 t.nodes fn,(fn:Nat),bd3 f x nn fn,a,.inr ⟨fn,rfl,hf1,hf4,.inr (.inr ⟨rfl,t,by omega,by omega,rfl,rfl,rfl,rfl⟩)⟩,(show t.nodes + 0 * fn <= 100 by omega),.inr (.inr ⟨rfl,t,rfl,by omega⟩),.inr ⟨fn,rfl,hf1,hf4,.inr (.inr ⟨rfl,rfl⟩)⟩,?_⟩
     rw [<- tn]
     simp only [Nat.zero_mul,Nat.add_zero]
     rfl
  ·have z:=of_decide_eq_false z
   rcases hts with ⟨rfl,l,hl,rfl,rfl⟩ | ⟨h1,rfl,rfl⟩
   ·have ef:=hfar (by decide)
    subst ef
    refine ⟨th1 l num fn,λk=>l.length + k * fn,in1 l.length fn,ov1 l.length fn,(fn:Nat),bd1 f x nn fn,none,.inr ⟨fn,rfl,hf1,hf4,.inl ⟨rfl,l,by omega,rfl,rfl,rfl,rfl⟩⟩,(show l.length + 0 * fn <= 100 by omega),.inr (.inl ⟨rfl,l,rfl,by omega⟩),.inr ⟨fn,rfl,hf1,hf4,.inl ⟨rfl,rfl⟩⟩,?_⟩
    simp only [Nat.zero_mul,Nat.add_zero]
    rfl
   ·have e0:w=0:=by omega
    subst e0
    have et:th0 num far 0=.int num:=by unfold th0; simp
    refine ⟨th0 num far,λ_=>0,in0,λ_=>false,far,bd0 f x nn far,none,.inl ⟨rfl,num,rfl,rfl,rfl,rfl⟩,Nat.zero_le _,.inl ⟨rfl,num,et⟩,.inl ⟨rfl,rfl⟩,?_⟩
    rw [et]
 clear hfar hts
 rintro _ ⟨th,sz,inn,ov,far,b,a,hF,hs,hz,hW,rfl⟩
 refine zx (λρ=>ρ=[zd (.scr ns),a,zi num,zi 5000,zi (w:Nat),zo ([.str f,.str x,.str nn,.str y]),zl (cs.map D.int),zi (sz 0:Nat),zi far,zd (th 0),none,none,none,none]) ⟨trivial,rfl⟩ ?_
 rintro _ rfl
 refine zx (λρ=>∃ most:Int,0 <= most /\ ρ=[zd (.scr ns),a,zi num,zi most,zi (w:Nat),zo ([.str f,.str x,.str nn,.str y]),zl (cs.map D.int),zi (sz 0:Nat),zi far,zd (th 0),none,none,none,none]) ?_ ?_
 ·refine ⟨rfl,by decide,(show (2:Int) ≠ 0 by decide),zg ▸ trivial,zg ▸ trivial,λ_=>?_,λ_=>⟨5000,by decide,rfl⟩⟩
  exact ⟨rfl,by decide,f9 _ _ (by decide) (by decide),(show (70:Int) ≠ 0 by decide),trivial,_,(ve _ 70 (by decide)).1,rfl⟩
 rintro _ ⟨most,m0,rfl⟩
 refine zx (λρ=>ρ=[zd (.scr ns),a,zi num,zi most,zi (w:Nat),zo ([.str f,.str x,.str nn,.str y]),zl (cs.map D.int),zi (sz 0:Nat),zi far,zd (th 0),zd (.tup [.lst (dueC f num th ov 20 0),.lst (dueS inn ov 20 0)]),none,none,none]) ⟨rfl,w,far,num,th,sz,inn,ov,f,hF,hs,rfl,trivial,rfl⟩ ?_
 rintro _ rfl
 refine zx (λρ=>ρ=[zd (.scr ns),a,zi num,zi most,zi (w:Nat),zo ([.str f,.str x,.str nn,.str y]),zl (cs.map D.int),zi (sz 0:Nat),zi far,zd (th 0),zd (.tup [.lst (dueC f num th ov 20 0),.lst (dueS inn ov 20 0)]),zd (.tup [fnW f x nn w b]),none,none]) ⟨rfl,w,far,f,x,nn,y,b,rfl,hW,trivial,rfl⟩ ?_
 rintro _ rfl
 refine zx (λρ=>ρ=[zd (.scr ns),a,zi num,zi most,zi (w:Nat),zo ([.str f,.str x,.str nn,.str y]),zl (cs.map D.int),zi (sz 0:Nat),zi far,zd (th 0),zd (.tup [.lst (dueC f num th ov 20 0),.lst (dueS inn ov 20 0)]),zd (.tup [fnW f x nn w b]),zo ([th 0,.int num]),none]) ⟨rfl,rfl,trivial,rfl⟩ ?_
 rintro _ rfl
 have okH:okD 150 (.lst [th 0,.int num]):=by
  rw [tz (by decide)]
  intro d hd
  simp only [zam,List.not_mem_nil,or_false] at hd
  rcases hd with rfl | rfl
  ·exact M7 (Mj hF (by omega)) (by omega)
  ·trivial
 have lc:=Z0 (f:=f) (num:=num) (th:=th) (ov:=ov) 20 0
 have ls:=bz hF 20 0
 refine zx (λρ=>ρ=[zd (.scr ns),a,zi num,zi most,zi (w:Nat),zo ([.str f,.str x,.str nn,.str y]),zl (cs.map D.int),zi (sz 0:Nat),zi far,zd (th 0),zd (.tup [.lst (dueC f num th ov 20 0),.lst (dueS inn ov 20 0)]),zd (.tup [fnW f x nn w b]),zo ([th 0,.int num]),none]) ?_ ?_
 ·refine ⟨rfl,Za hF hW nd m0 hz ⟨rfl,(show 13 < 14 by decide),?_⟩⟩
  exact wk (λψ hψ=>Jp (N2 [dv (fdW (dueC f num th ov 20 0) (dueS inn ov 20 0) most),dv (.tup [.lst (dueC f num th ov 20 0),.lst (dueS inn ov 20 0)]),dv (.int most)] (λψ hψ=>hψ) rfl ⟨w,far,num,th,sz,inn,ov,f,most,hF,m0,rfl,hψ⟩)) (λψ hψ=>kz (kg (dO (.lst [th 0,.int num])) (df (.lst [th 0,.int num])) (λψ hψ=>hψ) (λψ hψ=>⟨rfl,rfl,hψ⟩) (Tc okH hψ))) ⟨rfl,Jc _ _ _ (by omega) (by omega),rfl⟩
 rintro _ rfl
 refine vk (N5 ⟨rfl,Za hF hW nd (by decide) hz ⟨rfl,w,far,num,th,sz,inn,ov,f,1000,hF,by decide,rfl,?_⟩⟩)
 exact ⟨trivial,h⟩
section
open PySem.W PySem.PyData
def hl1:LeftO PySem.Challenge.pw_toll_k16_cut_deep_and_great zq ["trace"] zX (Hook.obs (kHook zK zA zAK)) (Hook.val (kHook zK zA zAK)) 4346:=by
 intro w; rw [Fast.te4187177175401517315,Fast.te5923862056798008813,Fast.te14364793385576792824]; exact hl0 w
def said:PySem.Challenge.rw_toll_k16_cut_deep_and_great.wellSaid=true:=by kernel_rfl
def zD:DefRec:=match top 32 with | .FunctionDef n a b _ _ _ c _ _ p=>⟨n,a,b,c,p⟩ | _=>⟨"", ⟨[],[],none,[],[],none,[]⟩,[],⟨.function,[],false,false,[]⟩,⟨0,0,0,0⟩⟩
def opened (hc:WalkO zq ["trace"] (XL zq []) (Hook.says (kHook zK zA zAK)) PySem.Challenge.rw_toll_k16_cut_deep_and_great.row.toRowW zD [] (λf vs=>PySem.call f vs)):PySem.Challenge.rw_toll_k16_cut_deep_and_great.Holds:=by
 refine holds_law said λsd=>holds_open (q:=zq) (loose:=["trace"]) (Xt:=zX) (XP:=XL zq []) (d:=zD) (kwd:=[]) (Yf:=Hook.obs (kHook zK zA zAK)) (Ya:=Hook.val (kHook zK zA zAK)) (YP:=Hook.says (kHook zK zA zAK)) (N:=4346) hl1 (Hook.of (kHook zK zA zAK)) (Hook.keeps (kHook zK zA zAK)) (λs e=>xl_of s (Bool.and_eq_true_iff.mp e).1) XL.keeps (by kernel_rfl) (by kernel_rfl) (by kernel_rfl) (λs e=>recFacts_of (Bool.and_eq_true_iff.mp e).2) (by kernel_rfl) sd (by kernel_rfl) ⟨rfl,rfl,rfl,rfl,rfl,by decide +kernel⟩ ?hw hc
 case hw=>w_witness2
end
def gk (T:Tops mg) (F:Fun K "_law_cell_at" "_law_cell_at" (top 19) f fd) (m:mg "_law_cell_at" = some (.ref f)):FD P w K mg base 1 "_law_cell_at" ["_law_script", "_law_k"] P1:=by
 have S:zw ["_law_script", "_law_k"] ["_law_script", "_law_k"] (ze (top 19)):=by walk_at "f"
 refine ub F S (F.binds λ_ _ _ _ _ _ us hl=>(by obtain ⟨_,_,rfl⟩:=sy hl; rfl)) m λqZ A outer s H E ds φ hr hl hT=>?_
 have hu:=hr.units
 refine ⟨_,(zf (xm (En (z9 1) (wj T.len (z0 (z9 0) za))) (zu (yg (zh hu (z9 0) (z9 1)))) yn)
   (zu (yg zc))),?_⟩
 obtain ⟨ns,k,rfl,h⟩:=Qz hT
 walk_at "dl"
 refine ⟨λhk=>?_,λhk=>?_⟩
 ·have hk':k < ns.length:=by omega
  rw [tu (x:=ns[k]) (by omega) (by simp [hk'])]
  rw [show ns.getD k 0=ns[k] by simp [List.getD,hk']] at h
  exact h
 ·have hk':ns.length <= k:=by omega
  rw [show ns.getD k 0=0 by simp [List.getD,hk']] at h
  exact h
abbrev NsA (K:W.Frag) (x:Str) (f:Addr):Prop:=W.nsIn K mainGlobals x=some (some (.ref f))
abbrev NnA (K:W.Frag) (x:Str):Prop:=W.nsIn K mainGlobals x=some none
abbrev FdA (K:W.Frag) (C:Addr) (x:Str) (f:Addr):Prop:=W.findIn K (.ref C) x=some (some (.ref f))
def FnA (K:W.Frag) (x q:Str) (st:Stmt) (f:Addr):Prop:=(∃ fd,Fun K x q st f fd) /\ W.keepIn K (.ref f)=true
def fna_mk {K:W.Frag} {x q:Str} {st:Stmt} {f:Addr} {od an:Option Addr} {sl:Array (Option Value)} {oc kV dc pm cd ct:Value} (l:K.lookup f=some ⟨oc,od,.func (W.fnOf x q (wz st) (yq st) (ze st) .none kV dc pm an cd ct),sl⟩) (c:W.codeIn K cd q=true) (k:W.keepIn K (.ref f)=true):FnA K x q st f:=⟨⟨_,Mg l c k⟩,k⟩
def all_mk {l:W.OpenLaw} {w:World} {K:W.Frag} {h:Heap} {mg:Str->Option Value} {fa:Addr} (X:K.In h) (G:h.Ns mainGlobals mg) (hfa:mg "law" = some (.ref fa)) {f1 f2 f3 f4 f5 f6 f7 f8 f9 f10 f11 f12 f13 f14 f15 f16 f17 f18 f19 f20 f21 g0 g1 g2 g3 g4 g5 g6 g7 g8 g9 g11 g12 g13 g14 g15 g16 g17:Addr} {od21 an21:Option Addr} {sl21:Array (Option Value)} {oc21 kV21 dc21 pm21 cd21 ct21:Value} {ft Tt:Addr} {nT:Nat} {tk:Tok} {odt ant:Option Addr} {slt slT:Array (Option Value)} {oct kVt dct pmt cdt ctt:Value} {C:Addr} {tq tr:Tok} (a1:NsA K "is_whole" f1) (l1:FnA K "is_whole" "is_whole" (top 5) f1) (a2:NsA K "is_tree" f2) (l2:FnA K "is_tree" "is_tree" (top 9) f2) (a3:NsA K "fits" f3) (l3:FnA K "fits" "fits" (top 8) f3) (a4:NsA K "nodes_of" f4) (l4:FnA K "nodes_of" "nodes_of" (top 11) f4) (a5:NsA K "size_of" f5) (l5:FnA K "size_of" "size_of" (top 10) f5) (a6:NsA K "function_of" f6) (l6:FnA K "function_of" "function_of" (top 6) f6) (a7:NsA K "check_args" f7) (l7:FnA K "check_args" "check_args" (top 16) f7) (a8:NsA K "_law_cell_at" f8) (l8:FnA K "_law_cell_at" "_law_cell_at" (top 19) f8) (a9:NsA K "_law_number" f9) (l9:FnA K "_law_number" "_law_number" (top 20) f9) (a10:NsA K "_law_names" f10) (l10:FnA K "_law_names" "_law_names" (top 21) f10) (a11:NsA K "_law_program" f11) (l11:FnA K "_law_program" "_law_program" (top 22) f11) (a12:NsA K "_law_next" f12) (l12:FnA K "_law_next" "_law_next" (top 23) f12) (a13:NsA K "_law_inner" f13) (l13:FnA K "_law_inner" "_law_inner" (top 24) f13) (a14:NsA K "_law_over" f14) (l14:FnA K "_law_over" "_law_over" (top 25) f14) (a15:NsA K "_law_due" f15) (l15:FnA K "_law_due" "_law_due" (top 26) f15) (a16:NsA K "_law_whole" f16) (l16:FnA K "_law_whole" "_law_whole" (top 27) f16) (a17:NsA K "_law_told" f17) (l17:FnA K "_law_told" "_law_told" (top 28) f17) (a18:NsA K "_law_doubling" f18) (l18:FnA K "_law_doubling" "_law_doubling" (top 29) f18) (a19:NsA K "_law_doubled" f19) (l19:FnA K "_law_doubled" "_law_doubled" (top 30) f19) (a20:NsA K "_law_doubled_told" f20) (l20:FnA K "_law_doubled_told" "_law_doubled_told" (top 31) f20)
  (a21:W.nsIn K mainGlobals "law" = some (some (.ref f21))) (l21:K.lookup f21=some ⟨oc21,od21,.func (W.fnOf "law" "law" (wz (top 32)) (yq (top 32)) (ze (top 32)) .none kV21 dc21 pm21 an21 cd21 ct21),sl21⟩) (c21:W.codeIn K cd21 "law" = true) (k21:W.keepIn K (.ref f21)=true)
  (at_:W.nsIn K mainGlobals "trace" = some (some (.ref ft))) (lt:K.lookup ft=some ⟨oct,odt,.func (W.fnOf "trace" "trace" (wz (top 15)) (yq (top 15)) (ze (top 15)) (.ref Tt) kVt dct pmt ant cdt ctt),slt⟩) (ct_:W.codeIn K cdt "trace" = true) (kt:W.keepIn K (.ref ft)=true) (lT:K.lookup Tt=some ⟨.type "tuple", none,.seq #[.int 1000 tk] nT,slT⟩)
  (aC:W.nsIn K mainGlobals "Run" = some (some (.ref C))) (b0:FdA K C "__init__" g0) (i0:W.isFn K (.ref g0)=true) (m0:FnA K "__init__" "Run.__init__" (mth 0) g0) (b1:FdA K C "told" g1) (i1:W.isFn K (.ref g1)=true) (m1:FnA K "told" "Run.told" (mth 1) g1) (b2:FdA K C "go" g2) (i2:W.isFn K (.ref g2)=true) (m2:FnA K "go" "Run.go" (mth 2) g2) (b3:FdA K C "step" g3) (i3:W.isFn K (.ref g3)=true) (m3:FnA K "step" "Run.step" (mth 3) g3) (b4:FdA K C "own_step" g4) (i4:W.isFn K (.ref g4)=true) (m4:FnA K "own_step" "Run.own_step" (mth 4) g4) (b5:FdA K C "standing" g5) (i5:W.isFn K (.ref g5)=true) (m5:FnA K "standing" "Run.standing" (mth 5) g5) (b6:FdA K C "stand" g6) (i6:W.isFn K (.ref g6)=true) (m6:FnA K "stand" "Run.stand" (mth 6) g6) (b7:FdA K C "taken" g7) (i7:W.isFn K (.ref g7)=true) (m7:FnA K "taken" "Run.taken" (mth 7) g7) (b8:FdA K C "behind" g8) (i8:W.isFn K (.ref g8)=true) (m8:FnA K "behind" "Run.behind" (mth 8) g8) (b9:FdA K C "begin_body" g9) (i9:W.isFn K (.ref g9)=true) (m9:FnA K "begin_body" "Run.begin_body" (mth 9) g9) (b11:FdA K C "bring" g11) (i11:W.isFn K (.ref g11)=true) (m11:FnA K "bring" "Run.bring" (mth 11) g11) (b12:FdA K C "choose" g12) (i12:W.isFn K (.ref g12)=true) (m12:FnA K "choose" "Run.choose" (mth 12) g12) (b13:FdA K C "begin_value" g13) (i13:W.isFn K (.ref g13)=true) (m13:FnA K "begin_value" "Run.begin_value" (mth 13) g13) (b14:FdA K C "apply" g14) (i14:W.isFn K (.ref g14)=true) (m14:FnA K "apply" "Run.apply" (mth 14) g14) (b15:FdA K C "make" g15) (i15:W.isFn K (.ref g15)=true) (m15:FnA K "make" "Run.make" (mth 15) g15) (b16:FdA K C "enter" g16) (i16:W.isFn K (.ref g16)=true) (m16:FnA K "enter" "Run.enter" (mth 16) g16) (b17:FdA K C "leave" g17) (i17:W.isFn K (.ref g17)=true) (m17:FnA K "leave" "Run.leave" (mth 17) g17)
  (pg:W.plainGet K C Str.empty=true) (hd:W.hasDictIn K C=true) (po:W.plainOver K C=true) (sa:W.findIn K (.ref C) "__setattr__" = some (some (.builtin "object.__setattr__"))) (mk:W.makesIn K C=true) (kc:W.keepIn K (.ref C)=true) (nf0:W.findIn K (.ref C) "functions" = some none) (nf1:W.findIn K (.ref C) "most" = some none) (nf2:W.findIn K (.ref C) "calls" = some none) (nf3:W.findIn K (.ref C) "steps" = some none) (nf4:W.findIn K (.ref C) "frames" = some none) (nf5:W.findIn K (.ref C) "tasks" = some none) (nf6:W.findIn K (.ref C) "ready" = some none) (nf7:W.findIn K (.ref C) "is_cut" = some none) (bQ:W.nsIn K mainGlobals "MOST_CALLS" = some (some (.int 20 tq))) (bR:W.nsIn K mainGlobals "MOST_SIZE" = some (some (.int 100 tr))) (z_ValueError:NnA K "ValueError") (z_all:NnA K "all") (z_bool:NnA K "bool") (z_dict:NnA K "dict") (z_int:NnA K "int") (z_isinstance:NnA K "isinstance") (z_len:NnA K "len") (z_list:NnA K "list") (z_min:NnA K "min") (z_range:NnA K "range") (z_reversed:NnA K "reversed") (z_tuple:NnA K "tuple") (z_zip:NnA K "zip") :
  ∃ fd:FuncData,(∀ (s:Shared) (v:Value),BindsTo s fd ⟨[v],[]⟩ [("_law_script", v)]) /\ ∀ base:Heap,K.In base->base.Ns mainGlobals mg->FnOk l.prog w K mg base CX0 20 fa fd ["_law_script"] (spD K 1 lawT):=by
 have e:=hfa.symm.trans (W.mg_of X G a21)
 cases e
 have T:Tops mg:=⟨W.mg_none_of X G z_ValueError,W.mg_none_of X G z_all,W.mg_none_of X G z_bool,W.mg_none_of X G z_dict,W.mg_none_of X G z_int,W.mg_none_of X G z_isinstance,W.mg_none_of X G z_len,W.mg_none_of X G z_list,W.mg_none_of X G z_min,W.mg_none_of X G z_range,W.mg_none_of X G z_reversed,W.mg_none_of X G z_tuple,W.mg_none_of X G z_zip⟩
 obtain ⟨⟨_,F1⟩,_⟩:=l1
 obtain ⟨⟨_,F2⟩,_⟩:=l2
 obtain ⟨⟨_,F3⟩,_⟩:=l3
 obtain ⟨⟨_,F4⟩,_⟩:=l4
 obtain ⟨⟨_,F5⟩,_⟩:=l5
 obtain ⟨⟨_,F6⟩,_⟩:=l6
 obtain ⟨⟨_,F7⟩,_⟩:=l7
 obtain ⟨⟨_,F8⟩,_⟩:=l8
 obtain ⟨⟨_,F9⟩,_⟩:=l9
 obtain ⟨⟨_,F10⟩,_⟩:=l10
 obtain ⟨⟨_,F11⟩,_⟩:=l11
 obtain ⟨⟨_,F12⟩,_⟩:=l12
 obtain ⟨⟨_,F13⟩,_⟩:=l13
 obtain ⟨⟨_,F14⟩,_⟩:=l14
 obtain ⟨⟨_,F15⟩,_⟩:=l15
 obtain ⟨⟨_,F16⟩,_⟩:=l16
 obtain ⟨⟨_,F17⟩,_⟩:=l17
 obtain ⟨⟨_,F18⟩,_⟩:=l18
 obtain ⟨⟨_,F19⟩,_⟩:=l19
 obtain ⟨⟨_,F20⟩,_⟩:=l20
 have F21:=Mg (st:=top 32) l21 c21 k21
 refine ⟨W.fnOf "law" "law" (wz (top 32)) (yq (top 32)) (ze (top 32)) .none kV21 dc21 pm21 an21 cd21 ct21,λs v=>.of_eq rfl,λbase _ _=>?_⟩
 have Z:Con2 K mg:=⟨⟨_,.int 20,W.mg_of X G bQ,⟨_,rfl⟩,λ_ _=>rfl⟩,⟨_,.int 100,W.mg_of X G bR,⟨_,rfl⟩,λ_ _=>rfl⟩⟩
 have O:CO K C zp:=⟨⟨pg,hd,po,sa⟩,λf hf=>by
  simp only [zp,zam,List.not_mem_nil,or_false] at hf
  rcases hf with rfl | rfl | rfl | rfl | rfl | rfl | rfl | rfl
  ·exact nf0
  ·exact nf1
  ·exact nf2
  ·exact nf3
  ·exact nf4
  ·exact nf5
  ·exact nf6
  ·exact nf7⟩
 obtain ⟨⟨_,G0⟩,n0⟩:=m0
 have H0:Meth K C "__init__" g0:=⟨b0,i0,n0⟩
 obtain ⟨⟨_,G1⟩,n1⟩:=m1
 have H1:Meth K C "told" g1:=⟨b1,i1,n1⟩
 obtain ⟨⟨_,G2⟩,n2⟩:=m2
 have H2:Meth K C "go" g2:=⟨b2,i2,n2⟩
 obtain ⟨⟨_,G3⟩,n3⟩:=m3
 have H3:Meth K C "step" g3:=⟨b3,i3,n3⟩
 obtain ⟨⟨_,G4⟩,n4⟩:=m4
 have H4:Meth K C "own_step" g4:=⟨b4,i4,n4⟩
 obtain ⟨⟨_,G5⟩,n5⟩:=m5
 have H5:Meth K C "standing" g5:=⟨b5,i5,n5⟩
 obtain ⟨⟨_,G6⟩,n6⟩:=m6
 have H6:Meth K C "stand" g6:=⟨b6,i6,n6⟩
 obtain ⟨⟨_,G7⟩,n7⟩:=m7
 have H7:Meth K C "taken" g7:=⟨b7,i7,n7⟩
 obtain ⟨⟨_,G8⟩,n8⟩:=m8
 have H8:Meth K C "behind" g8:=⟨b8,i8,n8⟩
 obtain ⟨⟨_,G9⟩,n9⟩:=m9
 have H9:Meth K C "begin_body" g9:=⟨b9,i9,n9⟩
 obtain ⟨⟨_,G11⟩,n11⟩:=m11
 have H11:Meth K C "bring" g11:=⟨b11,i11,n11⟩
 obtain ⟨⟨_,G12⟩,n12⟩:=m12
 have H12:Meth K C "choose" g12:=⟨b12,i12,n12⟩
 obtain ⟨⟨_,G13⟩,n13⟩:=m13
 have H13:Meth K C "begin_value" g13:=⟨b13,i13,n13⟩
 obtain ⟨⟨_,G14⟩,n14⟩:=m14
 have H14:Meth K C "apply" g14:=⟨b14,i14,n14⟩
 obtain ⟨⟨_,G15⟩,n15⟩:=m15
 have H15:Meth K C "make" g15:=⟨b15,i15,n15⟩
 obtain ⟨⟨_,G16⟩,n16⟩:=m16
 have H16:Meth K C "enter" g16:=⟨b16,i16,n16⟩
 obtain ⟨⟨_,G17⟩,n17⟩:=m17
 have H17:Meth K C "leave" g17:=⟨b17,i17,n17⟩
 have Cv:=W1 (P:=l.prog) (w:=w) (base:=base) T F1 (W.mg_of X G a1)
 have By:=Ul (P:=l.prog) (w:=w) (base:=base) T Cv F2 (W.mg_of X G a2)
 have A7:=Jd (P:=l.prog) (w:=w) (base:=base) T Cv By F3 (W.mg_of X G a3)
 have Bs:=Xx (P:=l.prog) (w:=w) (base:=base) T F4 (W.mg_of X G a4)
 have Bz:=Uj (P:=l.prog) (w:=w) (base:=base) T Bs F5 (W.mg_of X G a5)
 have B4:=gl (P:=l.prog) (w:=w) (base:=base) T F6 (W.mg_of X G a6)
 have Bf:=bu (P:=l.prog) (w:=w) (base:=base) T A7 F7 (W.mg_of X G a7)
 have Cp:=J8 (P:=l.prog) (w:=w) (base:=base) T O G3 H3
 have C7:=Xu (P:=l.prog) (w:=w) (base:=base) T O Cp G4 H4
 have B7:=Oh (P:=l.prog) (w:=w) (base:=base) T O G6 H6
 have C9:=Og (P:=l.prog) (w:=w) (base:=base) T O G7 H7
 have Ca:=Rl (P:=l.prog) (w:=w) (base:=base) T O G8 H8
 have Cf:=Y9 (P:=l.prog) (w:=w) (base:=base) T O G5 H5
 have Ba:=Ol (P:=l.prog) (w:=w) (base:=base) T O C7 B7 C9 G11 H11
 have Cs:=Rk (P:=l.prog) (w:=w) (base:=base) T O C7 C9 G12 H12
 have Bb:=Oi (P:=l.prog) (w:=w) (base:=base) T O G17 H17
 have B8:=J9 (P:=l.prog) (w:=w) (base:=base) T Z O C7 Bz G15 H15
 have Cb:=gh (P:=l.prog) (w:=w) (base:=base) T O Ca Cf G13 H13
 have Cc:=bo (P:=l.prog) (w:=w) (base:=base) T O Ca G9 H9
 have Cg:=Oj (P:=l.prog) (w:=w) (base:=base) T Z O Cp G16 H16
 have B9:=Om (P:=l.prog) (w:=w) (base:=base) T O Cg C9 B8 C7 G14 H14
 have A6:=Ds (P:=l.prog) (w:=w) (base:=base) T O Cc Cb B9 Ba Cs Bb G2 H2
 have Bp:=Ja (P:=l.prog) (w:=w) (base:=base) T O G0 H0
 have Bq:=Of (P:=l.prog) (w:=w) (base:=base) T O G1 H1
 have Ft:FunV K "trace" "trace" (top 15) ft (.int 1000 tk) _:=⟨⟨Tt,_,nT,oct,odt,kVt,dct,pmt,ant,cdt,ctt,slt,rfl,lt,ct_,lT,rfl⟩,kt⟩
 have Bu:=Oe (P:=l.prog) (w:=w) (base:=base) T O Bf B4 Bp Cg A6 Bq mk kc (W.mg_of X G aC) Ft
 have Bv:FD l.prog w K mg base 10 "trace" ["program", "name", "args", "most"] (sn C RT FzT):=⟨ft,_,Bu,Ft.binds (ds:=[]) (λT' kV doc pm an qZ ct us hl=>match us,hl with | [_,_,_,_],_=>⟨_,rfl,rfl⟩),kt,W.mg_of X G at_⟩
 have Ci:FDV l.prog w K mg base 10 "trace" ["program", "name", "args", "most"] 1000 (sn C RT FzT):=⟨ft,_,tk,Bu,Ft.binds (ds:=[.int 1000 tk]) (λT' kV doc pm an qZ ct us hl=>match us,(show us.length=3 from by rw [zLa] at hl; exact Nat.succ.inj hl) with | [_,_,_],_=>⟨_,rfl,rfl⟩),kt,W.mg_of X G at_⟩
 have Cw:=gk (P:=l.prog) (w:=w) (base:=base) T F8 (W.mg_of X G a8)
 have B6:=bt (P:=l.prog) (w:=w) (base:=base) T F9 (W.mg_of X G a9)
 have Bg:=Yh (P:=l.prog) (w:=w) (base:=base) T F10 (W.mg_of X G a10)
 have Cy:=gj (P:=l.prog) (w:=w) (base:=base) T F11 (W.mg_of X G a11)
 have Bl:=W0 (P:=l.prog) (w:=w) (base:=base) T F12 (W.mg_of X G a12)
 have Bh:=Yi (P:=l.prog) (w:=w) (base:=base) T F13 (W.mg_of X G a13)
 have Bm:=Xz (P:=l.prog) (w:=w) (base:=base) T F14 (W.mg_of X G a14)
 have Bt:=Uk (P:=l.prog) (w:=w) (base:=base) T Bh Bm Bl F15 (W.mg_of X G a15)
 have Bi:=Yg (P:=l.prog) (w:=w) (base:=base) T F16 (W.mg_of X G a16)
 have Bn:=Xy (P:=l.prog) (w:=w) (base:=base) T Bi F17 (W.mg_of X G a17)
 have Cr:=jp (P:=l.prog) (w:=w) (base:=base) T F18 (W.mg_of X G a18)
 have Cz:=Ui (P:=l.prog) (w:=w) (base:=base) T F19 (W.mg_of X G a19)
 have Ck:=sj (P:=l.prog) (w:=w) (base:=base) T Ci (Cz 9) Cr Bv F20 (W.mg_of X G a20)
 exact Fk T Ci Cw B6 Bg Cy Bt Bn Ck Bv F21
end ZZ
open PySem PySem.W PyProof.Rows
set_option maxRecDepth 100000 in
set_option maxHeartbeats 0 in
theorem PySem.Challenge.cw_toll_k16_cut_deep_and_great_holds : PySem.Challenge.rw_toll_k16_cut_deep_and_great.Holds := by
 refine ZZ.opened ?_
 k_fill
 refine ZZ.walkD (l:=PySem.Challenge.rw_toll_k16_cut_deep_and_great) (k:=20) (x:="_law_script") rfl rfl ⟨rfl,by decide,by decide⟩ (λw h Y=>PySem.W.kIn_of Y) ?F
 case F =>
  intro w mg fa h KX G hmg
  refine' ZZ.all_mk KX G hmg ?a1 ?l1 ?a2 ?l2 ?a3 ?l3 ?a4 ?l4 ?a5 ?l5 ?a6 ?l6 ?a7 ?l7 ?a8 ?l8 ?a9 ?l9 ?a10 ?l10 ?a11 ?l11 ?a12 ?l12 ?a13 ?l13 ?a14 ?l14 ?a15 ?l15 ?a16 ?l16 ?a17 ?l17 ?a18 ?l18 ?a19 ?l19 ?a20 ?l20 ?a21 ?l21 ?c21 ?k21 ?at_ ?lt ?ct_ ?kt ?lT ?aC ?b0 ?i0 ?m0 ?b1 ?i1 ?m1 ?b2 ?i2 ?m2 ?b3 ?i3 ?m3 ?b4 ?i4 ?m4 ?b5 ?i5 ?m5 ?b6 ?i6 ?m6 ?b7 ?i7 ?m7 ?b8 ?i8 ?m8 ?b9 ?i9 ?m9 ?b11 ?i11 ?m11 ?b12 ?i12 ?m12 ?b13 ?i13 ?m13 ?b14 ?i14 ?m14 ?b15 ?i15 ?m15 ?b16 ?i16 ?m16 ?b17 ?i17 ?m17 ?pg ?hd ?po ?sa ?mk ?kc ?nf0 ?nf1 ?nf2 ?nf3 ?nf4 ?nf5 ?nf6 ?nf7 ?bQ ?bR ?z_ValueError ?z_all ?z_bool ?z_dict ?z_int ?z_isinstance ?z_len ?z_list ?z_min ?z_range ?z_reversed ?z_tuple ?z_zip
  case a1 | a2 | a3 | a4 | a5 | a6 | a7 | a8 | a9 | a10 | a11 | a12 | a13 | a14 | a15 | a16 | a17 | a18 | a19 | a20 | a21 | at_ | aC | b0 | i0 | b1 | i1 | b2 | i2 | b3 | i3 | b4 | i4 | b5 | i5 | b6 | i6 | b7 | i7 | b8 | i8 | b9 | i9 | b11 | i11 | b12 | i12 | b13 | i13 | b14 | i14 | b15 | i15 | b16 | i16 | b17 | i17 | z_ValueError | z_all | z_bool | z_dict | z_int | z_isinstance | z_len | z_list | z_min | z_range | z_reversed | z_tuple | z_zip=>show _=_; k_is
  case l1 | l2 | l3 | l4 | l5 | l6 | l7 | l8 | l9 | l10 | l11 | l12 | l13 | l14 | l15 | l16 | l17 | l18 | l19 | l20 | m0 | m1 | m2 | m3 | m4 | m5 | m6 | m7 | m8 | m9 | m11 | m12 | m13 | m14 | m15 | m16 | m17 =>
   refine' ZZ.fna_mk ?lA ?cA ?kA
   case lA=>k_is
   case cA=>k_is
   case kA=>k_is
  case l21 | c21 | k21 | lt | ct_ | kt | lT | pg | hd | po | sa | mk | kc | nf0 | nf1 | nf2 | nf3 | nf4 | nf5 | nf6 | nf7 | bQ | bR=>k_is
