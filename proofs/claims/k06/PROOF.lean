import PyProof.Rows.All
import Wide.All
import OpenK.KSplit
import OpenK.KApp
import KE.RegKMod
import KE.KJoinElse
import KE.KTops
import KE.RegKSuper
import KE.RegLcAnyAll
import KE.KCells
import KE.KPassesOwn
import KE.KNestStore
import KE.KStopIter
import KE.RegKBase
import KE.KDictOne
import KE.KxDecode
import KE.RegKMathGB
import KE.KNestM
import KE.KDflt
import KE.KOwnIterCall
import KE.KSortedM
import KE.KxLen
import KE.RegKMathGC
import KE.KIsClose
import KE.KDisp
import KE.KSetIn
import KE.KRevSl
import KE.KEqDeep
import KE.KAnyBase
import KE.KWhile
import KE.KRevIter
import KE.KTreeR
import KE.KxStill
import KE.KFinally
import KE.KTopLam
import KE.KWithOwn
import KE.KOpsOwn
import KE.KDictNew
import KE.KWhileD
import KE.KSumEnd
import KE.KPopAny
import KE.KGrown
import KE.KItemAt
import KE.KTextLit
import KE.KTupDict
import KE.KFmtOwn
import KE.KMinKey
import KE.KExtendNil
import KE.KMethU
import KE.KDictAnyTail
import KE.RegKStar
import KE.RegKTupTruth
import KE.RegKTupSum
import KE.KMethJoin
import KE.KPathRangeEnd
import KE.RegKParC
import KE.KxAffix
import KE.KxField
import KE.RegKMatchCls
import KE.KLcPair
import KE.KJoinL
import KE.RegKNeg
import KE.KxPercentT
import KE.KBytesCut
import KE.KCompIf
import KE.KxFormat
import KE.KTypeName
import KE.KCompText
import KE.BytesMulAny
import KE.KSortTup
import KE.KPairAssign
import KE.KTypeOf
import KE.KMulAny
import KE.KBytesMenu
import KE.KTextDict
import KE.KPathShort
import KE.KSplitRange
import KE.KKinds
import KE.KxPart
import KE.KRangeItem
import KE.KRangeNest
import KE.KSetAt
import KE.KxTruthy
import KE.KPairRows
import KE.KBytesMore
import KE.KRangePlain
import KE.KBitsMul
import KE.KTextTable
import KE.KForList
import KE.KIdxIf
import KE.KAssignIn
import KE.KFirstTurn
import KE.KOwnRange
import KE.KLooksOwn
import KE.KDictWord
import KE.KTurnsGround
import KE.KFinFacts
import KE.RegKTryOn
import KE.KCenter
import KE.KStrWords
import KE.KStateTextK
import KE.KStateWGiven
import KE.KCallTup
import KE.KTreeF
import KE.KEndWord
import KE.KStateBytes
import KE.KRangeEnd
import KE.KOf
import KE.KRepItem
import KE.KListLetter
import KE.KSliceSign
import KE.KToBytes
import KE.KPathText
import KE.KMinBuiltin
import KE.KFromBytes
import KE.KEqDat
import KE.KBytesUnr
import KE.KIsBytes
import KE.KCallRec
import KE.KEndW
import KE.RegLGeC
import Wide.FinOn
import PySem.Challenge.RW_toll_k06_read
noncomputable section
set_option Elab.async false
set_option linter.all false
def zaa:=@PySem.wpAny_bind
def zab:=@PySem.wpAny_pure
def zac:=@PySem.Heap.get?_push_of_some
def zad:=@PySem.Heap.get?_push_size
def zae:=@PySem.Heap.lt_size
def zaf:=@List.getElem?_eq_getElem
def zag:=@List.getElem?_eq_some_iff
def zah:=@List.mem_map
def zai:=@List.getElem?_map
def zaj:=@Nat.le_refl
def zak:=@Nat.le_trans
def zal:=@List.mem_cons_of_mem
def zam:=@List.mem_cons
def zan:=@List.mem_of_getElem?
def zao:=@List.mem_cons_self
def zap:=@List.size_toArray
def zaq:=@List.getD_eq_getElem?_getD
def zar:=@Option.map_eq_some_iff
def zas:=@List.mem_append
set_option maxRecDepth 100000
set_option maxHeartbeats 8000000
set_option exponentiation.threshold 5000
set_option compiler.extract_closed false
set_option bootstrap.genMatcherCode false
def zLa.{u} {α:Type u} {a b:List α}:(a++b).length=a.length+b.length:=List.length_append
def zLc.{u} {α:Type u} {x:α} {a:List α}:(x::a).length=a.length+1:=rfl
def zLn.{u} {α:Type u}:([]:List α).length=0:=rfl
def zLm.{u,v} {α:Type u} {β:Type v} {as:List α} (f:α->β):(as.map f).length=as.length:=List.length_map f
def zMa.{u,v} {α:Type u} {β:Type v} {f:α->β} {l₁ l₂:List α}:(l₁++l₂).map f=l₁.map f++l₂.map f:=List.map_append
set_option hygiene false in
local macro_rules | `(tactic| walk_at "b")=>`(tactic| (refine yo F S (F.binds fun _ _ _ _ _ _ us hl=>by first | (obtain ⟨_,rfl⟩:=xp hl; rfl) | (obtain ⟨_,_,rfl⟩:=Qt hl; rfl) | (obtain ⟨_,_,_,rfl⟩:=Mf hl; rfl) | (obtain ⟨_,_,_,_,rfl⟩:=Ci hl; rfl) | (obtain ⟨_,_,_,_,_,rfl⟩:=Me hl; rfl) | (obtain ⟨_,_,_,_,_,_,rfl⟩:=z1k hl; rfl) | (obtain ⟨_,_,_,_,_,_,_,_,rfl⟩:=z3u hl; rfl)) m fun qZ A outer s H E ds φ hr hl hT=>?_; have hu:=hr.units))
set_option hygiene false in
local macro_rules | `(tactic| walk_at "p")=>`(tactic| simp only [ρ0,List.map_cons,List.map_nil,List.replicate,List.cons_append,List.nil_append])
local macro_rules | `(tactic| walk_at "o")=>`(tactic| first | exact Or.inl rfl | exact Or.inr rfl | exact Or.inr (Or.inl rfl) | exact Or.inr (Or.inr rfl))
local macro_rules | `(tactic| walk_at "f")=>`(tactic| exact ⟨rfl,rfl,rfl,by decide +kernel,rfl,by decide +kernel,by decide +kernel⟩)
local macro_rules | `(tactic| walk_at "c")=>`(tactic| exact ⟨rfl,by decide +kernel,by decide +kernel,by decide +kernel,by decide +kernel,by decide +kernel⟩)
local macro_rules | `(tactic| walk_at "m")=>`(tactic| exact ⟨by first | omega | (simp; omega),by repeat first | assumption | exact trivial | refine $(Lean.mkIdent `prs1) ?_ ?_⟩)
namespace ZZ
open PySem PySem.Spec PyProof.Rows
def se(s:Stmt):Arguments:=match s with
 |.FunctionDef _ a _ _ _ _ _ _ _ _=>a
 |_=>{posonlyargs:=[],args:=[],vararg:=none,kwonlyargs:=[],kw_defaults:=[],kwarg:=none,defaults:=[]}
def wv(s:Stmt):List Stmt:=match s with
 |.FunctionDef _ _ b _ _ _ _ _ _ _=>b
 |_=>[]
def zd(s:Stmt):Scope:=match s with
 |.FunctionDef _ _ _ _ _ _ sc _ _ _=>sc
 |_=>{kind:=.function,names:=[],isGenerator:=false,isCoroutine:=false}
def top(i:Nat):Stmt:=PySem.Challenge.pw_toll_k06_read.main.body.getD i (.Pass ⟨0,0,0,0⟩)
section
open PySem.W PySem.PyData
def zE(P:Params)(s:Str)(t:Nat)(v:Value):DictEntry:=⟨keyHash P s,.str s t,v⟩
def zF(n:Str)(s:Stmt)(m:Str)(i k:Nat):Obj:=⟨.type "function",none,.func (fnOf n n (se s) (wv s) (zd s) .none .none .none (.str m i) none (.ref k) .none),#[]⟩
def zB(n:Str)(a b c:Nat)(d e:Int)(g i l:Nat)(m:Int)(p:Nat):Obj:=⟨.type "code",none,.fields #[.str n a,.str n b,.str "/claim/cut.py" c,.int d 0,.int e 0,.int 0 0,.int 0 0,.int 3 0,.ref g,.bool true,.int 181 0,.ref i,.none,.none,.none,.ref l,.int m 0,.int d 0,.str "/claim/cut.py" p],#[]⟩
def zC(n:Str)(a:Nat)(q:Str)(b c:Nat)(d e f:Int)(g:Nat)(h:Int)(i j k l:Nat)(m o:Int)(p:Nat):Obj:=⟨.type "code",none,.fields #[.str n a,.str q b,.str "/claim/cut.py" c,.int d 0,.int e 0,.int 0 0,.int 0 0,.int f 0,.ref g,.bool true,.int h 0,.ref i,.none,.ref j,.ref k,.ref l,.int m 0,.int o 0,.str "/claim/cut.py" p],#[]⟩
noncomputable def zK(P:Params):Frag:=(nat_lit 2,⟨.none,none,(.dict #[] 0),#[]⟩)::
(nat_lit 3,⟨(.type "dict"),none,(.dict #[zE P "__name__" 165 (.str "law_toll_k06_read" 567),zE P "__doc__" 166 .none,zE P "__package__" 167 .none,zE P "__loader__" 168 (.builtin "__main__.__loader__#opaque"),zE P "__spec__" 169 .none,zE P "__annotations__" 170 (.ref 6),zE P "__builtins__" 171 (.ref 4),zE P "__file__" 173 (.str "/claim/cut.py" 172),zE P "__cached__" 174 .none,zE P "TollError" 206 (.ref 24),zE P "NoText" 222 (.ref 37),zE P "NoProgram" 238 (.ref 49),zE P "LETTERS" 242 (.str "abcdefghijklmnopqrstuvwxyz" 241),zE P "SHAPES" 246 (.ref 52),zE P "NO_NAMES" 249 (.ref 53),zE P "FORMS" 277 (.ref 54),zE P "BROUGHT" 287 (.ref 67),zE P "is_whole" 294 (.ref 76),zE P "is_name" 300 (.ref 81),zE P "unlike" 307 (.ref 88),zE P "right" 313 (.ref 93),zE P "head_right" 319 (.ref 98),zE P "gives_right" 325 (.ref 103),zE P "body_right" 331 (.ref 108),zE P "wider_right" 337 (.ref 113),zE P "shape_of" 347 (.ref 120),zE P "call_shape" 353 (.ref 125),zE P "shape_if" 359 (.ref 130),zE P "FIGURES" 363 (.str "0123456789" 362),zE P "BODIES" 379 (.ref 131),zE P "BRACKETS" 392 (.ref 132),zE P "BRINGS" 399 (.ref 133),zE P "read" 405 (.ref 138),zE P "words_of" 411 (.ref 143),zE P "nested" 421 (.ref 150),zE P "in_bracket" 428 (.ref 157),zE P "bracket_of" 436 (.ref 164),zE P "head_of" 443 (.ref 171),zE P "read_name" 450 (.ref 178),zE P "read_names" 456 (.ref 183),zE P "read_shape" 463 (.ref 190),zE P "is_number" 469 (.ref 195),zE P "read_number" 476 (.ref 202),zE P "read_function" 482 (.ref 207),zE P "read_param" 489 (.ref 214),zE P "read_gives" 495 (.ref 219),zE P "read_body" 505 (.ref 226),zE P "read_expression" 513 (.ref 233),zE P "read_all" 519 (.ref 238),zE P "read_word" 526 (.ref 245),zE P "show" 532 (.ref 250),zE P "bracketed" 540 (.ref 257),zE P "show_function" 546 (.ref 262),zE P "show_body" 552 (.ref 267),zE P "show_expression" 560 (.ref 274),zE P "show_all" 566 (.ref 279),zE P "_law_cell_at" 576 (.ref 286),zE P "_law_name" 590 (.ref 293),zE P "_law_next" 597 (.ref 300),zE P "_law_flat" 607 (.ref 307),zE P "_law_plain" 613 (.ref 312),zE P "_law_e" 619 (.ref 317),zE P "_law_open" 625 (.ref 322),zE P "_law_body" 631 (.ref 327),zE P "_law_head" 637 (.ref 332),zE P "_law_built" 643 (.ref 337),zE P "_law_function" 649 (.ref 342),zE P "_law_grown" 655 (.ref 347),zE P "_law_line" 664 (.ref 354),zE P "_law_spaced" 676 (.ref 361),zE P "_law_things" 685 (.ref 368),zE P "law" 691 (.ref 373)] 72),#[]⟩)::
(nat_lit 15,⟨(.type "tuple"),none,(.seq #[(.type "ValueError")] 0),#[]⟩)::
(nat_lit 22,⟨(.type "tuple"),none,(.seq #[] 0),#[]⟩)::
(nat_lit 23,⟨(.type "dict"),none,(.dict #[zE P "__module__" 196 (.str "toll.errors" 187),zE P "__firstlineno__" 200 (.int 2 199),zE P "__static_attributes__" 201 (.ref 22),zE P "__weakref__" 203 (.ref 25),zE P "__doc__" 204 .none] 3),#[]⟩)::
(nat_lit 24,⟨(.type "type"),none,(.cls ⟨"TollError",[(.type "ValueError")],[(.ref 24),(.type "ValueError"),(.type "Exception"),(.type "BaseException"),(.type "object")],23,"TollError",true,[],[(.ref 37),(.ref 49)],false,none,false⟩),#[(some (.ref 15)),none,(some (.str "TollError" 189)),(some (.str "TollError" 197)),(some (.builtin "ValueError.__new__")),(some (.bool true))]⟩)::
(nat_lit 25,⟨(.type "getset_descriptor"),none,(.fields #[(.str "__weakref__" 202),(.ref 24),(.builtin "ExceptionGroup.__weakref__"),.none]),#[]⟩)::
(nat_lit 28,⟨(.type "tuple"),none,(.seq #[(.ref 24)] 0),#[]⟩)::
(nat_lit 35,⟨(.type "tuple"),none,(.seq #[] 0),#[]⟩)::
(nat_lit 36,⟨(.type "dict"),none,(.dict #[zE P "__module__" 214 (.str "toll.errors" 187),zE P "__firstlineno__" 218 (.int 4 217),zE P "__static_attributes__" 219 (.ref 35),zE P "__doc__" 220 .none] 2),#[]⟩)::
(nat_lit 37,⟨(.type "type"),none,(.cls ⟨"NoText",[(.ref 24)],[(.ref 37),(.ref 24),(.type "ValueError"),(.type "Exception"),(.type "BaseException"),(.type "object")],36,"NoText",true,[],[],false,none,false⟩),#[(some (.ref 28)),none,(some (.str "NoText" 207)),(some (.str "NoText" 215)),(some (.builtin "ValueError.__new__")),(some (.bool true))]⟩)::
(nat_lit 40,⟨(.type "tuple"),none,(.seq #[(.ref 24)] 0),#[]⟩)::
(nat_lit 47,⟨(.type "tuple"),none,(.seq #[] 0),#[]⟩)::
(nat_lit 48,⟨(.type "dict"),none,(.dict #[zE P "__module__" 230 (.str "toll.errors" 187),zE P "__firstlineno__" 234 (.int 6 233),zE P "__static_attributes__" 235 (.ref 47),zE P "__doc__" 236 .none] 2),#[]⟩)::
(nat_lit 49,⟨(.type "type"),none,(.cls ⟨"NoProgram",[(.ref 24)],[(.ref 49),(.ref 24),(.type "ValueError"),(.type "Exception"),(.type "BaseException"),(.type "object")],48,"NoProgram",true,[],[],false,none,false⟩),#[(some (.ref 40)),none,(some (.str "NoProgram" 223)),(some (.str "NoProgram" 231)),(some (.builtin "ValueError.__new__")),(some (.bool true))]⟩)::
(nat_lit 52,⟨(.type "tuple"),none,(.seq #[(.str "num" 243),(.str "list" 244),(.str "tree" 245)] 0),#[]⟩)::
(nat_lit 53,⟨(.type "tuple"),none,(.seq #[(.str "nil" 247),(.str "leaf" 248)] 0),#[]⟩)::
(nat_lit 54,⟨(.type "dict"),none,(.dict #[zE P "nil" 250 (.ref 56),zE P "cons" 252 (.ref 58),zE P "leaf" 256 (.ref 60),zE P "node" 258 (.ref 62),zE P "add" 263 (.ref 64),zE P "sub" 267 (.ref 66)] 6),#[]⟩)::
(nat_lit 55,⟨(.type "tuple"),none,(.seq #[] 0),#[]⟩)::
(nat_lit 56,⟨(.type "tuple"),none,(.seq #[(.ref 55),(.str "list" 251)] 0),#[]⟩)::
(nat_lit 57,⟨(.type "tuple"),none,(.seq #[(.str "num" 253),(.str "list" 254)] 0),#[]⟩)::
(nat_lit 58,⟨(.type "tuple"),none,(.seq #[(.ref 57),(.str "list" 255)] 0),#[]⟩)::
(nat_lit 59,⟨(.type "tuple"),none,(.seq #[] 0),#[]⟩)::
(nat_lit 60,⟨(.type "tuple"),none,(.seq #[(.ref 59),(.str "tree" 257)] 0),#[]⟩)::
(nat_lit 61,⟨(.type "tuple"),none,(.seq #[(.str "tree" 259),(.str "num" 260),(.str "tree" 261)] 0),#[]⟩)::
(nat_lit 62,⟨(.type "tuple"),none,(.seq #[(.ref 61),(.str "tree" 262)] 0),#[]⟩)::
(nat_lit 63,⟨(.type "tuple"),none,(.seq #[(.str "num" 264),(.str "num" 265)] 0),#[]⟩)::
(nat_lit 64,⟨(.type "tuple"),none,(.seq #[(.ref 63),(.str "num" 266)] 0),#[]⟩)::
(nat_lit 65,⟨(.type "tuple"),none,(.seq #[(.str "num" 268),(.str "num" 269)] 0),#[]⟩)::
(nat_lit 66,⟨(.type "tuple"),none,(.seq #[(.ref 65),(.str "num" 270)] 0),#[]⟩)::
(nat_lit 67,⟨(.type "dict"),none,(.dict #[zE P "list" 278 (.ref 68),zE P "tree" 281 (.ref 69)] 2),#[]⟩)::
(nat_lit 68,⟨(.type "tuple"),none,(.seq #[(.str "num" 279),(.str "list" 280)] 0),#[]⟩)::
(nat_lit 69,⟨(.type "tuple"),none,(.seq #[(.str "tree" 282),(.str "num" 283),(.str "tree" 284)] 0),#[]⟩)::
(nat_lit 75,zC "is_whole" 288 "is_whole" 289 290 14 1 3 70 181 71 72 73 74 292 14 293)::
(nat_lit 76,zF "is_whole" (top 10) "toll.programs" 239 75)::
(nat_lit 80,zB "is_name" 295 296 297 16 1 77 78 79 298 299)::
(nat_lit 81,zF "is_name" (top 11) "toll.programs" 239 80)::
(nat_lit 87,zC "unlike" 301 "unlike" 302 303 20 1 3 82 181 83 84 85 86 305 20 306)::
(nat_lit 88,zF "unlike" (top 12) "toll.programs" 239 87)::
(nat_lit 92,zB "right" 308 309 310 22 1 89 90 91 311 312)::
(nat_lit 93,zF "right" (top 13) "toll.programs" 239 92)::
(nat_lit 97,zB "head_right" 314 315 316 31 1 94 95 96 317 318)::
(nat_lit 98,zF "head_right" (top 14) "toll.programs" 239 97)::
(nat_lit 102,zB "gives_right" 320 321 322 39 2 99 100 101 323 324)::
(nat_lit 103,zF "gives_right" (top 15) "toll.programs" 239 102)::
(nat_lit 107,zB "body_right" 326 327 328 48 4 104 105 106 329 330)::
(nat_lit 108,zF "body_right" (top 16) "toll.programs" 239 107)::
(nat_lit 112,zB "wider_right" 332 333 334 62 5 109 110 111 335 336)::
(nat_lit 113,zF "wider_right" (top 17) "toll.programs" 239 112)::
(nat_lit 119,zC "shape_of" 338 "shape_of" 339 340 70 3 3 114 181 115 116 117 118 345 70 346)::
(nat_lit 120,zF "shape_of" (top 18) "toll.programs" 239 119)::
(nat_lit 124,zB "call_shape" 348 349 350 81 3 121 122 123 351 352)::
(nat_lit 125,zF "call_shape" (top 19) "toll.programs" 239 124)::
(nat_lit 129,zB "shape_if" 354 355 356 86 5 126 127 128 357 358)::
(nat_lit 130,zF "shape_if" (top 20) "toll.programs" 239 129)::
(nat_lit 131,⟨(.type "dict"),none,(.dict #[zE P "give" 364 (.int 2 365),zE P "let" 366 (.int 4 367),zE P "less" 368 (.int 5 369),zE P "list" 370 (.int 5 371),zE P "tree" 372 (.int 5 373)] 5),#[]⟩)::
(nat_lit 132,⟨(.type "dict"),none,(.dict #[zE P "cons" 380 (.int 3 381),zE P "node" 382 (.int 4 383),zE P "add" 384 (.int 3 385),zE P "sub" 386 (.int 3 387)] 4),#[]⟩)::
(nat_lit 133,⟨(.type "dict"),none,(.dict #[zE P "list" 393 (.int 2 394),zE P "tree" 395 (.int 3 396)] 2),#[]⟩)::
(nat_lit 137,zB "read" 400 401 402 95 1 134 135 136 403 404)::
(nat_lit 138,zF "read" (top 26) "toll.texts" 360 137)::
(nat_lit 142,zB "words_of" 406 407 408 102 1 139 140 141 409 410)::
(nat_lit 143,zF "words_of" (top 27) "toll.texts" 360 142)::
(nat_lit 149,zC "nested" 412 "nested" 413 414 105 1 3 144 181 145 146 147 148 419 105 420)::
(nat_lit 150,zF "nested" (top 28) "toll.texts" 360 149)::
(nat_lit 156,zC "in_bracket" 422 "in_bracket" 423 424 120 1 3 151 181 152 153 154 155 426 120 427)::
(nat_lit 157,zF "in_bracket" (top 29) "toll.texts" 360 156)::
(nat_lit 163,zC "bracket_of" 429 "bracket_of" 430 431 124 2 3 158 181 159 160 161 162 434 124 435)::
(nat_lit 164,zF "bracket_of" (top 30) "toll.texts" 360 163)::
(nat_lit 170,zC "head_of" 437 "head_of" 438 439 128 1 3 165 181 166 167 168 169 441 128 442)::
(nat_lit 171,zF "head_of" (top 31) "toll.texts" 360 170)::
(nat_lit 177,zC "read_name" 444 "read_name" 445 446 132 1 3 172 181 173 174 175 176 448 132 449)::
(nat_lit 178,zF "read_name" (top 32) "toll.texts" 360 177)::
(nat_lit 182,zB "read_names" 451 452 453 136 2 179 180 181 454 455)::
(nat_lit 183,zF "read_names" (top 33) "toll.texts" 360 182)::
(nat_lit 189,zC "read_shape" 457 "read_shape" 458 459 138 1 3 184 181 185 186 187 188 461 138 462)::
(nat_lit 190,zF "read_shape" (top 34) "toll.texts" 360 189)::
(nat_lit 194,zB "is_number" 464 465 466 142 1 191 192 193 467 468)::
(nat_lit 195,zF "is_number" (top 35) "toll.texts" 360 194)::
(nat_lit 201,zC "read_number" 470 "read_number" 471 472 147 1 3 196 181 197 198 199 200 474 147 475)::
(nat_lit 202,zF "read_number" (top 36) "toll.texts" 360 201)::
(nat_lit 206,zB "read_function" 477 478 479 151 1 203 204 205 480 481)::
(nat_lit 207,zF "read_function" (top 37) "toll.texts" 360 206)::
(nat_lit 213,zC "read_param" 483 "read_param" 484 485 157 1 3 208 181 209 210 211 212 487 157 488)::
(nat_lit 214,zF "read_param" (top 38) "toll.texts" 360 213)::
(nat_lit 218,zB "read_gives" 490 491 492 160 1 215 216 217 493 494)::
(nat_lit 219,zF "read_gives" (top 39) "toll.texts" 360 218)::
(nat_lit 225,zC "read_body" 496 "read_body" 497 498 163 1 3 220 181 221 222 223 224 503 163 504)::
(nat_lit 226,zF "read_body" (top 40) "toll.texts" 360 225)::
(nat_lit 232,zC "read_expression" 506 "read_expression" 507 508 176 1 3 227 181 228 229 230 231 511 176 512)::
(nat_lit 233,zF "read_expression" (top 41) "toll.texts" 360 232)::
(nat_lit 237,zB "read_all" 514 515 516 185 1 234 235 236 517 518)::
(nat_lit 238,zF "read_all" (top 42) "toll.texts" 360 237)::
(nat_lit 244,zC "read_word" 520 "read_word" 521 522 187 1 3 239 181 240 241 242 243 524 187 525)::
(nat_lit 245,zF "read_word" (top 43) "toll.texts" 360 244)::
(nat_lit 249,zB "show" 527 528 529 193 1 246 247 248 530 531)::
(nat_lit 250,zF "show" (top 44) "toll.texts" 360 249)::
(nat_lit 256,zC "bracketed" 533 "bracketed" 534 535 195 1 3 251 181 252 253 254 255 538 195 539)::
(nat_lit 257,zF "bracketed" (top 45) "toll.texts" 360 256)::
(nat_lit 261,zB "show_function" 541 542 543 198 1 258 259 260 544 545)::
(nat_lit 262,zF "show_function" (top 46) "toll.texts" 360 261)::
(nat_lit 266,zB "show_body" 547 548 549 203 1 263 264 265 550 551)::
(nat_lit 267,zF "show_body" (top 47) "toll.texts" 360 266)::
(nat_lit 273,zC "show_expression" 553 "show_expression" 554 555 213 1 3 268 181 269 270 271 272 558 213 559)::
(nat_lit 274,zF "show_expression" (top 48) "toll.texts" 360 273)::
(nat_lit 278,zB "show_all" 561 562 563 224 1 275 276 277 564 565)::
(nat_lit 279,zF "show_all" (top 49) "toll.texts" 360 278)::
(nat_lit 285,zC "_law_cell_at" 569 "_law_cell_at" 570 571 227 2 3 280 181 281 282 283 284 574 227 575)::
(nat_lit 286,zF "_law_cell_at" (top 51) "law_toll_k06_read" 567 285)::
(nat_lit 292,zC "_law_name" 577 "_law_name" 578 579 231 2 3 287 181 288 289 290 291 588 231 589)::
(nat_lit 293,zF "_law_name" (top 52) "law_toll_k06_read" 567 292)::
(nat_lit 299,zC "_law_next" 591 "_law_next" 592 593 250 1 3 294 181 295 296 297 298 595 250 596)::
(nat_lit 300,zF "_law_next" (top 53) "law_toll_k06_read" 567 299)::
(nat_lit 306,zC "_law_flat" 598 "_law_flat" 599 600 254 1 3 301 181 302 303 304 305 605 254 606)::
(nat_lit 307,zF "_law_flat" (top 54) "law_toll_k06_read" 567 306)::
(nat_lit 311,zB "_law_plain" 608 609 610 259 3 308 309 310 611 612)::
(nat_lit 312,zF "_law_plain" (top 55) "law_toll_k06_read" 567 311)::
(nat_lit 316,zB "_law_e" 614 615 616 269 5 313 314 315 617 618)::
(nat_lit 317,zF "_law_e" (top 56) "law_toll_k06_read" 567 316)::
(nat_lit 321,zB "_law_open" 620 621 622 289 8 318 319 320 623 624)::
(nat_lit 322,zF "_law_open" (top 57) "law_toll_k06_read" 567 321)::
(nat_lit 326,zB "_law_body" 626 627 628 297 6 323 324 325 629 630)::
(nat_lit 327,zF "_law_body" (top 58) "law_toll_k06_read" 567 326)::
(nat_lit 331,zB "_law_head" 632 633 634 317 3 328 329 330 635 636)::
(nat_lit 332,zF "_law_head" (top 59) "law_toll_k06_read" 567 331)::
(nat_lit 336,zB "_law_built" 638 639 640 327 5 333 334 335 641 642)::
(nat_lit 337,zF "_law_built" (top 60) "law_toll_k06_read" 567 336)::
(nat_lit 341,zB "_law_function" 644 645 646 333 4 338 339 340 647 648)::
(nat_lit 342,zF "_law_function" (top 61) "law_toll_k06_read" 567 341)::
(nat_lit 346,zB "_law_grown" 650 651 652 338 1 343 344 345 653 654)::
(nat_lit 347,zF "_law_grown" (top 62) "law_toll_k06_read" 567 346)::
(nat_lit 353,zC "_law_line" 656 "_law_line" 657 658 349 1 3 348 181 349 350 351 352 662 349 663)::
(nat_lit 354,zF "_law_line" (top 63) "law_toll_k06_read" 567 353)::
(nat_lit 360,zC "_law_spaced" 665 "_law_spaced" 666 667 356 2 3 355 181 356 357 358 359 674 356 675)::
(nat_lit 361,zF "_law_spaced" (top 64) "law_toll_k06_read" 567 360)::
(nat_lit 367,zC "_law_things" 677 "_law_things" 678 679 366 1 3 362 181 363 364 365 366 683 366 684)::
(nat_lit 368,zF "_law_things" (top 65) "law_toll_k06_read" 567 367)::
(nat_lit 372,zB "law" 686 687 688 375 1 369 370 371 689 690)::
(nat_lit 373,zF "law" (top 66) "law_toll_k06_read" 567 372)::[]
noncomputable def zA:List Addr:=2::3::15::22::23::24::25::28::35::36::37::40::47::48::49::52::53::54::55::56::57::58::59::60::61::62::63::64::65::66::67::68::69::75::76::80::81::87::88::92::93::97::98::102::103::107::108::112::113::119::120::124::125::129::130::131::132::133::137::138::142::143::149::150::156::157::163::164::170::171::177::178::182::183::189::190::194::195::201::202::206::207::213::214::218::219::225::226::232::233::237::238::244::245::249::250::256::257::261::262::266::267::273::274::278::279::285::286::292::293::299::300::306::307::311::312::316::317::321::322::326::327::331::332::336::337::341::342::346::347::353::354::360::361::367::368::372::373::[]
def zAK(P:Params):zA=(zK P).map (·.1):=by kernel_rfl
noncomputable def zq:Program:={PySem.Challenge.pw_toll_k06_read with main:={PySem.Challenge.pw_toll_k06_read.main with body:=[1,2,3,5,6,7,8,9,10,11,12,13,14,15,16,17,18,19,20,22,23,24,25,26,27,28,29,30,31,32,33,34,35,36,37,38,39,40,41,42,43,44,45,46,47,48,49,51,52,53,54,55,56,57,58,59,60,61,62,63,64,65,66].filterMap λi=>PySem.Challenge.pw_toll_k06_read.main.body[i]?}}
abbrev zX(s:Shared):Bool:=xlAt zq [] s&&recOk (RowW.records PySem.Challenge.rw_toll_k06_read.row.toRowW) s
abbrev zP(w:World):Prop:=Option.map (λs=>(Fast.tw4187177175401517315 zq ["FORMS","BROUGHT","BODIES","BRACKETS","BRINGS"] (Fast.tw5923862056798008813 PySem.Challenge.pw_toll_k06_read.main.body) zX true s,zA.map s.heap.get?)) (openEnds Fast.tw14364793385576792824 PySem.Challenge.pw_toll_k06_read w 5114)=some (openGood zq ["FORMS","BROUGHT","BODIES","BRACKETS","BRINGS"],(zK w.params).map λp=>some p.2)
def hl0f(w:World):zP (w.withFollow "special-get-raises" false):=by delta zP openEnds topFrom;rw[Fast.te14082659384304107361];kernel_rfl
def hl0t(w:World):zP (w.withFollow "special-get-raises" true):=by delta zP openEnds topFrom;rw[Fast.te14082659384304107361];kernel_rfl
def hl1:LeftO PySem.Challenge.pw_toll_k06_read zq ["FORMS","BROUGHT","BODIES","BRACKETS","BRINGS"] zX (Hook.obs (kHook zK zA zAK)) (Hook.val (kHook zK zA zAK)) 5114:=by
 intro w;rw[Fast.te4187177175401517315,Fast.te5923862056798008813,Fast.te14364793385576792824];exact(byRow2 "special-get-raises" (P:=λw=>zP w) hl0f hl0t) w
def said:PySem.Challenge.rw_toll_k06_read.wellSaid=true:=by kernel_rfl
def zD:DefRec:=match top 66 with|.FunctionDef n a b _ _ _ c _ _ p=>⟨n,a,b,c,p⟩|_=>⟨"",⟨[],[],none,[],[],none,[]⟩,[],⟨.function,[],false,false,[]⟩,⟨0,0,0,0⟩⟩
def opened(hc:WalkO zq ["FORMS","BROUGHT","BODIES","BRACKETS","BRINGS"] (XL zq []) (Hook.says (kHook zK zA zAK)) PySem.Challenge.rw_toll_k06_read.row.toRowW zD [] (λf vs=>PySem.call f vs)):PySem.Challenge.rw_toll_k06_read.Holds:=by
 refine holds_law said λsd=>holds_open (q:=zq) (loose:=["FORMS","BROUGHT","BODIES","BRACKETS","BRINGS"]) (Xt:=zX) (XP:=XL zq []) (d:=zD) (kwd:=[]) (Yf:=Hook.obs (kHook zK zA zAK)) (Ya:=Hook.val (kHook zK zA zAK)) (YP:=Hook.says (kHook zK zA zAK)) (N:=5114) hl1 (Hook.of (kHook zK zA zAK)) (Hook.keeps (kHook zK zA zAK)) (λs e=>xl_of s (Bool.and_eq_true_iff.mp e).1) XL.keeps (by kernel_rfl) (by kernel_rfl) (by kernel_rfl) (λs e=>recFacts_of (Bool.and_eq_true_iff.mp e).2) (by kernel_rfl) sd (by kernel_rfl) ⟨rfl,rfl,rfl,rfl,rfl,by decide +kernel⟩ ?hw hc
 case hw=>w_witness2
end
abbrev Key:=Sum Int Str
def Qv:Key->Value->Bool
 |.inl k,v=>Value.isInt k v
 |.inr x,v=>Value.isStrOf x v
def keyH(w:World):Key->Int
 |.inl k=>hashInt k
 |.inr x=>hashStr w x
def xj:∀{k:Key}{v:Value},Qv k v=true->(∃i t,k=Sum.inl i/\v=Value.int i t)\/(∃x t,k=Sum.inr x/\v=Value.str x t)
 |.inl i,v,h=>by
  obtain⟨t,e⟩:=Value.isInt_shape (k:=i) (v:=v) h;exact .inl ⟨i,t,rfl,e⟩
 |.inr x,v,h=>by
  obtain⟨t,e⟩:=Value.isStrOf_shape (x:=x) (v:=v) h;exact .inr ⟨x,t,rfl,e⟩
def Mj(i:Int)(t:Tok):Qv (.inl i) (.int i t)=true:=by simp[Qv,Value.isInt]
def dz(x:Str)(t:Tok):Qv (.inr x) (.str x t)=true:=by simp[Qv,Value.isStrOf]
def z1p(a b:Int):decide ((Sum.inl a:Key)=Sum.inl b)=(a==b):=by
 by_cases e:a=b
 ·subst e;simp
 ·have h:¬ (Sum.inl a:Key)=Sum.inl b:=λq=>e (Sum.inl.inj q);rw[decide_eq_false h];exact(beq_eq_false_iff_ne.mpr e).symm
def z1m(a b:Str):decide ((Sum.inr a:Key)=Sum.inr b)=decide (a=b):=by
 by_cases e:a=b
 ·subst e;simp
 ·have h:¬ (Sum.inr a:Key)=Sum.inr b:=λq=>e (Sum.inr.inj q);rw[decide_eq_false h,decide_eq_false e]
def z1o(a:Int)(b:Str):decide ((Sum.inl a:Key)=Sum.inr b)=false:=decide_eq_false (λq=>nomatch q)
def z1n(a:Str)(b:Int):decide ((Sum.inr a:Key)=Sum.inl b)=false:=decide_eq_false (λq=>nomatch q)
def yx(prog:Program)(w:World):PySem.KeyKind prog w Key where
 is:=Qv
 hash:=keyH w
 inj:=λv a b ha hb=>by
  rcases xj ha with⟨i,t,rfl,rfl⟩|⟨x,t,rfl,rfl⟩
  ·rcases xj hb with⟨j,u,rfl,e⟩|⟨y,u,rfl,e⟩
   ·injection e with e1 _;rw[e1]
   ·exact nomatch e
  ·rcases xj hb with⟨j,u,rfl,e⟩|⟨y,u,rfl,e⟩
   ·exact nomatch e
   ·injection e with e1 _;rw[e1]
 byValue:=λk v h=>by
  rcases xj h with⟨i,t,rfl,rfl⟩|⟨x,t,rfl,rfl⟩ <;> rfl
 pyHash:=λhv h=>by
  rcases xj hv with⟨i,t,rfl,rfl⟩|⟨x,t,rfl,rfl⟩
  ·exact wpAny_pyHash_int h
  ·exact wpAny_pyHash_str h
 eqBool:=λhu hv h=>by
  rcases xj hu with⟨i,t,rfl,rfl⟩|⟨x,t,rfl,rfl⟩
  ·rcases xj hv with⟨j,u,rfl,rfl⟩|⟨y,u,rfl,rfl⟩
   ·rw[z1p]at h;exact wpAny_eqBool_int h
   ·rw[z1o]at h;exact SeqAt.EqAt.int_str i t y u _ _ _ _ h
  ·rcases xj hv with⟨j,u,rfl,rfl⟩|⟨y,u,rfl,rfl⟩
   ·rw[z1n]at h;exact SeqAt.EqAt.str_int x t j u _ _ _ _ h
   ·rw[z1m]at h;exact wpAny_eqBool_str h
 «strs»:=λk x t v h=>by
  rcases xj h with⟨i,u,rfl,e⟩|⟨y,u,rfl,e⟩
  ·exact nomatch e
  ·injection e with e1 _
   subst e1;cases v <;> rfl
def Uu(prog:Program)(w:World)(i:Int)(t:Tok):(yx prog w).is (.inl i) (.int i t)=true:=Mj i t
def dj(prog:Program)(w:World)(x:Str)(t:Tok):(yx prog w).is (.inr x) (.str x t)=true:=dz x t
inductive V where
 |non|bl (b:Bool)|int (i:Int)|str (x:Str)|byt (b:Array UInt8)|flt (b:UInt64)|ref (a:Addr)|ty (n:String)
 deriving DecidableEq
def RelV:V->Value->Prop
 |.non,u=>u=Value.none
 |.bl b,u=>u=Value.bool b
 |.int i,u=>∃t,u=Value.int i t
 |.str x,u=>∃t,u=Value.str x t
 |.byt b,u=>∃t,u=Value.bytes b t
 |.flt b,u=>∃t,u=Value.float b t
 |.ref a,u=>u=Value.ref a
 |.ty n,u=>u=Value.type n
abbrev Vals:List V->List Value->Prop:=Paired RelV
def Vals.length{xs:List V}{us:List Value}(r:Vals xs us):xs.length=us.length:=Paired.length r
def Vals.get:∀{xs:List V}{us:List Value}{i:Nat}{x:V},Vals xs us->xs[i]?=some x->∃u,us[i]?=some u/\RelV x u
 |_,_,_,_,.nil,e=>by simp at e
 |_,_,0,_,.cons r _,e=>by simp at e;subst e;exact⟨_,rfl,r⟩
 |_,_,i+1,x,.cons _ t,e=>by
  obtain⟨u,h1,h2⟩:=Vals.get (i:=i) (x:=x) t (by simpa using e)
  exact⟨u,by simpa using h1,h2⟩
def Vals.set{x:V}{u:Value}(r:RelV x u):∀{xs:List V}{us:List Value}(i:Nat),Vals xs us->Vals (xs.set i x) (us.set i u)
 |_,_,_,.nil=>.nil
 |_,_,0,.cons _ t=>.cons r t
 |_,_,i+1,.cons q t=>.cons q (Vals.set r i t)
def Vals.append:∀{xs ys:List V}{us ws:List Value},Vals xs us->Vals ys ws->Vals (xs++ys) (us++ws)
 |_,_,_,_,.nil,s=>s
 |_,_,_,_,.cons r t,s=>.cons r (Vals.append t s)
def Vals.take:∀{xs:List V}{us:List Value}(n:Nat),Vals xs us->Vals (xs.take n) (us.take n)
 |_,_,0,_=>.nil
 |_,_,_+1,.nil=>.nil
 |_,_,n+1,.cons r t=>.cons r (Vals.take n t)
def Vals.drop:∀{xs:List V}{us:List Value}(n:Nat),Vals xs us->Vals (xs.drop n) (us.drop n)
 |_,_,0,r=>r
 |_,_,_+1,.nil=>.nil
 |_,_,n+1,.cons _ t=>Vals.drop n t
def RelO:Option V->Option Value->Prop
 |some v,some u=>RelV v u
 |none,none=>True
 |_,_=>False
def KV{κ:Type}:List (κ×V)->List (κ×Value)->Prop:=Paired λ(p:κ×V)(q:κ×Value)=>p.1=q.1/\RelV p.2 q.2
def kV:Key->V
 |.inl i=>.int i
 |.inr x=>.str x
inductive HO where
  |lst (xs:List V)
  |tup (xs:List V)
  |dK (kvs:List (Key×V))|dT (kvs:List (List Key×V))
  |set (S:Int->Bool) (n:Nat)
  |ins (C dx:Addr) (fs:List (Str×V))
  |own (x:Addr)
  |xd (fs:List (Str×V))
  |met (f x:Addr)
  |rng (lo hi:Int)
  |frz (o:Obj) (u:HO)
  |tbl (ps:Array Value)
  |ext (φ:Heap->Prop)
abbrev Hp:=Addr->Option HO
def upd(H:Hp)(a:Addr)(o:HO):Hp:=λb=>if b=a then some o else H b
def zu{H:Hp}{a:Addr}{o:HO}:upd H a o a=some o:=by unfold upd;rw[if_pos rfl]
def zy{H:Hp}{a b:Addr}{o:HO}(h:b≠a):upd H a o b=H b:=by unfold upd;rw[if_neg h]
def Pu{H:Hp}{a:Addr}{o u:HO}:upd (upd H a o) a u=upd H a u:=by
 funext b;unfold upd;split <;> rfl
def zx{H:Hp}{a b:Addr}{o:HO}(h:H a=some o)(h':H b=none):a≠b:=by
 intro e;subst e;rw[h]at h';cases h'
section
variable(P:Program)(w:World)
def xy(H:Hp)(h:Heap)(a:Addr):HO->Prop
 |.lst xs=>xs.length<=sizeLine/\∃(its:List Value)(n:Nat),Vals xs its/\h.get? a=some {cls:=.type "list",data:=.seq its.toArray n}
 |.tup xs=>xs.length<=sizeLine/\∃its:List Value,Vals xs its/\IsTup h a its.toArray/\∃o,h.get? a=some o/\o.dict=none
 |.dK kvs=>kvs.length<=sizeLine/\(a==sysModules)=false/\∃vs,KV kvs vs/\h.DictOf (yx P w) a vs
 |.dT kvs=>kvs.length<=sizeLine/\(a==sysModules)=false/\∃xs:List (List Key×Addr×Value),
   Paired (λ(p:List Key×V)(q:List Key×Addr×Value)=>p.1=q.1/\H q.2.1=some (.tup (p.1.map kV))/\RelV p.2 q.2.2) kvs xs /\
   ∃o es ep,h.get? a=some o/\o.ExactDict/\o.data=.dict es ep/\es.toList=xs.map (entryOfKey (tupleKind (yx P w)))/\(xs.map (·.1)).Nodup
 |.set S n=>h.SetOf (intKind P w) a S n
 |.ins C dx fs=>H dx=some (.own a)/\fs.length<=1000/\dx≠a/\h.get? a=some (W.instObj C dx) /\
   ∃mA,h.Ns1 dx mA/\(∀f,RelO (fs.lookup f) (mA f))/\PySem.Within mA (fs.map (·.1))
 |.own _=>∃o,h.get? a=some o
 |.xd fs=>∃mA,h.Ns1 a mA/\∀f,RelO (fs.lookup f) (mA f)
 |.rng lo hi=>∃t u v,h.get? a=some {cls:=.type "range",data:=.fields #[.int lo t,.int hi u,.int 1 v]}
 |.frz o u=>h.get? a=some o/\xy H h a u
 |.tbl ps=>h.get? a=some {cls:=.none,data:=.fields ps}
 |.met f x=>h.get? a=some (W.methodObj (.ref f) (.ref x))
 |.ext φ=>φ h/\(∃o,h.get? a=some o)/\∀h1 h2:Heap,φ h1->(∀o,h1.get? a=some o->h2.get? a=some o)->φ h2
def HOk(H:Hp)(h:Heap):Prop:=∀a o,H a=some o->xy P w H h a o
end
variable{P:Program}{w:World}{H H':Hp}{h h':Heap}{a:Addr}{o:HO}
def xy.lt(x:xy P w H h a o):a<h.objs.size:=by
 cases o with
 |lst xs=>obtain⟨_,_,_,_,e⟩:=x;exact zae e
 |tup xs=>obtain⟨_,_,_,p⟩:=x;exact p.1.lt
 |dK kvs=>obtain⟨_,_,_,_,o,_,_,e,_⟩:=x;exact zae e
 |dT kvs=>obtain⟨_,_,_,_,o,_,_,e,_⟩:=x;exact zae e
 |set S n=>obtain⟨o,_,_,_,e,_⟩:=x;exact zae e
 |ins C dx fs=>obtain⟨_,_,_,e,_⟩:=x;exact zae e
 |own y=>obtain⟨_,e⟩:=x;exact zae e
 |xd fs=>obtain⟨_,⟨_,_,_,e,_⟩,_⟩:=x;exact zae e
 |rng lo hi=>obtain⟨_,_,_,e⟩:=x;exact zae e
 |frz ob u=>obtain⟨e,_⟩:=x;exact zae e
 |tbl ps=>exact zae (show h.get? a=some _ from x)
 |met f y=>exact zae (show h.get? a=some _ from x)
 |ext φ=>obtain⟨_,⟨_,e⟩,_⟩:=x;exact zae e
def Paired.mapP{α β:Type}{F G:α->β->Prop}:∀{l₁:List α}{l₂:List β},Paired F l₁ l₂->(∀a b,F a b->G a b)->Paired G l₁ l₂
 |_,_,.nil,_=>.nil
 |_,_,.cons r t,f=>.cons (f _ _ r) (Paired.mapP t f)
def xy.stay(x:xy P w H h a o)(k:∀ b u,(b=a\/H b=some (.own a))->h.get? b=some u->h'.get? b=some u)(ho:∀ b,H b=some (.own a)->H' b=some (.own a))(ht:∀ b xs,H b=some (.tup xs)->H' b=some (.tup xs)):xy P w H' h' a o:=by
 induction o with
 |lst xs=>obtain⟨z,its,n,r,e⟩:=x;exact⟨z,its,n,r,k _ _ (.inl rfl) e⟩
 |tup xs=>obtain⟨z,its,r,⟨ob,e,c⟩,od,ed,cd⟩:=x;exact⟨z,its,r,⟨ob,k _ _ (.inl rfl) e,c⟩,od,k _ _ (.inl rfl) ed,cd⟩
 |dK kvs=>obtain⟨z,y,vs,r,ob,es,ep,e,c⟩:=x;exact⟨z,y,vs,r,ob,es,ep,k _ _ (.inl rfl) e,c⟩
 |dT kvs =>
  obtain⟨z,y,xs,r,ob,es,ep,e,c⟩:=x;exact⟨z,y,xs,Paired.mapP r λp q z=>⟨z.1,ht _ _ z.2.1,z.2.2⟩,ob,es,ep,k _ _ (.inl rfl) e,c⟩
 |set S n=>obtain⟨ob,es,ep,t,e,c⟩:=x;exact⟨ob,es,ep,t,k _ _ (.inl rfl) e,c⟩
 |ins C dx fs =>
  obtain⟨d,z,ne,e,mA,⟨od,es,ep,e2,c⟩,r⟩:=x;exact⟨ho _ d,z,ne,k _ _ (.inl rfl) e,mA,⟨od,es,ep,k _ _ (.inr d) e2,c⟩,r⟩
 |own y=>obtain⟨ob,e⟩:=x;exact⟨ob,k _ _ (.inl rfl) e⟩
 |xd fs=>obtain⟨mA,⟨od,es,ep,e,c⟩,r⟩:=x;exact⟨mA,⟨od,es,ep,k _ _ (.inl rfl) e,c⟩,r⟩
 |rng lo hi=>obtain⟨t,u,v,e⟩:=x;exact⟨t,u,v,k _ _ (.inl rfl) e⟩
 |frz ob u ih=>obtain⟨e,q⟩:=x;exact⟨k _ _ (.inl rfl) e,ih q⟩
 |tbl ps =>
  have e:h.get? a=some {cls:=.none,data:=.fields ps}:=x;show h'.get? a=some {cls:=.none,data:=.fields ps};exact k a _ (.inl rfl) e
 |met f y =>
  have e:h.get? a=some (W.methodObj (.ref f) (.ref y)):=x;show h'.get? a=some (W.methodObj (.ref f) (.ref y));exact k a _ (.inl rfl) e
 |ext φ=>obtain⟨p,⟨o,e⟩,st⟩:=x;exact⟨st _ _ p λo q=>k _ _ (.inl rfl) q,⟨o,k _ _ (.inl rfl) e⟩,st⟩
def HOk.lt(x:HOk P w H h)(e:H a=some o):a<h.objs.size:=(x a o e).lt
def HOk.fresh(x:HOk P w H h)(e:h.objs.size<=a):H a=none:=by
 cases q:H a with
 |none=>rfl
 |some u=>exact absurd (Nat.lt_of_lt_of_le (x.lt q) e) (Nat.lt_irrefl _)
def HOk.kept(x:HOk P w H h)(k:∀ b u,h.get? b=some u->h'.get? b=some u):HOk P w H h':=λa o e =>
 (x a o e).stay (λb u _ q=>k b u q) (λ_ q=>q) λ_ _ q=>q
def HOk.laid(x:HOk P w H h)(k:∀ b u,h.get? b=some u->h'.get? b=some u)(hp:h.objs.size<=a)(new:xy P w (upd H a o) h' a o):HOk P w (upd H a o) h':=λb u e=>by
 have hn:=x.fresh hp;by_cases hb:b=a
 ·subst hb;rw[zu]at e;cases e;exact new
 ·rw[zy hb]at e;exact(x b u e).stay (λc v _ q=>k c v q) (λc q=>by rw[zy (zx q hn)];exact q) λc xs q=>by rw[zy (zx q hn)];exact q
def Rd(H:Hp)(a:Addr)(u:HO):Prop:=H a=some u\/∃o,H a=some (.frz o u)
def Rd.ok{P:Program}{w:World}{H:Hp}{h:Heap}{a:Addr}{u:HO}(r:Rd H a u)(x:HOk P w H h):xy P w H h a u:=by
 rcases r with r|⟨o,r⟩
 ·exact x a u r
 ·obtain⟨_,q⟩:=x a _ r;exact q
def Mut:Option HO->Prop
 |some (.lst _)=>True
 |some (.dK _)=>True
 |some (.dT _)=>True
 |some (.set _ _)=>True
 |some (.ins _ _ _)=>True
 |some (.ext _)=>True
 |_=>False
section
variable{x e:Addr}{o':HO}
def HOk.write(ok:HOk P w H h)(mu:Mut (H x))(he:e=x\/H e=some (.own x))(k:∀ b u,b≠e->h.get? b=some u->h'.get? b=some u)(heo:∃ u,h'.get? e=some u)(new:xy P w (upd H x o') h' x o'):HOk P w (upd H x o') h':=λb u q=>by
 have nown:∀c y,H c=some (.own y)->c≠x:=λc y r z=>by subst z;rw[r]at mu;exact mu
 have ntup:∀c xs,H c=some (.tup xs)->c≠x:=λc xs r z=>by subst z;rw[r]at mu;exact mu
 by_cases hb:b=x
 ·subst hb;rw[zu]at q;cases q;exact new
 ·rw[zy hb]at q;by_cases hbe:b=e
  ·have q':H b=some (.own x):=by
    rcases he with z|z
    ·exact absurd (hbe.trans z) hb
    ·rw[hbe];exact z
   rw[q]at q';cases q';obtain⟨v,hv⟩:=heo;exact⟨v,by rw[hbe];exact hv⟩
  ·refine(ok b u q).stay (λc v hc r=>k c v ?_ r) (λc r=>by rw[zy (nown c b r)];exact r) λc xs r=>by rw[zy (ntup c xs r)];exact r
   rcases hc with rfl|hc
   ·exact hbe
   ·rintro rfl;rcases he with z|z
    ·exact nown c b hc z
    ·rw[hc]at z;cases z;exact hb rfl
end
structure Un(fs ex:List Addr)(H H':Hp)(h h':Heap):Prop where
 keep:∀b o,h.get? b=some o->H b=none->b∉fs->b∉ex->h'.get? b=some o
 slot:∀b o,h.get? b=some o->H b=none->b∈fs->b∉ex->∃sl,h'.get? b=some {o with slots:=sl}
 free:∀b o,h.get? b=some o->H b=none->b∉ex->H' b=none
 there:∀b o,h.get? b=some o->b∉ex->∃o',h'.get? b=some o'
 tups:∀b xs,H b=some (.tup xs)->H' b=some (.tup xs)
 frzs:∀b o u,H b=some (.frz o u)->H' b=some (.frz o u)
 tbls:∀b ps,H b=some (.tbl ps)->∃more,H' b=some (.tbl (ps++more))
section
variable{fs ex:List Addr}{H1:Hp}{h1:Heap}{x e:Addr}
def Un.any(u:Un fs ex H H1 h h1){b:Addr}{ob:Obj}(q:h.get? b=some ob)(n:H b=none)(hx:b∉ex):∃sl,h1.get? b=some {ob with slots:=sl}:=by
 by_cases hb:b∈fs
 ·exact u.slot b ob q n hb hx
 ·exact⟨ob.slots,u.keep b ob q n hb hx⟩
def Un.kept(k:∀ b u,h.get? b=some u->h'.get? b=some u):Un fs ex H H h h' :=
 ⟨λb ob q _ _ _=>k b ob q,λb ob q _ _ _=>⟨ob.slots,k b ob q⟩,λ_ _ _ n _=>n,λb ob q _=>⟨ob,k b ob q⟩,λ_ _ q=>q,λ_ _ _ q=>q,λ_ ps q=>⟨#[],by rw[q];simp⟩⟩
def Un.refl:Un fs ex H H h h:=Un.kept λ_ _ q=>q
def Un.laid(k:∀ b u,h.get? b=some u->h'.get? b=some u)(hp:h.objs.size<=a)(hn:H a=none):Un fs ex H (upd H a o) h h' where
 keep:=λb u q _ _ _=>k b u q
 slot:=λb u q _ _ _=>⟨u.slots,k b u q⟩
 free:=λb u q n _=>by rw[zy (Nat.ne_of_lt (Nat.lt_of_lt_of_le (zae q) hp))];exact n
 there:=λb u q _=>⟨u,k b u q⟩
 tups:=λb xs q=>by rw[zy (zx q hn)];exact q
 frzs:=λb u xs q=>by rw[zy (zx q hn)];exact q
 tbls:=λb ps q=>⟨#[],by rw[zy (zx q hn),q];simp⟩
def Un.write(mu:Mut (H x))(he:e=x\/H e=some (.own x))(k:∀ b u,b≠e->h.get? b=some u->h'.get? b=some u)(heo:∃ u,h'.get? e=some u):Un fs ex H (upd H x o) h h':=by
 have hx:∀b,H b=none->b≠x:=λb n z=>by subst z;rw[n]at mu;exact mu
 have hb:∀b,H b=none->b≠e:=λb n z=>by
  subst z;rcases he with r|r
  ·exact hx b n r
  ·rw[n]at r;cases r
 have hm:∀b u,H b=some u->¬ Mut (some u)->b≠x:=λb u q nm z=>by subst z;rw[q]at mu;exact nm mu
 refine⟨λb u q n _ _=>k b u (hb b n) q,λb u q n _ _=>⟨u.slots,k b u (hb b n) q⟩,λb u q n _=>by rw[zy (hx b n)];exact n,λb u q _=>?_,
  λb xs q=>by rw[zy (hm b _ q λz=>z)];exact q,λb u xs q=>by rw[zy (hm b _ q λz=>z)];exact q,λb ps q=>⟨#[],by rw[zy (hm b _ q λz=>z),q];simp⟩⟩
 by_cases hbe:b=e
 ·subst hbe;exact heo
 ·exact⟨u,k b u hbe q⟩
end
def trk(h:Heap)(H:Hp):List Addr:=(List.range h.objs.size).filter λa=>(H a).isSome
def hidT(h:Heap)(H:Hp):Heap:=W.hideAll h (trk h H)
def Mo(h:Heap)(H:Hp):(hidT h H).objs.size=h.objs.size:=W.hideAll_size _ _
def Hj{h:Heap}{H:Hp}{b:Addr}{o:Obj}(e:h.get? b=some o)(n:H b=none):(hidT h H).get? b=some o :=
 W.hideAll_get _ e λhm=>by
  have q:(H b).isSome=true:=(List.mem_filter.mp hm).2;rw[n]at q;simp at q
def C9{h:Heap}{H:Hp}{b:Addr}{o:Obj}(e:(hidT h H).get? b=some o):h.get? b=some o/\H b=none:=by
 have e':h.get? b=some o:=W.of_hideAll (trk h H) e;refine⟨e',?_⟩;cases q:H b with
 |none=>rfl
 |some x =>
  have hm:b∈trk h H:=List.mem_filter.mpr ⟨List.mem_range.mpr (zae e'),by simp[q]⟩
  have z:(hidT h H).get? b=none:=W.hideAll_none (trk h H) hm;rw[z]at e;cases e
structure Mod(K:W.Frag)(mg:Str->Option Value)(base:Heap):Prop where
 kin:K.In base
 glob:base.Ns mainGlobals mg
 blt:∃mb,base.Ns builtinsNs mb/\∀x:Str,x≠"__name__"->mb x=bootBuiltins x
 nolimit:base.NoLimit
structure Cx where
 prog:Program
 w:World
 K:W.Frag
 mg:Str->Option Value
 base:Heap
 A:Around
 N:List Str
 s₀:Shared
 H₀:Hp
 env:Env
 outer:List Env
 stack:List Env
 ex:List Addr
 fn:Str->Bool
 calm:Bool
 pn:List (Addr×Obj)
 xe:Value->Shared->Prop
def frs(l:List Env):List Addr:=l.filterMap (·.frame)
abbrev Cx.fs(X:Cx):List Addr:=frs X.outer
def Vis(sc:Scope)(x:Str):Prop:=sc.names.lookup x=some .local\/sc.names.lookup x=some .cell\/sc.names.lookup x=some .free
def Loc(sc:Scope)(x:Str):Prop:=sc.names.lookup x=some .local\/sc.names.lookup x=some .cell
def Look(env:Env)(h:Heap)(m:Str->Option Value)(x:Str)(u:Value):Prop :=
 (env.kindOf x=some .local/\m x=some u)\/((env.kindOf x=some .cell\/env.kindOf x=some .free)/\∃c,env.cells.lookup x=some c/\h.IsCell c (some u))
structure Cx.Ok(X:Cx):Prop where
 mod:Mod X.K X.mg X.base
 kind:X.env.scope.kind=.function
 glob:X.env.globals=mainGlobals
 blt:X.env.builtins=builtinsNs
 above:X.s₀.heap.objs.size<=X.env.locals
 inj:∀x y c,X.env.cells.lookup x=some c->X.env.cells.lookup y=some c->x=y
 has:∀x,(X.env.kindOf x=some .cell\/X.env.kindOf x=some .free)->∃c,X.env.cells.lookup x=some c
 cab:∀x c,X.fn x=true->X.env.cells.lookup x=some c->X.s₀.heap.objs.size<=c
 hd:X.calm=true->X.A.handled=none
 frames:X.A.frames=some X.stack
 stk:X.stack=X.outer\/(X.stack=X.env::X.outer/\X.env.frame=some X.env.locals)
 exf:∀b∈X.ex,b≠X.env.locals/\∀x c,X.env.cells.lookup x=some c->c≠b
 bs:∀b o,X.base.get? b=some o->X.s₀.heap.get? b=some o/\X.H₀ b=none
 bsz:X.base.objs.size<=X.s₀.heap.objs.size
 noex:∀b o,X.base.get? b=some o->b∉X.ex
 exfs:∀b∈X.ex,b∉X.fs
 funs:X.s₀.heap.FunFrames X.base X.outer
 frf:∀b∈X.fs,X.H₀ b=none
structure Inv(X:Cx)(pn:List (Addr×Obj))(σ:List (Option V))(H:Hp)(s:Shared):Prop where
 ok:X.Ok
 os:s.os=X.s₀.os
 bare:AllBare s.gens
 base:Un X.fs X.ex X.H₀ H X.s₀.heap s.heap
 loc:∃m,s.heap.Ns X.env.locals m/\∀(i:Nat)(x:Str)(v:V),X.N[i]?=some x->σ[i]?=some (some v)->Vis X.env.scope x->∃u,RelV v u/\Look X.env s.heap m x u
 cell:∀x c,X.env.cells.lookup x=some c->∃v,s.heap.IsCell c v
 free:H X.env.locals=none
 freeC:∀x c,X.env.cells.lookup x=some c->H c=none
 pin:∀p∈X.pn++pn,s.heap.get? p.1=some p.2/\H p.1=none/\p.1≠X.env.locals/\p.1∉X.fs/\∀v,p.2.data≠.cell v
 hok:HOk X.prog X.w H s.heap
 len:σ.length=X.N.length
variable{X:Cx}{pn:List (Addr×Obj)}{σ:List (Option V)}{s:Shared}
def Cx.Ok.nofr(ok:X.Ok){b:Addr}{o:Obj}(e:X.base.get? b=some o):b∉X.fs:=λhb=>by
 have:=(ok.funs.mem hb).1;rw[e]at this;cases this
def Inv.bs(I:Inv X pn σ H s):∀b o,X.base.get? b=some o->s.heap.get? b=some o/\H b=none:=λb o e =>
 ⟨I.base.keep b o (I.ok.bs b o e).1 (I.ok.bs b o e).2 (I.ok.nofr e) (I.ok.noex b o e),I.base.free b o (I.ok.bs b o e).1 (I.ok.bs b o e).2 (I.ok.noex b o e)⟩
def Inv.bk(I:Inv X pn σ H s):∀b o,X.base.get? b=some o->s.heap.get? b=some o:=λb o e=>(I.bs b o e).1
def Inv.mod(I:Inv X pn σ H s):Mod X.K X.mg X.base:=I.ok.mod
def Inv.kIn(I:Inv X pn σ H s):X.K.In s.heap:=I.ok.mod.kin.keeps I.bk
def Inv.fr(I:Inv X pn σ H s):∃m,Fr X.base X.env.locals s.heap m :=
 let ⟨m,hn,_⟩:=I.loc
 ⟨m,hn,I.bk,zak I.ok.bsz I.ok.above⟩
def Inv.lt(I:Inv X pn σ H s):X.env.locals<s.heap.objs.size:=let ⟨_,hn,_⟩:=I.loc;hn.lt
def Inv.sz(I:Inv X pn σ H s):X.s₀.heap.objs.size<=s.heap.objs.size:=zak I.ok.above (Nat.le_of_lt I.lt)
def Inv.nofs(I:Inv X pn σ H s){a:Addr}(h:s.heap.objs.size<=a):a∉X.fs:=λhb=>by
 obtain⟨_,o,ho,_⟩:=I.ok.funs.mem hb;exact absurd (Nat.lt_of_lt_of_le (zae ho) (zak I.sz h)) (Nat.lt_irrefl _)
def Inv.cne(I:Inv X pn σ H s):∀x c,X.env.cells.lookup x=some c->c≠X.env.locals:=λx c e z=>by
 obtain⟨v,o,ho,hd⟩:=I.cell x c e;obtain⟨m,⟨o',es,ep,ho',hd',_⟩,_⟩:=I.loc;rw[z,ho']at ho;cases ho;rw[hd']at hd;cases hd
def Inv.funs(I:Inv X pn σ H s):s.heap.FunFrames X.base X.outer:=by
 have all:∀(l:List Env),(∀b∈frs l,b∈X.fs)->X.s₀.heap.FunFrames X.base l->s.heap.FunFrames X.base l:=by
  intro l
  induction l with
  |nil=>intro _ _;trivial
  |cons env r ih =>
   intro hs hl;obtain⟨hk,⟨L,o,hf,hn,ho,hd⟩,hr⟩:=hl;have hL:L∈X.fs:=hs L (by unfold frs;rw[List.filterMap_cons,hf];exact zao)
   obtain⟨sl,e⟩:=I.base.slot L o ho (I.ok.frf L hL) hL λz=>I.ok.exfs L z hL;exact⟨hk,⟨L,_,hf,hn,e,hd⟩,ih (λb hb=>hs b (by unfold frs;rw[List.filterMap_cons,hf];exact zal _ hb)) hr⟩
 exact all X.outer (λ_ hb=>hb) I.ok.funs
def Inv.stack(I:Inv X pn σ H s):s.heap.FunFrames X.base X.stack:=by
 rcases I.ok.stk with e|⟨e,hf⟩
 ·rw[e];exact I.funs
 ·rw[e];obtain⟨m,hn,_⟩:=I.loc;refine .cons (by rw[I.ok.kind];decide) hf hn ?_ I.funs
  exact Heap.get?_none_of_le (zak I.ok.bsz I.ok.above)
def Inv.stkSub(I:Inv X pn σ H s):∀b∈frs X.stack,b∈X.env.locals::X.fs:=λb hb=>by
 rcases I.ok.stk with e|⟨e,hf⟩
 ·rw[e]at hb;exact zal _ hb
 ·rw[e]at hb;unfold frs at hb;rw[List.filterMap_cons,hf]at hb;exact hb
def Inv.stkFree(I:Inv X pn σ H s):∀b∈frs X.stack,H b=none:=λb hb=>by
 rcases zam.mp (I.stkSub b hb) with e|hb
 ·rw[e];exact I.free
 ·obtain⟨_,o,ho,_⟩:=I.ok.funs.mem hb;exact I.base.free b o ho (I.ok.frf b hb) λz=>I.ok.exfs b z hb
def Inv.step{g':Array GenState}{t':Nat}{d':Drawn}{ch:List Addr}(I:Inv X pn σ H s)(hch:∀ b∈ch,(b∈X.ex\/X.s₀.heap.objs.size<=b)/\b≠X.env.locals/\(∀ x c,X.env.cells.lookup x=some c->c≠b)/\∀ p∈X.pn++pn,p.1≠b)(keep:∀ b o,b≠X.env.locals->b∉X.fs->b∉ch->s.heap.get? b=some o->H b=none->h'.get? b=some o)(slot:∀ b o,b≠X.env.locals->b∈X.fs->b∉ch->s.heap.get? b=some o->H b=none->∃ sl,h'.get? b=some {o with slots:=sl})(free:∀ b o,b∉ch->s.heap.get? b=some o->H b=none->H' b=none)(there:∀ b o,b∉ch->s.heap.get? b=some o->∃ o',h'.get? b=some o')(tups:∀ b xs,H b=some (.tup xs)->H' b=some (.tup xs))(frzs:∀ b o u,H b=some (.frz o u)->H' b=some (.frz o u))(tbls:∀ b ps,H b=some (.tbl ps)->∃ more,H' b=some (.tbl (ps++more)))(ns:∀ m,s.heap.Ns X.env.locals m->h'.Ns X.env.locals m)(hok:HOk X.prog X.w H' h')(hg:AllBare g') :
  Inv X pn σ H' {s with heap:=h',gens:=g',drawn:=d',toks:=t'}:=by
 have neL:∀b o,X.s₀.heap.get? b=some o->b≠X.env.locals:=λb o e=>Nat.ne_of_lt (Nat.lt_of_lt_of_le (zae e) I.ok.above);have neC:∀b o,X.s₀.heap.get? b=some o->b∉X.ex->b∉ch:=λb o e hx hb=>by
  rcases(hch b hb).1 with z|z
  ·exact hx z
  ·exact absurd (Nat.lt_of_lt_of_le (zae e) z) (Nat.lt_irrefl _)
 have cellK:∀x c,X.env.cells.lookup x=some c->∀v,s.heap.IsCell c v->h'.IsCell c v:=λx c e v ⟨o,ho,hd⟩=>by
  have nch:c∉ch:=λz=>(hch c z).2.2.1 x c e rfl;by_cases hc:c∈X.fs
  ·obtain⟨sl,q⟩:=slot c o (I.cne x c e) hc nch ho (I.freeC x c e);exact⟨_,q,hd⟩
  ·exact⟨o,keep c o (I.cne x c e) hc nch ho (I.freeC x c e),hd⟩
 refine⟨I.ok,I.os,hg,⟨λb o e n hb hx=>?_,λb o e n hb hx=>?_,λb o e n hx=>?_,λb o e hx=>?_,λb xs e=>tups b xs (I.base.tups b xs e),λb o xs e=>frzs b o xs (I.base.frzs b o xs e),λb ps e=>?_⟩,?_,λx c e=>?_,?_,λx c e=>?_,λp hp=>?_,hok,I.len⟩
 ·exact keep b o (neL b o e) hb (neC b o e hx) (I.base.keep b o e n hb hx) (I.base.free b o e n hx)
 ·obtain⟨sl,e1⟩:=I.base.slot b o e n hb hx;obtain⟨sl',e2⟩:=slot b _ (neL b o e) hb (neC b o e hx) e1 (I.base.free b o e n hx);exact⟨sl',e2⟩
 ·obtain⟨o',e1⟩:=I.base.there b o e hx;exact free b o' (neC b o e hx) e1 (I.base.free b o e n hx)
 ·obtain⟨o',e1⟩:=I.base.there b o e hx;exact there b o' (neC b o e hx) e1
 ·obtain⟨m1,e1⟩:=I.base.tbls b ps e;obtain⟨m2,e2⟩:=tbls b _ e1;exact⟨m1++m2,by rw[e2,Array.append_assoc]⟩
 ·obtain⟨m,hn,hl⟩:=I.loc;refine⟨m,ns m hn,λi x v e1 e2 e3=>?_⟩;obtain⟨u,r,l⟩:=hl i x v e1 e2 e3;refine⟨u,r,?_⟩;rcases l with l|⟨k,c,e,z⟩
  ·exact .inl l
  ·exact .inr ⟨k,c,e,cellK x c e _ z⟩
 ·obtain⟨v,z⟩:=I.cell x c e;exact⟨v,cellK x c e v z⟩
 ·obtain⟨m,⟨o,_,_,ho,_⟩,_⟩:=I.loc;exact free _ o (λz=>(hch _ z).2.1 rfl) ho I.free
 ·obtain⟨v,o,ho,hd⟩:=I.cell x c e;exact free c o (λz=>(hch c z).2.2.1 x c e rfl) ho (I.freeC x c e)
 ·obtain⟨e,n,ne,nf,d⟩:=I.pin p hp;have nch:p.1∉ch:=λz=>(hch p.1 z).2.2.2 p hp rfl;exact⟨keep p.1 p.2 ne nf nch e n,free p.1 p.2 nch e n,ne,nf,d⟩
def Inv.un{t':Nat}(I:Inv X pn σ H s)(u:Un X.fs [] H H' s.heap h')(hok:HOk X.prog X.w H' h'):Inv X pn σ H' {s with heap:=h',toks:=t'}:=by
 obtain⟨m,⟨o,es,ep,ho,r⟩,_⟩:=id I.loc;obtain⟨sl,hL⟩:=u.any ho I.free (by simp)
 exact I.step (g':=s.gens) (d':=s.drawn) (ch:=[]) (λ_ z=>nomatch z) (λb o _ hb _ e n=>u.keep b o e n hb (by simp)) (λb o _ hb _ e n=>u.slot b o e n hb (by simp)) (λb o _ e n=>u.free b o e n (by simp)) (λb o _ e=>u.there b o e (by simp)) u.tups u.frzs u.tbls (λm' hm=>by
  obtain⟨o',es',ep',ho',r'⟩:=hm;rw[ho]at ho';cases ho';exact⟨_,es',ep',hL,r'⟩) hok I.bare
def Inv.call{g':Array GenState}{t':Nat}{d':Drawn}{ch:List Addr}(I:Inv X pn σ H s)(u:Un (frs X.stack) ch H H' s.heap h')(hok:HOk X.prog X.w H' h')(hg:AllBare g')(hch:∀ b∈ch,(b∈X.ex\/X.s₀.heap.objs.size<=b)/\b≠X.env.locals/\(∀ x c,X.env.cells.lookup x=some c->c≠b)/\∀ p∈X.pn++pn,p.1≠b) :
  Inv X pn σ H' {s with heap:=h',gens:=g',drawn:=d',toks:=t'}:=by
 obtain⟨m,⟨o,es,ep,ho,r⟩,_⟩:=id I.loc;obtain⟨sl,hL⟩:=u.any ho I.free λz=>(hch _ z).2.1 rfl;exact I.step (ch:=ch) hch (λb o hL hb hc e n=>u.keep b o e n (λz=>(zam.mp (I.stkSub b z)).elim hL hb) hc) (λb o _ _ hc e n=>u.any e n hc) (λb o hc e n=>u.free b o e n hc) (λb o hc e=>u.there b o e hc) u.tups u.frzs u.tbls (λm' hm=>by
  obtain⟨o',es',ep',ho',r'⟩:=hm;rw[ho]at ho';cases ho';exact⟨_,es',ep',hL,r'⟩) hok hg
def Inv.turned{t':Nat}{it:Addr}(I:Inv X pn σ H s)(k:∀ b o,b≠it->s.heap.get? b=some o->h'.get? b=some o)(hn:H it=none)(hL:it≠X.env.locals)(h1:it∈X.ex\/X.s₀.heap.objs.size<=it)(h2:∀ x c,X.env.cells.lookup x=some c->c≠it)(h3:∀ p∈X.pn++pn,p.1≠it):Inv X pn σ H {s with heap:=h',toks:=t'}:=by
 have nit:∀b u,H b=some u->b≠it:=λb u e z=>by rw[z,hn]at e;cases e
 refine I.step (g':=s.gens) (d':=s.drawn) (ch:=[it]) (λb hb=>?_) (λb o _ _ hc e _=>k b o (λz=>hc (by simp[z])) e) (λb o _ _ hc e _=>⟨o.slots,k b o (λz=>hc (by simp[z])) e⟩) (λ_ _ _ _ n=>n)
  (λb o hc e=>⟨o,k b o (λz=>hc (by simp[z])) e⟩) (λ_ _ e=>e) (λ_ _ _ e=>e) (λb ps e=>⟨#[],by rw[e];simp⟩) (λm hm=>?_) (λb u e=>?_) I.bare
 ·have e:b=it:=by simpa using hb
  subst e;exact⟨h1,hL,h2,h3⟩
 ·obtain⟨o,es,ep,ho,r⟩:=hm;exact⟨o,es,ep,k _ o (Ne.symm hL) ho,r⟩
 ·refine(I.hok b u e).stay (λc v hc q=>k c v ?_ q) (λ_ q=>q) λ_ _ q=>q;rcases hc with z|z
  ·rw[z];exact nit b u e
  ·exact nit c _ z
def Inv.tok(I:Inv X pn σ H s)(t:Nat):Inv X pn σ H {s with toks:=t}:=I.un (h':=s.heap) (t':=t) Un.refl I.hok
def Inv.kept{t':Nat}(I:Inv X pn σ H s)(k:∀ b u,s.heap.get? b=some u->h'.get? b=some u):Inv X pn σ H {s with heap:=h',toks:=t'}:=I.un (Un.kept k) (I.hok.kept k)
def Inv.laid{a:Addr}{o:HO}{t':Nat}(I:Inv X pn σ H s)(k:∀ b u,s.heap.get? b=some u->h'.get? b=some u)(hp:s.heap.objs.size<=a)(new:xy X.prog X.w (upd H a o) h' a o) :
  Inv X pn σ (upd H a o) {s with heap:=h',toks:=t'}:=I.un (Un.laid k hp (I.hok.fresh hp)) (I.hok.laid k hp new)
def Inv.write{x e:Addr}{o:HO}{t':Nat}(I:Inv X pn σ H s)(mu:Mut (H x))(he:e=x\/H e=some (.own x))(k:∀ b u,b≠e->s.heap.get? b=some u->h'.get? b=some u)(heo:∃ u,h'.get? e=some u)(new:xy X.prog X.w (upd H x o) h' x o):Inv X pn σ (upd H x o) {s with heap:=h',toks:=t'}:=I.un (Un.write mu he k heo) (I.hok.write mu he k heo new)
def Inv.weak{σ':List (Option V)}(I:Inv X pn σ H s)(hl:σ'.length=σ.length)(w:∀ (i:Nat) v,σ'[i]?=some (some v)->σ[i]?=some (some v)):Inv X pn σ' H s :=
 ⟨I.ok,I.os,I.bare,I.base,let ⟨m,hn,hl'⟩:=I.loc;⟨m,hn,λi x v e1 e2 e3=>hl' i x v e1 (w i v e2) e3⟩,I.cell,I.free,I.freeC,I.pin,I.hok,hl.trans I.len⟩
def Inv.pins_of{pins':List (Addr×Obj)}(I:Inv X pn σ H s)(h:∀ p∈pins',s.heap.get? p.1=some p.2/\H p.1=none/\p.1≠X.env.locals/\p.1∉X.fs/\∀ v,p.2.data≠.cell v):Inv X pins' σ H s :=
 ⟨I.ok,I.os,I.bare,I.base,I.loc,I.cell,I.free,I.freeC,λp hp=>(zas.mp hp).elim (λz=>I.pin p (List.mem_append_left _ z)) (h p),I.hok,I.len⟩
def R0{N:List Str}(hN:N.Nodup){i j:Nat}{x:Str}(a:N[i]?=some x)(b:N[j]?=some x):i=j:=by
 obtain⟨h1,e1⟩:=zag.mp a;obtain⟨h2,e2⟩:=zag.mp b;exact(List.getElem_inj hN).mp (e1.trans e2.symm)
def Wb{M:Model}{A:Around}{E:Value->Shared->Prop}{i:Nat}{x:Str}{v:V}{u:Value}{Q:Unit->Shared->Prop}(I:Inv X pn σ H s)(hN:X.N.Nodup)(hi:X.N[i]?=some x)(hx:Loc X.env.scope x)(r:RelV v u)(h:∀ s',Inv X pn (σ.set i (some v)) H s'->(∃ a,Heap.SameBut a s.heap s'.heap/\(a=X.env.locals\/X.env.cells.lookup x=some a))->Q () s')(hf:X.fn x=true\/X.env.scope.names.lookup x=some .local:=by first|exact .inl rfl|exact .inr rfl|assumption):wpAny M A (storeName X.env x u) Q E s:=by
 obtain⟨m,hn,hl⟩:=id I.loc;have hcls:(X.env.scope.kind==.class || (X.env.scope.kind==.module&&X.env.locals != X.env.globals))=false:=by rw[I.ok.kind];rfl
 have hiσ:i<σ.length:=by rw[I.len];exact(zag.mp hi).1
 have cne:=I.cne;have tracked:∀{a:Addr}{h':Heap},(∃o,s.heap.get? a=some o/\H a=none)->Heap.SameBut a s.heap h'->HOk X.prog X.w H h':=λ{a h'} ha hs b ob e=>by
  obtain⟨_,_,hfree⟩:=ha;refine(I.hok b ob e).stay (λc w' hc q=>(hs.2 c ?_).trans q) (λ_ q=>q) λ_ _ q=>q;rintro rfl;rcases hc with rfl|hc
  ·rw[hfree]at e;cases e
  ·rw[hfree]at hc;cases hc
 rcases hx with hk|hk
 ·refine wpAny_storeName_local hk hn (λh' hn' hs=>?_) hcls;obtain⟨oL,_,_,hoL,_⟩:=id hn;refine h _ ⟨I.ok,I.os,I.bare,⟨λb o e n hb hx=>?_,λb o e n hb hx=>?_,I.base.free,λb o e hx=>?_,I.base.tups,I.base.frzs,I.base.tbls⟩,⟨_,hn',λj y v' e1 e2 e3=>?_⟩,λy c e=>?_,I.free,I.freeC,λp hp=>?_,tracked ⟨oL,hoL,I.free⟩ hs,by simpa using I.len⟩ ⟨_,hs,.inl rfl⟩
  ·exact(hs.2 b (Nat.ne_of_lt (Nat.lt_of_lt_of_le (zae e) I.ok.above))).trans (I.base.keep b o e n hb hx)
  ·obtain⟨sl,e1⟩:=I.base.slot b o e n hb hx;exact⟨sl,(hs.2 b (Nat.ne_of_lt (Nat.lt_of_lt_of_le (zae e) I.ok.above))).trans e1⟩
  ·obtain⟨o',e1⟩:=I.base.there b o e hx;exact⟨o',(hs.2 b (Nat.ne_of_lt (Nat.lt_of_lt_of_le (zae e) I.ok.above))).trans e1⟩
  ·by_cases hj:j=i
   ·subst hj;rw[hi]at e1;cases e1;rw[List.getElem?_set_self hiσ]at e2;cases e2;exact⟨u,r,.inl ⟨hk,by simp⟩⟩
   ·rw[List.getElem?_set_ne (Ne.symm hj)]at e2;obtain⟨u',r',q⟩:=hl j y v' e1 e2 e3;refine⟨u',r',?_⟩;rcases q with⟨k,e⟩|⟨k,c,e,z⟩
    ·refine .inl ⟨k,?_⟩;have:y≠x:=λe=>hj (R0 hN e1 (e▸hi));simp[this,e]
    ·exact .inr ⟨k,c,e,z.sameBut hs (cne y c e)⟩
  ·obtain⟨w',z⟩:=I.cell y c e;exact⟨w',z.sameBut hs (cne y c e)⟩
  ·obtain⟨e,n,ne,nf,d⟩:=I.pin p hp;exact⟨(hs.2 p.1 ne).trans e,n,ne,nf,d⟩
 ·have hfn:X.fn x=true:=by
   rcases hf with z|z
   ·exact z
   ·rw[z]at hk;cases hk
  obtain⟨c,hc⟩:=I.ok.has x (.inl hk);obtain⟨w',z⟩:=I.cell x c hc;refine wpAny_storeName_cell I.ok.kind hk hc z (λh' hc' hs=>?_);obtain⟨oc,hoc,hocd⟩:=id z;refine h {s with heap:=h'} ⟨I.ok,I.os,I.bare,⟨λb o e n hb hx=>?_,λb o e n hb hx=>?_,I.base.free,λb o e hx=>?_,I.base.tups,I.base.frzs,I.base.tbls⟩,⟨m,hn.sameBut hs (Ne.symm (cne x c hc)),λj y v' e1 e2 e3=>?_⟩,λy c' e=>?_,I.free,I.freeC,λp hp=>?_,tracked ⟨oc,hoc,I.freeC x c hc⟩ hs,by simpa using I.len⟩ ⟨c,hs,.inr hc⟩
  ·exact(hs.2 b (Nat.ne_of_lt (Nat.lt_of_lt_of_le (zae e) (I.ok.cab x c hfn hc)))).trans (I.base.keep b o e n hb hx)
  ·obtain⟨sl,e1⟩:=I.base.slot b o e n hb hx;exact⟨sl,(hs.2 b (Nat.ne_of_lt (Nat.lt_of_lt_of_le (zae e) (I.ok.cab x c hfn hc)))).trans e1⟩
  ·obtain⟨o',e1⟩:=I.base.there b o e hx;exact⟨o',(hs.2 b (Nat.ne_of_lt (Nat.lt_of_lt_of_le (zae e) (I.ok.cab x c hfn hc)))).trans e1⟩
  ·by_cases hj:j=i
   ·subst hj;rw[hi]at e1;cases e1;rw[List.getElem?_set_self hiσ]at e2;cases e2;exact⟨u,r,.inr ⟨.inl hk,c,hc,hc'⟩⟩
   ·rw[List.getElem?_set_ne (Ne.symm hj)]at e2;obtain⟨u',r',q⟩:=hl j y v' e1 e2 e3;refine⟨u',r',?_⟩;rcases q with q|⟨k,c',e,z'⟩
    ·exact .inl q
    ·refine .inr ⟨k,c',e,z'.sameBut hs ?_⟩;rintro rfl;exact hj (R0 hN e1 (I.ok.inj _ _ _ e hc▸hi))
  ·by_cases hcc:c'=c
   ·subst hcc;exact⟨_,hc'⟩
   ·obtain⟨w2,z2⟩:=I.cell y c' e;exact⟨w2,z2.sameBut hs hcc⟩
  ·obtain⟨e,n,ne,nf,d⟩:=I.pin p hp;refine⟨(hs.2 p.1 ?_).trans e,n,ne,nf,d⟩;intro q;rw[q,hoc]at e;have q':oc=p.2:=Option.some.inj e;exact d w' (by rw[<- q'];exact hocd)
def Yc{M:Model}{A:Around}{E:Value->Shared->Prop}{i:Nat}{x:Str}{v:V}{u:Value}{Q:Unit->Shared->Prop}(I:Inv X pn σ H s)(hN:X.N.Nodup)(hi:X.N[i]?=some x)(hx:Loc X.env.scope x)(r:RelV v u)(h:∀ s',Inv X pn (σ.set i (some v)) H s'->Q () s')(hf:X.fn x=true\/X.env.scope.names.lookup x=some .local:=by first|exact .inl rfl|exact .inr rfl|assumption):wpAny M A (storeName X.env x u) Q E s :=
 Wb I hN hi hx r (λs' I' _=>h s' I') hf
def Inv.call'{s':Shared}{ch:List Addr}(I:Inv X pn σ H s)(ho:s'.os=s.os)(u:Un (frs X.stack) ch H H' s.heap s'.heap)(hok:HOk X.prog X.w H' s'.heap)(hg:AllBare s'.gens)(hch:∀ b∈ch,(b∈X.ex\/X.s₀.heap.objs.size<=b)/\b≠X.env.locals/\(∀ x c,X.env.cells.lookup x=some c->c≠b)/\∀ p∈X.pn++pn,p.1≠b):Inv X pn σ H' s':=by
 obtain⟨h',g',d',t',o'⟩:=s';have e:o'=s.os:=ho;subst e;exact I.call (g':=g') (t':=t') (d':=d') u hok hg hch
abbrev XK:=Value->Option Addr->Hp->Prop
abbrev St:=List (Option V)
abbrev VK:=V->Hp->Prop
abbrev TE:=St->Hp->VK->Prop
abbrev TT:=St->Hp->(Bool->Hp->Prop)->Prop
abbrev TA:=St->Hp->(List V->Hp->Prop)->Prop
structure Ends where
 nx:St->Hp->Prop
 rt:VK
 bk:St->Hp->Prop:=λ_ _=>False
 ct:St->Hp->Prop:=λ_ _=>False
abbrev TS:=Ends->St->Hp->Prop
def EP(X:Cx)(pn:List (Addr×Obj))(σ:St)(Q:VK)(u:Value)(s':Shared):Prop:=∃v H',Inv X pn σ H' s'/\RelV v u/\Q v H'
def TP(X:Cx)(pn:List (Addr×Obj))(σ:St)(Q:Bool->Hp->Prop)(b:Bool)(s':Shared):Prop:=∃H',Inv X pn σ H' s'/\Q b H'
def AP(X:Cx)(pn:List (Addr×Obj))(σ:St)(Q:List V->Hp->Prop)(us:List Value)(s':Shared):Prop:=∃vs H',Inv X pn σ H' s'/\Vals vs us/\Q vs H'
def SP(X:Cx)(pn:List (Addr×Obj))(D:Ends)(f:Flow)(s':Shared):Prop :=
 match f with
 |.next=>∃σ' H',Inv X pn σ' H' s'/\D.nx σ' H'
 |.brk=>∃σ' H',Inv X pn σ' H' s'/\D.bk σ' H'
 |.cont=>∃σ' H',Inv X pn σ' H' s'/\D.ct σ' H'
 |.ret u=>∃v σ' H',Inv X pn σ' H' s'/\RelV v u/\D.rt v H'
def PE(X:Cx)(e:Expr)(t:TE):Prop :=
 ∀(pn:List (Addr×Obj))(s:Shared)(σ:St)(H:Hp)(Q:VK),Inv X pn σ H s->t σ H Q->wpAny (model X.prog X.w) X.A (eval e X.env) (EP X pn σ Q) X.xe s
def PT(X:Cx)(e:Expr)(t:TT):Prop :=
 ∀(pn:List (Addr×Obj))(s:Shared)(σ:St)(H:Hp)(Q:Bool->Hp->Prop),Inv X pn σ H s->t σ H Q->wpAny (model X.prog X.w) X.A (isTrue e X.env (eval e X.env)) (TP X pn σ Q) X.xe s
def PW(X:Cx)(e:Expr)(t:TT):Prop :=
 ∀(whole:Sem Value)(pn:List (Addr×Obj))(s:Shared)(σ:St)(H:Hp)(Q:Bool->Hp->Prop),Inv X pn σ H s->t σ H Q->wpAny (model X.prog X.w) X.A (isTrue e X.env whole) (TP X pn σ Q) X.xe s
def PW.pt{X:Cx}{e:Expr}{t:TT}(h:PW X e t):PT X e t:=h _
def PA(X:Cx)(es:List Expr)(t:TA):Prop :=
 ∀(pos:Pos)(pn:List (Addr×Obj))(s:Shared)(σ:St)(H:Hp)(Q:List V->Hp->Prop),Inv X pn σ H s->t σ H Q->wpAny (model X.prog X.w) X.A (spliced (backTo pos (starEach es X.env))) (AP X pn σ Q) X.xe s
def PS(X:Cx)(st:Stmt)(t:TS):Prop :=
 ∀(pn:List (Addr×Obj))(s:Shared)(σ:St)(H:Hp)(D:Ends),Inv X pn σ H s->t D σ H->wpAny (model X.prog X.w) X.A (exec st X.env) (SP X pn D) X.xe s
def PSs(X:Cx)(st:List Stmt)(t:TS):Prop :=
 ∀(pn:List (Addr×Obj))(s:Shared)(σ:St)(H:Hp)(D:Ends),Inv X pn σ H s->t D σ H->wpAny (model X.prog X.w) X.A (execs st X.env) (SP X pn D) X.xe s
def thn{α:Type}{t:Sem α}{Q Q':α->Shared->Prop}{M:Model}{A:Around}{E:Value->Shared->Prop}{s:Shared}(h:wpAny M A t Q E s)(hQ:∀ a s,Q a s->Q' a s):wpAny M A t Q' E s:=wpAny_mono h hQ λ_ _ x=>x
def tVar(i:Nat):TE:=λσ H Q=>∃v,σ[i]?=some (some v)/\Q v H
def tC(v:V):TE:=λ_ H Q=>Q v H
def tj{i:Nat}{x:Str}{pos:Pos}(hN:X.N[i]?=some x)(hv:Vis X.env.scope x)(hd:(x==("__debug__" : Str))=false:=by decide)(hcd:(x==("__classdict__" : Str))=false:=by decide):PE X (.Name x pos) (tVar i):=by
 intro pn s σ H Q I h;obtain⟨v,e,h⟩:=h;obtain⟨m,hn,hl⟩:=I.loc;obtain⟨u,r,l⟩:=hl i x v hN e hv;have fin:EP X pn σ Q u s:=⟨v,H,I,r,h⟩;rcases l with⟨hk,hm⟩|⟨hk,c,hc,hcell⟩
 ·exact wpAny_Name (wpAny_loadName_local I.ok.kind hk hn hm fin) hd
 ·rcases hk with hk|hk
  ·exact wpAny_Name (wpAny_loadName_cell I.ok.kind hk hc hcell fin) hd
  ·exact wpAny_Name (wpAny_loadName_free I.ok.kind hk hc hcell fin hcd) hd
def tm {i j pos}:PE X (.Constant (.int i) j pos) (tC (.int i)):=λ_ _ _ H _ I h=>wpAny_Constant_int ⟨.int i,H,I.tok _,⟨_,rfl⟩,h⟩
def z3o {b j pos}:PE X (.Constant (.bool b) j pos) (tC (.bl b)):=λ_ _ _ H _ I h=>Constant_bool ⟨.bl b,H,I,rfl,h⟩
def z0q {j pos}:PE X (.Constant .none j pos) (tC .non):=λ_ _ _ H _ I h=>Constant_none ⟨.non,H,I,rfl,h⟩
def Nj {x j pos}:PE X (.Constant (.str x) j pos) (tC (.str x)):=λ_ _ _ H _ I h=>Calls.Constant_str ⟨.str x,H,I.tok _,⟨_,rfl⟩,h⟩
def Gl(X:Cx)(x:Str):Prop:=X.env.kindOf x=some .globalImplicit
def Mg{E:Value->Shared->Prop}{pn:List (Addr×Obj)}{s:Shared}{σ:St}{H:Hp}{x:Str}{u:Value}{pos:Pos}{Q:Value->Shared->Prop}(I:Inv X pn σ H s)(hg:Gl X x)(hm:X.mg x=some u)(h:Q u s)(hd:(x==("__debug__" : Str))=false:=by decide):wpAny (model X.prog X.w) X.A (eval (.Name x pos) X.env) Q E s :=
 Calls.Name_function_global I.ok.kind hg (Calls.loadGlobal_global (by rw[I.ok.glob];exact I.mod.glob.keeps I.bk) hm h) hd
def ju{E:Value->Shared->Prop}{pn:List (Addr×Obj)}{s:Shared}{σ:St}{H:Hp}{x:Str}{u:Value}{pos:Pos}{Q:Value->Shared->Prop}(I:Inv X pn σ H s)(hg:Gl X x)(hm:X.mg x=none)(hv:bootBuiltins x=some u)(h:Q u s)(hn:x≠"__name__":=by decide)(hd:(x==("__debug__" : Str))=false:=by decide):wpAny (model X.prog X.w) X.A (eval (.Name x pos) X.env) Q E s:=by
 obtain⟨mb,h1,h2⟩:=I.mod.blt;exact Calls.Name_function_global I.ok.kind hg (Calls.loadGlobal_builtin (by rw[I.ok.glob];exact I.mod.glob.keeps I.bk) hm (by rw[I.ok.blt];exact h1.keeps I.bk) ((h2 x hn).trans hv) h) hd
def Yu{x:Str}{v:V}{u:Value}{pos:Pos}(hg:Gl X x)(hm:X.mg x=some u)(r:RelV v u)(hd:(x==("__debug__" : Str))=false:=by decide):PE X (.Name x pos) (tC v) :=
 λ_ _ _ H _ I h=>Mg I hg hm ⟨v,H,I,r,h⟩ hd
def Dz{x:Str}{v:V}{u:Value}{pos:Pos}(hg:Gl X x)(hm:X.mg x=none)(hv:bootBuiltins x=some u)(r:RelV v u)(hn:x≠"__name__":=by decide)(hd:(x==("__debug__" : Str))=false:=by decide):PE X (.Name x pos) (tC v) :=
 λ_ _ _ H _ I h=>ju I hg hm hv ⟨v,H,I,r,h⟩ hn hd
variable{a b:Expr}{ta tb:TE}{pos:Pos}
variable{tA tB':TT}{rest:List Expr}
def tAnd(t u:TT):TT:=λσ H Q=>t σ H λc H1=>if c=true then u σ H1 Q else Q false H1
def tOr(t u:TT):TT:=λσ H Q=>t σ H λc H1=>if c=true then Q true H1 else u σ H1 Q
def tNot(t:TT):TT:=λσ H Q=>t σ H λc H1=>Q (!c) H1
def De(ha:PT X a tA):PW X (.BoolOp .And [a] pos) tA:=by
 intro wh pn s σ H Q I h;refine isTrue_and (thn (ha pn s σ H Q I h) λc s1 e=>?_);cases c with
 |true=>exact isTrue_and_nil e
 |false=>exact e
def Ay(ha:PT X a tA):PW X (.BoolOp .Or [a] pos) tA:=by
 intro wh pn s σ H Q I h;refine isTrue_or (thn (ha pn s σ H Q I h) λc s1 e=>?_);cases c with
 |false=>exact isTrue_or_nil e
 |true=>exact e
def Az(ha:PT X a tA)(hb:PW X (.BoolOp .And (b::rest) pos) tB'):PW X (.BoolOp .And (a::b::rest) pos) (tAnd tA tB'):=by
 intro wh pn s σ H Q I h;refine isTrue_and (thn (ha pn s σ H _ I h) λc s1 ⟨H1,I1,q1⟩=>?_);cases c with
 |true=>exact hb wh pn s1 σ H1 Q I1 q1
 |false=>exact⟨H1,I1,q1⟩
def z3l(ha:PT X a tA)(hb:PW X (.BoolOp .Or (b::rest) pos) tB'):PW X (.BoolOp .Or (a::b::rest) pos) (tOr tA tB'):=by
 intro wh pn s σ H Q I h;refine isTrue_or (thn (ha pn s σ H _ I h) λc s1 ⟨H1,I1,q1⟩=>?_);cases c with
 |true=>exact⟨H1,I1,q1⟩
 |false=>exact hb wh pn s1 σ H1 Q I1 q1
def z0c(ha:PT X a tA):PT X (.UnaryOp .Not a pos) (tNot tA):=by
 intro pn s σ H Q I h;exact isTrue_not (ha pn s σ H (λc H1=>Q (!c) H1) I h)
def z3i(ta tb:TE):TE:=λσ H Q=>ta σ H λx H1=>∃c,x=.bl c/\if c=true then tb σ H1 Q else Q (.bl false) H1
def tOrV(ta tb:TE):TE:=λσ H Q=>ta σ H λx H1=>∃c,x=.bl c/\if c=true then Q (.bl true) H1 else tb σ H1 Q
def z3g(ta:TE):TE:=λσ H Q=>ta σ H λx H1=>∃c,x=.bl c/\Q (.bl (!c)) H1
def z0o {op} {t:TE} (h:PE X a t):PE X (.BoolOp op [a] pos) t:=λpn s σ H Q I hw=>BoolOp_one (h pn s σ H Q I hw)
def z0s(ha:PE X a ta)(hb:PE X (.BoolOp .And (b::rest) pos) tb):PE X (.BoolOp .And (a::b::rest) pos) (z3i ta tb):=by
 intro pn s σ H Q I h;refine BoolOp_and (thn (ha pn s σ H _ I h) λv s1 ⟨x,H1,I1,r1,q1⟩=>?_);obtain⟨c,rfl,q1⟩:=q1;cases r1;refine wpAny_truthy_bool ?_;cases c with
 |true=>exact hb pn s1 σ H1 Q I1 q1
 |false=>exact⟨.bl false,H1,I1,rfl,q1⟩
def z3n(ha:PE X a ta)(hb:PE X (.BoolOp .Or (b::rest) pos) tb):PE X (.BoolOp .Or (a::b::rest) pos) (tOrV ta tb):=by
 intro pn s σ H Q I h;refine BoolOp_or (thn (ha pn s σ H _ I h) λv s1 ⟨x,H1,I1,r1,q1⟩=>?_);obtain⟨c,rfl,q1⟩:=q1;cases r1;refine wpAny_truthy_bool ?_;cases c with
 |false=>exact hb pn s1 σ H1 Q I1 q1
 |true=>exact⟨.bl true,H1,I1,rfl,q1⟩
def z0p(ha:PE X a ta):PE X (.UnaryOp .Not a pos) (z3g ta):=by
 intro pn s σ H Q I h;refine UnaryOp_ (thn (ha pn s σ H _ I h) λv s1 ⟨x,H1,I1,r1,q1⟩=>?_);obtain⟨c,rfl,q1⟩:=q1;cases r1;exact not_of (wpAny_truthy_bool ⟨.bl (!c),H1,I1,rfl,q1⟩)
def tIf(t:TT)(ta tb:TE):TE:=λσ H Q=>t σ H λc H1=>if c=true then ta σ H1 Q else tb σ H1 Q
def Ji{c:Expr}(hc:PT X c tA)(ha:PE X a ta)(hb:PE X b tb):PE X (.IfExp c a b pos) (tIf tA ta tb):=by
 intro pn s σ H Q I h;refine wpAny_IfExp (thn (hc pn s σ H _ I h) λd s1 ⟨H1,I1,q1⟩=>?_);cases d with
 |true=>exact ha pn s1 σ H1 Q I1 q1
 |false=>exact hb pn s1 σ H1 Q I1 q1
def SqL(K:W.Frag)(H:Hp)(a:Addr)(xs:List V):Prop :=
 Rd H a (.lst xs) \/
  ∃(o:Obj)(its:Array Value)(n:Nat),K.lookup a=some o/\o.cls=.type "list"/\o.dict=none/\o.data=.seq its n/\its.size<=sizeLine/\Vals xs its.toList
def SqT(K:W.Frag)(H:Hp)(a:Addr)(xs:List V):Prop :=
 Rd H a (.tup xs) \/
  ∃(o:Obj)(its:Array Value)(n:Nat),K.lookup a=some o/\o.cls=.type "tuple"/\o.data=.seq its n/\its.size<=sizeLine/\Vals xs its.toList
def absV:Value->Option V
 |.none=>some .non
 |.bool b=>some (.bl b)
 |.int i _=>some (.int i)
 |.str x _=>some (.str x)
 |.bytes b _=>some (.byt b)
 |.float b _=>some (.flt b)
 |.ref a=>some (.ref a)
 |.type n=>some (.ty n)
 |_=>none
def RelV.abs{x:V}{u:Value}(r:RelV x u):absV u=some x:=by
 cases x with
 |non=>cases r;rfl
 |bl _=>cases r;rfl
 |int _=>obtain⟨t,rfl⟩:=r;rfl
 |str _=>obtain⟨t,rfl⟩:=r;rfl
 |byt _=>obtain⟨t,rfl⟩:=r;rfl
 |flt _=>obtain⟨t,rfl⟩:=r;rfl
 |ref _=>cases r;rfl
 |ty _=>cases r;rfl
def RelV.inj{x y:V}{u:Value}(r:RelV x u)(q:RelV y u):x=y:=Option.some.inj (r.abs.symm.trans q.abs)
def Vals.inj:∀{xs ys:List V}{us:List Value},Vals xs us->Vals ys us->xs=ys
 |_,_,_,.nil,.nil=>rfl
 |_,_,_,.cons r t,.cons r' t'=>by rw[r.inj r',Vals.inj t t']
variable{σ:St}{a:Addr}{xs ys:List V}
def SqL.of{K:W.Frag}(h:H a=some (.lst xs)):SqL K H a xs:=.inl (.inl h)
def SqT.of{K:W.Frag}(h:H a=some (.tup xs)):SqT K H a xs:=.inl (.inl h)
def Inv.list(I:Inv X pn σ H s)(h:SqL X.K H a xs):∃its:List Value,Vals xs its/\PlainL s.heap a its.toArray/\xs.length<=sizeLine:=by
 rcases h with h|⟨o,its,n,hk,hc,hd,hs,hz,r⟩
 ·obtain⟨z,its,n,r,e⟩:=h.ok I.hok;exact⟨its,r,⟨_,n,e,rfl,rfl,rfl⟩,z⟩
 ·refine⟨its.toList,r,⟨o,n,I.kIn a o hk,hc,hd,by simpa using hs⟩,?_⟩
  have e:=r.length;simp only[Array.length_toList]at e;omega
def Inv.tuple(I:Inv X pn σ H s)(h:SqT X.K H a xs):∃its:List Value,Vals xs its/\IsTup s.heap a its.toArray/\xs.length<=sizeLine:=by
 rcases h with h|⟨o,its,n,hk,hc,hs,hz,r⟩
 ·obtain⟨z,its,r,p⟩:=h.ok I.hok;exact⟨its,r,p.1,z⟩
 ·refine⟨its.toList,r,⟨o,I.kIn a o hk,hc,n,by simpa using hs⟩,?_⟩
  have e:=r.length;simp only[Array.length_toList]at e;omega
def Inv.list_inj(I:Inv X pn σ H s)(h:SqL X.K H a xs)(h':SqL X.K H a ys):xs=ys:=by
 obtain⟨its,r,⟨o,n,e,_,_,d⟩,_⟩:=I.list h;obtain⟨its',r',⟨o',n',e',_,_,d'⟩,_⟩:=I.list h';rw[e]at e';cases e';rw[d]at d'
 injection d' with d1 _
 have:its=its':=by simpa using congrArg Array.toList d1
 subst this;exact r.inj r'
def Inv.tuple_inj(I:Inv X pn σ H s)(h:SqT X.K H a xs)(h':SqT X.K H a ys):xs=ys:=by
 obtain⟨its,r,⟨o,e,_,n,d⟩,_⟩:=I.tuple h;obtain⟨its',r',⟨o',e',_,n',d'⟩,_⟩:=I.tuple h';rw[e]at e';cases e';rw[d]at d'
 injection d' with d1 _
 have:its=its':=by simpa using congrArg Array.toList d1
 subst this;exact r.inj r'
abbrev Cx.wish(X:Cx)(E:Value->Shared->Prop):Cx:={X with xe:=E}
abbrev Cx.nox(X:Cx):Cx:=X.wish λ_ _=>False
def Cx.Ok.wish{X:Cx}(ok:X.Ok)(E:Value->Shared->Prop):(X.wish E).Ok :=
 ⟨ok.mod,ok.kind,ok.glob,ok.blt,ok.above,ok.inj,ok.has,ok.cab,ok.hd,ok.frames,ok.stk,ok.exf,ok.bs,ok.bsz,ok.noex,ok.exfs,ok.funs,ok.frf⟩
def Cx.Ok.unwish{X:Cx}{E:Value->Shared->Prop}(ok:(X.wish E).Ok):X.Ok :=
 ⟨ok.mod,ok.kind,ok.glob,ok.blt,ok.above,ok.inj,ok.has,ok.cab,ok.hd,ok.frames,ok.stk,ok.exf,ok.bs,ok.bsz,ok.noex,ok.exfs,ok.funs,ok.frf⟩
variable{E:Value->Shared->Prop}
def Inv.wish(I:Inv X pn σ H s)(E:Value->Shared->Prop):Inv (X.wish E) pn σ H s:=⟨I.ok.wish E,I.os,I.bare,I.base,I.loc,I.cell,I.free,I.freeC,I.pin,I.hok,I.len⟩
def Inv.unwish(I:Inv (X.wish E) pn σ H s):Inv X pn σ H s:=⟨I.ok.unwish,I.os,I.bare,I.base,I.loc,I.cell,I.free,I.freeC,I.pin,I.hok,I.len⟩
def SP.unwish{D:Ends}{f:Flow}{s':Shared}(h:SP (X.wish E) pn D f s'):SP X pn D f s':=by
 cases f with
 |next=>obtain⟨σ',H',I,q⟩:=h;exact⟨σ',H',I.unwish,q⟩
 |brk=>obtain⟨σ',H',I,q⟩:=h;exact⟨σ',H',I.unwish,q⟩
 |cont=>obtain⟨σ',H',I,q⟩:=h;exact⟨σ',H',I.unwish,q⟩
 |ret u=>obtain⟨v,σ',H',I,r,q⟩:=h;exact⟨v,σ',H',I.unwish,r,q⟩
def PSs.nox{st:List Stmt}{t:TS}(h:PSs X.nox st t):PSs X st t:=λpn s σ H D I hw =>
 wpAny_mono (h pn s σ H D (I.wish _) hw) (λ_ _ q=>q.unwish) λ_ _ z=>False.elim z
section
variable{st:Stmt}{rest:List Stmt}{t u:TS}{e:Expr}{te:TE}
def z3h:TS:=λD σ H=>D.nx σ H
def tSeq(t u:TS):TS:=λD σ H=>t {D with nx:=u D} σ H
def Ys:PSs X [] z3h:=λ_ _ σ H _ I h=>wpAny_execs_nil ⟨σ,H,I,h⟩
def ut(h1:PS X st t)(h2:PSs X rest u):PSs X (st::rest) (tSeq t u):=by
 intro pn s σ H D I h;refine wpAny_execs_cons (thn (h1 pn s σ H {D with nx:=u D} I h) λf s1 q=>?_);cases f with
 |next =>
  obtain⟨σ',H',I',q⟩:=q;exact h2 pn s1 σ' H' D I' q
 |ret v=>exact q
 |brk=>exact q
 |cont=>exact q
def vz(h1:PS X st t):PSs X [st] t:=by
 intro pn s σ H D I h;refine wpAny_execs_cons (thn (h1 pn s σ H D I h) λf s1 q=>?_);cases f with
 |next=>exact wpAny_execs_nil q
 |ret v=>exact q
 |brk=>exact q
 |cont=>exact q
def Inv.quiet{pn:List (Addr×Obj)}{σ:St}{H:Hp}{s:Shared}(I:Inv X pn σ H s):interactive X.env=false:=by simp[interactive,I.ok.kind]
def Kp(te:TE):TS:=λD σ H=>te σ H λ_ H1=>D.nx σ H1
def rz(he:PE X e te)(hs:swapsWith e none pos.line X.env=pure false:=by rfl):PS X (.Expr e pos) (Kp te):=by
 intro pn s σ H D I h;exact wpAny_Expr_any (thn (he pn s σ H _ I h) λv s1 ⟨x,H1,I1,r1,q1⟩=>⟨σ,H1,I1,q1⟩) I.quiet hs
def tRet(te:TE):TS:=λD σ H=>te σ H D.rt
def Zm(he:PE X e te):PS X (.Return (some e) pos) (tRet te):=by
 intro pn s σ H D I h;exact wpAny_Return_some (thn (he pn s σ H _ I h) λv s1 ⟨x,H1,I1,r1,q1⟩=>⟨x,σ,H1,I1,r1,q1⟩)
def tIfS(c:TT)(t u:TS):TS:=λD σ H=>c σ H λb H1=>if b=true then t D σ H1 else u D σ H1
def Ul{c:Expr}{a b:List Stmt}{tc:TT}(hc:PT X c tc)(ha:PSs X a t)(hb:PSs X b u):PS X (.If c a b pos) (tIfS tc t u):=by
 intro pn s σ H D I h;refine wpAny_If (thn (hc pn s σ H _ I h) λd s1 ⟨H1,I1,q1⟩=>?_);cases d with
 |true=>exact ha pn s1 σ H1 D I1 q1
 |false=>exact hb pn s1 σ H1 D I1 q1
def Gm:TS:=λ_ _ _=>False
def Je:PS X st Gm:=λ_ _ _ _ _ _ h=>h.elim
def d7{sts:List Stmt}:PSs X sts Gm:=λ_ _ _ _ _ _ h=>h.elim
end
abbrev TG:=V->St->Hp->(St->Hp->Prop)->Prop
abbrev TGs:=List V->St->Hp->(St->Hp->Prop)->Prop
def PG(X:Cx)(target:Expr)(t:TG):Prop :=
 ∀(pn:List (Addr×Obj))(s:Shared)(σ:St)(H:Hp)(v:V)(u:Value)(Q:St->Hp->Prop),Inv X pn σ H s->RelV v u->t v σ H Q ->
  wpAny (model X.prog X.w) X.A (assign target X.env u) (λ_ s'=>∃σ' H',Inv X pn σ' H' s'/\Q σ' H') X.xe s
def PGs(X:Cx)(ts:List Expr)(t:TGs):Prop :=
 ∀(pn:List (Addr×Obj))(s:Shared)(σ:St)(H:Hp)(vs:List V)(us:List Value)(Q:St->Hp->Prop),Inv X pn σ H s->Vals vs us->t vs σ H Q ->
  wpAny (model X.prog X.w) X.A (assignInOrder ((assignEach ts X.env).map (·.2)) us) (λ_ s'=>∃σ' H',Inv X pn σ' H' s'/\Q σ' H') X.xe s
abbrev TSet:=V->V->V->Hp->(Hp->Prop)->Prop
def PSet(X:Cx)(t:TSet):Prop :=
 ∀(pn:List (Addr×Obj))(s:Shared)(σ:St)(H:Hp)(o i v:V)(ov iv u:Value)(Q:Hp->Prop),Inv X pn σ H s->RelV o ov->RelV i iv->RelV v u->t o i v H Q ->
  wpAny (model X.prog X.w) X.A (setItem ov iv u) (λ_ s'=>∃H',Inv X pn σ H' s'/\Q H') X.xe s
def k5(i:Nat):TG:=λv σ H Q=>Q (σ.set i (some v)) H
def zn{i:Nat}{x:Str}(hN:X.N.Nodup)(hi:X.N[i]?=some x)(hx:Loc X.env.scope x)(hf:X.fn x=true\/X.env.scope.names.lookup x=some .local:=by first|exact .inl rfl|exact .inr rfl|assumption):PG X (.Name x pos) (k5 i):=by
 intro pn s σ H v u Q I r h;exact wpAny_assign_Name (Yc I hN hi hx r (λs' I'=>⟨_,H,I',h⟩) hf)
def gNil:TGs:=λvs σ H Q=>vs=[]/\Q σ H
def bw(t:TG)(u:TGs):TGs:=λvs σ H Q=>∃v r,vs=v::r/\t v σ H λσ' H'=>u r σ' H' Q
def wq:PGs X [] gNil:=by
 intro pn s σ H vs us Q I r h;obtain⟨e,h⟩:=h;subst e;cases r;exact assignInOrder_nil ⟨σ,H,I,h⟩
def yb{e:Expr}{es:List Expr}{t:TG}{u:TGs}(h1:PG X e t)(h2:PGs X es u)(hs:(assignEach (e::es) X.env).map (·.2)=assign e X.env::(assignEach es X.env).map (·.2):=by rfl):PGs X (e::es) (bw t u):=by
 intro pn s σ H vs us Q I r h;obtain⟨v,vr,e1,h⟩:=h;subst e1;cases r with
 |cons r rr =>
  rw[hs];refine assignInOrder_cons (thn (h1 pn s σ H _ _ _ I r h) λ_ s1 ⟨σ1,H1,I1,q1⟩=>?_);exact h2 pn s1 σ1 H1 _ _ Q I1 rr q1
def gTup(K:W.Frag)(n:Nat)(t:TGs):TG:=λv σ H Q=>∃a xs,v=.ref a/\SqT K H a xs/\xs.length=n/\t xs σ H Q
def z0l{es:List Expr}{k:Nat}{t:TGs}{n:Nat}(hc:X.calm=true)(h:PGs X es t)(hn:(assignEach es X.env).length=n:=by rfl)(hst:(assignEach es X.env).findIdx? (·.1)=none:=by rfl):PG X (.Tuple es k pos) (gTup X.K n t):=by
 intro pn s σ H v u Q I r hw;obtain⟨a,xs,e1,hq,hl,hw⟩:=hw;subst e1;cases r;obtain⟨its,rv,ht,hz⟩:=I.tuple hq;refine assign_Tuple_tuple (I.ok.hd hc) ht (by simp[hn,<- hl,rv.length]) hst λh' hx=>?_
 have I1:Inv X pn σ H {s with heap:=h'}:=I.kept (t':=s.toks) λb o e=>hx b o (Nat.ne_of_lt (zae e)) e;exact h pn _ σ H xs _ Q I1 (by simpa using rv) hw
def gSub(to ti:TE)(t:TSet):TG:=λv σ H Q=>to σ H λo H1=>ti σ H1 λi H2=>t o i v H2 λH3=>Q σ H3
def z0m{o i:Expr}{to ti:TE}{t:TSet}(ho:PE X o to)(hi:PE X i ti)(hs:PSet X t)(ha:∀ v,assign (.Subscript o i pos) X.env v=(do
   let ov <- holding [v] (eval o X.env)
   let iv <- holding [v,ov] (eval i X.env)
   standAt pos
   holding [v,ov,iv] (setItem ov iv v)
   release [v,ov,iv] []):=by intro _;rfl):PG X (.Subscript o i pos) (gSub to ti t):=by
 intro pn s σ H v u Q I r h;rw[ha];refine zaa (wpAny_holding (thn (ho pn s σ H _ I h) λov s1 ⟨x,H1,I1,r1,q1⟩=>?_));refine zaa (wpAny_holding (thn (hi pn s1 σ H1 _ I1 q1) λiv s2 ⟨y,H2,I2,r2,q2⟩=>?_));refine zaa (wpAny_standAt (zaa (wpAny_holding (thn (hs pn s2 σ H2 x y v ov iv u _ I2 r1 r2 r q2) λ_ s3 ⟨H3,I3,q3⟩=>?_))));exact wpAny_release ⟨σ,H3,I3,q3⟩
def tAsg(te:TE)(g:TG):TS:=λD σ H=>te σ H λx H1=>g x σ H1 D.nx
def z0e{tg e:Expr}{te:TE}{g:TG}(he:PE X e te)(hg:PG X tg g)(hs:swapsWithSole [tg] e pos.line X.env=pure false:=by rfl)(hw:swappedStores [tg] e X.env=pure none:=by rfl)(h1:(assignEach [tg] X.env).map (·.2)=[assign tg X.env]:=by rfl):PS X (.Assign [tg] e pos) (tAsg te g):=by
 intro pn s σ H D I h;refine wpAny_Assign_stores (thn (he pn s σ H _ I h) λv s1 ⟨x,H1,I1,r1,q1⟩=>?_) hs hw;rw[h1];exact thn (hg pn s1 σ H1 x v _ I1 r1 q1) λ_ s2 q=>q
def Sq{i:Nat}{x:Str}{e:Expr}{te:TE}{pos':Pos}(hN:X.N.Nodup)(hi:X.N[i]?=some x)(hx:Loc X.env.scope x)(he:PE X e te)(hs:swapsWith e (some (.Name x pos')) pos.line X.env=pure false:=by rfl)(hf:X.fn x=true\/X.env.scope.names.lookup x=some .local:=by first|exact .inl rfl|exact .inr rfl|assumption) :
  PS X (.Assign [.Name x pos'] e pos) (tAsg te (k5 i)):=by
 intro pn s σ H D I h;refine wpAny_Assign_Name (thn (he pn s σ H _ I h) λv s1 ⟨y,H1,I1,r1,q1⟩=>?_) hs;exact Yc I1 hN hi hx r1 (λs2 I2=>⟨_,H1,I2,q1⟩) hf
def A4(c:TT)(tb:TS):TS:=λD σ H=>∃W:Nat->St->Hp->Prop,(∃m,W m σ H)/\∀m σ H,W m σ H ->
 c σ H λb H1=>if b=true then ∃N:St->Hp->Prop,(∀σ' H',N σ' H'->∃m',m'<m/\W m' σ' H')/\tb {D with nx:=N,ct:=N,bk:=D.nx} σ H1 else D.nx σ H1
def Jd{c:Expr}{body:List Stmt}{tc:TT}{tb:TS}(hp:PassesOwn (model X.prog X.w) X.A X.env X.xe)(hc:PT X c tc)(hb:PSs X body tb):PS X (.While c body [] pos) (A4 tc tb):=by
 intro pn s σ H D I h;obtain⟨W,⟨m0,w0⟩,turn⟩:=h;refine wpAny_While (codeAny_whileLoop (λn s'=>∃σ' H',Inv X pn σ' H' s'/\W n σ' H') ?_ m0 ⟨σ,H,I,w0⟩);rintro n s1 ⟨σ1,H1,I1,w1⟩;refine wpAny_passesOwn hp (thn (hc pn s1 σ1 H1 _ I1 (turn n σ1 H1 w1)) λb s2 ⟨H2,I2,q2⟩=>?_);cases b with
 |true =>
  obtain⟨N,hN,q2⟩:=q2;rw[if_pos rfl];refine wpAny_passesOwn hp (thn (hb pn s2 σ1 H2 _ I2 q2) λf s3 q3=>?_);cases f with
  |next =>
   obtain⟨σ3,H3,I3,n3⟩:=q3;obtain⟨m',hm,w3⟩:=hN σ3 H3 n3;exact⟨m',hm,σ3,H3,I3,w3⟩
  |cont =>
   obtain⟨σ3,H3,I3,n3⟩:=q3;obtain⟨m',hm,w3⟩:=hN σ3 H3 n3;exact⟨m',hm,σ3,H3,I3,w3⟩
  |brk=>exact q3
  |ret v=>exact q3
 |false =>
  rw[if_neg Bool.false_ne_true];exact wpAny_execs_nil ⟨σ1,H2,I2,q2⟩
structure It where
 go:Nat->Hp->Prop
 yld:Nat->Hp->V->Hp->Prop
 stop:Nat->Hp->Prop
def FpOk(X:Cx)(pn:List (Addr×Obj))(H:Hp)(b:Addr):Prop :=
 H b=none/\b≠X.env.locals/\b∉X.fs/\(b∈X.ex\/X.s₀.heap.objs.size<=b)/\(∀x c,X.env.cells.lookup x=some c->c≠b)/\∀p∈X.pn++pn,p.1≠b
def Inv.fpOk{X:Cx}{pn:List (Addr×Obj)}{σ:St}{H H':Hp}{s:Shared}{b:Addr}(I:Inv X pn σ H s)(hb:s.heap.objs.size<=b)(hn:H' b=none):FpOk X pn H' b:=by
 refine⟨hn,Nat.ne_of_gt (Nat.lt_of_lt_of_le I.lt hb),I.nofs hb,.inr (zak I.sz hb),λx c e z=>?_,λp hp z=>?_⟩
 ·obtain⟨v,q⟩:=I.cell x c e;exact absurd (Nat.lt_of_lt_of_le q.lt (by rw[z];exact hb)) (Nat.lt_irrefl _)
 ·exact absurd (Nat.lt_of_lt_of_le (zae (I.pin p hp).1) (by rw[z];exact hb)) (Nat.lt_irrefl _)
structure Turn(P:Program)(w:World)(K:W.Frag)(tg:Expr)(J:It)(fp:List Addr)(it:Addr)(tn:Nat->Heap->Prop):Prop where
 mem:it∈fp
 obj:∀i h,tn i h->∀b∈fp,∃o,h.get? b=some o/\∀v,o.data≠.cell v
 keep:∀i h h',tn i h->(∀b∈fp,∀o,h.get? b=some o->h'.get? b=some o)->tn i h'
 item:∀(X:Cx),X.prog=P->X.w=w->X.K=K->X.calm=true->∀(i:Nat)(pn:List (Addr×Obj))(s:Shared)(σ:St)(H:Hp)(E:Value->Shared->Prop),Inv X pn σ H s->(∀b∈fp,FpOk X pn H b)->tn i s.heap->J.go i H ->
  wpAny (model P w) X.A (pyNext (.ref it)) (λr s1=>∃u,r=some u /\
   wpAny (model P w) X.A (letOwnedTupleGo tg (.ref it) u) (λ_ s2=>∃x H',Inv X pn σ H' s2/\RelV x u/\J.yld i H x H'/\tn (i+1) s2.heap/\∀b∈fp,H' b=none) E s1) E s
 done:∀(X:Cx),X.prog=P->X.w=w->X.K=K->X.calm=true->∀(i:Nat)(pn:List (Addr×Obj))(s:Shared)(σ:St)(H:Hp)(E:Value->Shared->Prop),Inv X pn σ H s->(∀b∈fp,FpOk X pn H b)->tn i s.heap->J.stop i H ->
  wpAny (model P w) X.A (pyNext (.ref it)) (λr s1=>r=none/\Inv X pn σ H s1) E s
 self:∀(A:Around)(i:Nat)(s:Shared)(Q:Value->Shared->Prop)(E:Value->Shared->Prop),tn i s.heap->Q (.ref it) s->wpAny (model P w) A (pyIter (.ref it)) Q E s
abbrev TI:=St->Hp->(It->Hp->Prop)->Prop
def PIE(X:Cx)(pn:List (Addr×Obj))(σ:St)(tg:Expr)(R:It->Hp->Prop)(itv:Value)(s2:Shared):Prop :=
 ∃(it:Addr)(fp:List Addr)(tn:Nat->Heap->Prop)(J:It)(H':Hp),itv=.ref it/\Inv X pn σ H' s2/\Turn X.prog X.w X.K tg J fp it tn/\tn 0 s2.heap/\(∀b∈fp,FpOk X pn H' b)/\R J H'
def PI(X:Cx)(tg iter:Expr)(wi:TI):Prop :=
 ∀(pn:List (Addr×Obj))(s:Shared)(σ:St)(H:Hp)(R:It->Hp->Prop),Inv X pn σ H s->wi σ H R ->
  wpAny (model X.prog X.w) X.A (eval iter X.env) (λv s1=>wpAny (model X.prog X.w) X.A (pyIter v) (PIE X pn σ tg R) X.xe s1) X.xe s
def Hk{M:Model}{A:Around}{E:Value->Shared->Prop}{s:Shared}{tg:Expr}{it:Addr}{u:Value}{o:Obj}{n:String}{vs:Array Value}{Q:Unit->Shared->Prop}(ho:s.heap.get? it=some o)(hc:o.cls=.type n)(hd:o.data=.fields vs)(hn:["enumerate","zip","dict_itemiterator","dict_reverseitemiterator","odict_iterator","itertools.zip_longest","itertools.pairwise"].contains n=false)(hQ:Q () s):wpAny M A (letOwnedTupleGo tg (.ref it) u) Q E s:=by
 unfold letOwnedTupleGo;cases tg <;> first
  |exact zab hQ
  | (cases u <;> first
    |exact zab hQ
    | (refine zaa (wpAny_load ho ?_)
       rw[hc,hd];show wpAny M A (if (["enumerate","zip","dict_itemiterator","dict_reverseitemiterator","odict_iterator","itertools.zip_longest","itertools.pairwise"].contains n&&vs[0]?==some (rawInt _))=true then _ else _) Q E s
       rw[if_neg (by intro h;rw[hn,Bool.false_and]at h;cases h)]
       exact zab hQ))
def Itl(K:W.Frag)(a:Addr):It :=
 ⟨λi H=>∃xs x,SqL K H a xs/\xs[i]?=some x,λi H x H'=>H'=H/\∀xs,SqL K H a xs->xs[i]?=some x,λi H=>∃xs,SqL K H a xs/\xs.length<=i⟩
def Itt(K:W.Frag)(a:Addr):It :=
 ⟨λi H=>∃xs x,SqT K H a xs/\xs[i]?=some x,λi H x H'=>H'=H/\∀xs,SqT K H a xs->xs[i]?=some x,λi H=>∃xs,SqT K H a xs/\xs.length<=i⟩
def Itr(lo:Int)(n:Nat):It:=⟨λi _=>i<n,λi H x H'=>H'=H/\x=.int (lo+i),λi _=>n<=i⟩
def W6{P:Program}{w:World}{K:W.Frag}{tg:Expr}(a it:Addr):Turn P w K tg (Itl K a) [it] it (λi h=>h.IsListIter it a i) where
 mem:=by simp
 obj:=λi h st b hb=>by
  have e:b=it:=by simpa using hb
  subst e;obtain⟨o,e,c,d⟩:=st;exact⟨o,e,λv z=>by rw[d]at z;cases z⟩
 keep:=λi h h' st k=>st.at λo e=>k it (by simp) o e
 item:=by
  intro X hP hw hK hc i pn s σ H E I hf st hg;subst hP hw hK;obtain⟨xs,x,hq,hx⟩:=hg;obtain⟨its,rv,p,hz⟩:=I.list hq;obtain⟨u,hu,ru⟩:=rv.get hx;obtain⟨f0,f1,f2,f3,f4,f5⟩:=hf it (by simp)
  refine wpAny_pyNext_list_item st p.isList (x:=u) (by simpa using hu) λh' st' sb=>?_
  have I1:Inv X pn σ H {s with heap:=h'}:=I.turned (t':=s.toks) (λb o hb e=>(sb.2 b hb).trans e) f0 f1 f3 f4 f5;obtain⟨o,e,c,d⟩:=id st';exact⟨u,rfl,Hk (s:={s with heap:=h'}) e c d (by decide) ⟨x,H,I1,ru,⟨rfl,λys hy=>by rw[I.list_inj hy hq];exact hx⟩,st',λb hb=>(hf b hb).1⟩⟩
 done:=by
  intro X hP hw hK hc i pn s σ H E I hf st hg;subst hP hw hK;obtain⟨xs,hq,hx⟩:=hg;obtain⟨its,rv,p,hz⟩:=I.list hq;obtain⟨f0,f1,f2,f3,f4,f5⟩:=hf it (by simp)
  have hl:=rv.length;exact wpAny_pyNext_list_end (I.ok.hd hc) st p.isList (by simp;omega) λh' eb=>⟨rfl,I.turned (t':=s.toks) (λb o hb e=>eb b o hb e) f0 f1 f3 f4 f5⟩
 self:=λ_ _ _ _ _ st h=>wpAny_pyIter_listiter st h
def Q7{P:Program}{w:World}{K:W.Frag}{tg:Expr}(a it:Addr):Turn P w K tg (Itt K a) [it] it (λi h=>h.IsTupleIter it a i) where
 mem:=by simp
 obj:=λi h st b hb=>by
  have e:b=it:=by simpa using hb
  subst e;obtain⟨o,e,c,d⟩:=st;exact⟨o,e,λv z=>by rw[d]at z;cases z⟩
 keep:=λi h h' st k=>st.at λo e=>k it (by simp) o e
 item:=by
  intro X hP hw hK hc i pn s σ H E I hf st hg;subst hP hw hK;obtain⟨xs,x,hq,hx⟩:=hg;obtain⟨its,rv,p,hz⟩:=I.tuple hq;obtain⟨u,hu,ru⟩:=rv.get hx;obtain⟨f0,f1,f2,f3,f4,f5⟩:=hf it (by simp)
  refine wpAny_pyNext_tuple_item st (show s.heap.IsTuple a its.toArray from p) (x:=u) (by simpa using hu) λh' st' sb=>?_
  have I1:Inv X pn σ H {s with heap:=h'}:=I.turned (t':=s.toks) (λb o hb e=>(sb.2 b hb).trans e) f0 f1 f3 f4 f5;obtain⟨o,e,c,d⟩:=id st';exact⟨u,rfl,Hk (s:={s with heap:=h'}) e c d (by decide) ⟨x,H,I1,ru,⟨rfl,λys hy=>by rw[I.tuple_inj hy hq];exact hx⟩,st',λb hb=>(hf b hb).1⟩⟩
 done:=by
  intro X hP hw hK hc i pn s σ H E I hf st hg;subst hP hw hK;obtain⟨xs,hq,hx⟩:=hg;obtain⟨its,rv,p,hz⟩:=I.tuple hq;obtain⟨f0,f1,f2,f3,f4,f5⟩:=hf it (by simp)
  have hl:=rv.length;exact wpAny_pyNext_tuple_end (I.ok.hd hc) st (show s.heap.IsTuple a its.toArray from p) (by simp;omega) λh' eb=>⟨rfl,I.turned (t':=s.toks) (λb o hb e=>eb b o hb e) f0 f1 f3 f4 f5⟩
 self:=λ_ _ _ _ _ st h=>wpAny_pyIter_tupleiter st h
def Q8{P:Program}{w:World}{K:W.Frag}{tg:Expr}(it:Addr)(lo:Int)(n:Nat):Turn P w K tg (Itr lo n) [it] it (λi h=>IsRangeIter h it (lo+(i:Nat)*1) ((n:Int)-(i:Nat)) 1) where
 mem:=by simp
 obj:=λi h st b hb=>by
  have e:b=it:=by simpa using hb
  subst e;exact⟨_,st,λv z=>by
   have z':Data.fields _=Data.cell v:=z;cases z'⟩
 keep:=λi h h' st k=>k it (by simp) _ st
 item:=by
  intro X hP hw hK hc i pn s σ H E I hf st hg;subst hP hw hK;obtain⟨f0,f1,f2,f3,f4,f5⟩:=hf it (by simp)
  have W:=Walks.range (prog:=X.prog) (w:=X.w) (I.ok.hd hc) it lo 1 n;refine W.item i s _ _ hg st λv h' tk hv st' kk=>?_;obtain⟨t,rfl⟩:=hv;have I1:Inv X pn σ H {s with heap:=h',toks:=tk}:=I.turned (λb o hb e=>kk b o (by simpa using hb) e) f0 f1 f3 f4 f5
  refine⟨_,rfl,Hk (s:={s with heap:=h',toks:=tk}) (n:="range_iterator") st' rfl rfl (by decide) ⟨.int (lo+i),H,I1,⟨t,?_⟩,⟨rfl,rfl⟩,st',λb hb=>(hf b hb).1⟩⟩
  rw[Int.mul_one]
 done:=by
  intro X hP hw hK hc i pn s σ H E I hf st hg;subst hP hw hK;obtain⟨f0,f1,f2,f3,f4,f5⟩:=hf it (by simp)
  exact wpAny_pyNext_range_end (I.ok.hd hc) st (by have:n<=i:=hg;omega) λh' eb=>⟨rfl,I.turned (t':=s.toks) (λb o hb e=>eb b o hb e) f0 f1 f3 f4 f5⟩
 self:=λ_ _ _ _ _ st h=>wpAny_pyIter_rangeiter st h
variable{tg:Expr}
def z4f(K:W.Frag)(tl:TE):TI:=λσ H R=>tl σ H λx H1=>∃a,x=.ref a/\(∃xs,SqL K H1 a xs)/\R (Itl K a) H1
def Dv{l:Expr}{tl:TE}(hl:PE X l tl):PI X tg l (z4f X.K tl):=by
 intro pn s σ H R I h;refine thn (hl pn s σ H _ I h) λv s1 ⟨x,H1,I1,r1,q1⟩=>?_;obtain⟨a,e,⟨xs,hq⟩,q⟩:=q1;subst e;cases r1;obtain⟨its,rv,p,hz⟩:=I1.list hq;refine wpAny_pyIter_list p.isList ?_;refine⟨s1.heap.objs.size,[s1.heap.objs.size],_,_,H1,rfl,I1.kept (t':=s1.toks) λb o e=>zac _ e,W6 a _,⟨_,zad _ rfl,rfl,rfl⟩,λb hb=>?_,q⟩;have e:b=s1.heap.objs.size:=by simpa using hb
 subst e;exact I1.fpOk (zaj _) (I1.hok.fresh (zaj _))
def Sn{pn:List (Addr×Obj)}{σ:St}{H:Hp}{s:Shared}{R:It->Hp->Prop}{E:Value->Shared->Prop}{lo hi:Int}{t u v:Tok}{tk:Nat}(I:Inv X pn σ H s)(h1:-(2 ^ 62)<=lo)(h2:lo<2 ^ 62)(h3:-(2 ^ 62)<=hi)(h4:hi<2 ^ 62)(q:R (Itr lo (hi-lo).toNat) H):wpAny (model X.prog X.w) X.A (pyIter (.ref s.heap.objs.size)) (PIE X pn σ tg R) E {s with heap:=s.heap.push {cls:=.type "range",data:=.fields #[.int lo t,.int hi u,.int 1 v]},toks:=tk}:=by
 refine wpAny_pyIter_range (IsRange.new ..) (small_one h1 h2 h3 h4) ?_;have I1:Inv X pn σ H {s with heap:=s.heap.push {cls:=.type "range",data:=.fields #[.int lo t,.int hi u,.int 1 v]},toks:=tk}:=I.kept λb o e=>zac _ e;refine⟨(s.heap.push {cls:=.type "range",data:=.fields #[.int lo t,.int hi u,.int 1 v]}).objs.size,[(s.heap.push {cls:=.type "range",data:=.fields #[.int lo t,.int hi u,.int 1 v]}).objs.size],_,_,H,rfl,
  I1.kept (t':=tk) λb o e=>zac _ e,Q8 _ lo (hi-lo).toNat,?_,λb hb=>?_,q⟩
 ·have e1:lo+((0:Nat):Int)*1=lo:=by simp
  have e2:(((hi-lo).toNat:Nat):Int)-((0:Nat):Int)=Builtin.Range.rangeSize lo hi 1:=by rw[rangeSize_one];split <;> omega
  show IsRangeIter _ _ (lo+((0:Nat):Int)*1) ((((hi-lo).toNat:Nat):Int)-((0:Nat):Int)) 1;rw[e1,e2];exact zad _ rfl
 ·have e:b=(s.heap.push {cls:=.type "range",data:=.fields #[.int lo t,.int hi u,.int 1 v]}).objs.size:=by simpa using hb
  subst e;exact I1.fpOk (zaj _) (I1.hok.fresh (zaj _))
def z4e(ta:TA):TI:=λσ H R=>ta σ H λvs H1=>∃j:Int,vs=[.int j]/\-(2 ^ 62)<=j/\j<2 ^ 62/\R (Itr 0 j.toNat) H1
def z4d(ta:TA):TI:=λσ H R=>ta σ H λvs H1=>∃i j:Int,vs=[.int i,.int j]/\(-(2 ^ 62)<=i/\i<2 ^ 62/\-(2 ^ 62)<=j/\j<2 ^ 62)/\R (Itr i (j-i).toNat) H1
def Nh{a:Expr}{ta:TA}{p pos:Pos}(hg:Gl X "range")(hm:X.mg "range" = none)(ha:PA X [a] ta)(hs:starEach [a] X.env=[(false,eval a X.env)]:=by rfl):PI X tg (.Call (.Name "range" p) [a] [] pos) (z4e ta):=by
 intro pn s σ H R I h;refine Call_ (ju I hg hm boot_range (PyProof.Rows.callWith_type1 (thn (ha pos pn s σ H _ I h) λus s1 ⟨vs,H1,I1,r1,q1⟩=>?_) hs rfl));obtain⟨j,e,q1,q2,q⟩:=q1;subst e;cases r1 with
 |cons r rr =>
  cases rr
  obtain⟨t,rfl⟩:=r;exact call_range_1 (Sn I1 (by omega) (by omega) q1 q2 (by simpa using q))
def Ng{a b:Expr}{ta:TA}{p pos:Pos}(hg:Gl X "range")(hm:X.mg "range" = none)(ha:PA X [a,b] ta)(hs:starEach [a,b] X.env=[(false,eval a X.env),(false,eval b X.env)]:=by rfl)(hs2:starEach [b] X.env=[(false,eval b X.env)]:=by rfl) :
  PI X tg (.Call (.Name "range" p) [a,b] [] pos) (z4d ta):=by
 intro pn s σ H R I h;refine Call_ (ju I hg hm boot_range (PyProof.Rows.callWith_type1 (thn (ha pos pn s σ H _ I h) λus s1 ⟨vs,H1,I1,r1,q1⟩=>?_) (by rw[hs,hs2]) (by rw[hs2];rfl)))
 obtain⟨i,j,e,⟨q1,q2,q3,q4⟩,q⟩:=q1;subst e;cases r1 with
 |cons r rr =>
  cases rr with
  |cons r' rr =>
   cases rr
   obtain⟨t,rfl⟩:=r;obtain⟨t',rfl⟩:=r';exact call_range_2 (Sn I1 q1 q2 q3 q4 q)
def tFor(wi:TI)(g:TG)(tb:TS):TS:=λD σ H=>wi σ H λJ H1=>∃W:Nat->Nat->St->Hp->Prop,(∃m,W 0 m σ H1)/\∀i m σ H,W i m σ H ->
 (J.stop i H/\D.nx σ H)\/(J.go i H/\∃N:St->Hp->Prop,(∀σ' H',N σ' H'->∃m',m'<m/\W (i+1) m' σ' H')/\∀x H',J.yld i H x H'->g x σ H' λσ2 H2=>tb {D with nx:=N,ct:=N,bk:=D.nx} σ2 H2)
def Wh(fp:List Addr)(h:Heap):List (Addr×Obj):=fp.filterMap λb=>(h.get? b).map λo=>(b,o)
def sj{fp:List Addr}{h:Heap}{b:Addr}{o:Obj}(hb:b∈fp)(e:h.get? b=some o):(b,o)∈Wh fp h:=List.mem_filterMap.mpr ⟨b,hb,by rw[e];rfl⟩
def Nr{fp:List Addr}{h:Heap}{p:Addr×Obj}(hp:p∈Wh fp h):p.1∈fp/\h.get? p.1=some p.2:=by
 obtain⟨b,hb,e⟩:=List.mem_filterMap.mp hp;cases q:h.get? b with
 |none=>rw[q]at e;cases e
 |some o =>
  rw[q]at e;have e':(b,o)=p:=Option.some.inj e;subst e';exact⟨hb,q⟩
def Inv.pinned{pn:List (Addr×Obj)}{σ:St}{H:Hp}{s:Shared}{fp:List Addr}(I:Inv X pn σ H s)(hf:∀ b∈fp,FpOk X pn H b)(ho:∀ b∈fp,∃ o,s.heap.get? b=some o/\∀ v,o.data≠.cell v):Inv X (pn++Wh fp s.heap) σ H s :=
 I.pins_of λp hp=>(zas.mp hp).elim (λz=>I.pin p (List.mem_append_right _ z)) λz=>by
  obtain⟨hb,e⟩:=Nr z;obtain⟨f0,f1,f2,_⟩:=hf p.1 hb;obtain⟨o,e',d⟩:=ho p.1 hb;rw[e]at e';cases e';exact⟨e,f0,f1,f2,d⟩
def Inv.unpinned{pn pl:List (Addr×Obj)}{σ:St}{H:Hp}{s:Shared}(I:Inv X (pn++pl) σ H s):Inv X pn σ H s:=I.pins_of λp hp=>I.pin p (List.mem_append_right _ (List.mem_append_left _ hp))
def Fc{iter:Expr}{body:List Stmt}{wi:TI}{g:TG}{tb:TS}{pos:Pos}(hp:PassesOwn (model X.prog X.w) X.A X.env X.xe)(hc:X.calm=true)(hi:PI X tg iter wi)(hg:PG X tg g)(hb:PSs X body tb)(hs:∀ x,foldedSetIterable iter X.env x=pure x:=by intro _;rfl):PS X (.For tg iter body [] pos) (tFor wi g tb):=by
 intro pn s σ H D I h;refine wpAny_For (thn (hi pn s σ H _ I h) λv s1 h1=>thn h1 λitv s2 h2=>?_) hs;obtain⟨it,fp,tn,J,H2,e,I2,T,st2,f2,W,⟨m0,w0⟩,turn⟩:=h2;subst e;have stat:∀{H':Hp},(∀b∈fp,H' b=none)->∀b∈fp,FpOk X pn H' b:=λhn b hb=>⟨hn b hb,(f2 b hb).2⟩;refine codeAny_forLoop_any (λn s'=>∃i σ' H',Inv X pn σ' H' s'/\tn i s'.heap/\(∀b∈fp,H' b=none)/\W i n σ' H') ?_ m0 ⟨0,σ,H2,I2,st2,λb hb=>(f2 b hb).1,w0⟩;rintro n s3 ⟨i,σ3,H3,I3,st3,fr3,w3⟩;rcases turn i n σ3 H3 w3 with⟨stop,qn⟩|⟨go,N,hN,step⟩
 ·refine wpAny_passesOwn hp (thn (T.done X rfl rfl rfl hc i pn s3 σ3 H3 X.xe I3 (stat fr3) st3 stop) λr s4 ⟨hr,I4⟩=>?_);subst hr;exact wpAny_execs_nil ⟨σ3,H3,I4,qn⟩
 ·refine wpAny_passesOwn hp (thn (T.item X rfl rfl rfl hc i pn s3 σ3 H3 X.xe I3 (stat fr3) st3 go) λr s4 ⟨u,hr,h4⟩=>?_);subst hr;refine wpAny_passesOwn hp (thn h4 λ_ s5 ⟨x,H5,I5,r5,y5,st5,fr5⟩=>?_);have I5':=I5.pinned (stat fr5) (T.obj _ _ st5);refine wpAny_passesOwn hp (thn (hg _ s5 σ3 H5 x u _ I5' r5 (step x H5 y5)) λ_ s6 ⟨σ6,H6,I6,q6⟩=>?_);refine wpAny_passesOwn hp (thn (hb _ s6 σ6 H6 _ I6 q6) λf s7 q7=>?_);have again:∀{σ7:St}{H7:Hp},Inv X (pn++Wh fp s5.heap) σ7 H7 s7->N σ7 H7->∃m,m<n/\∃i σ' H',Inv X pn σ' H' s7/\tn i s7.heap/\(∀b∈fp,H' b=none)/\W i m σ' H':=λ{σ7 H7} I7 n7=>by
   obtain⟨m',hm,w7⟩:=hN σ7 H7 n7;refine⟨m',hm,i+1,σ7,H7,I7.unpinned,T.keep _ _ _ st5 λb hb o e=>(I7.pin (b,o) (List.mem_append_right _ (List.mem_append_right _ (sj hb e)))).1,λb hb=>?_,w7⟩;obtain⟨o,e,d⟩:=T.obj _ _ st5 b hb;exact(I7.pin (b,o) (List.mem_append_right _ (List.mem_append_right _ (sj hb e)))).2.1
  cases f with
  |next=>obtain⟨σ7,H7,I7,n7⟩:=q7;exact again I7 n7
  |cont=>obtain⟨σ7,H7,I7,n7⟩:=q7;exact again I7 n7
  |brk=>obtain⟨σ7,H7,I7,q7⟩:=q7;exact⟨σ7,H7,I7.unpinned,q7⟩
  |ret v=>obtain⟨x7,σ7,H7,I7,r7,q7⟩:=q7;exact⟨x7,σ7,H7,I7.unpinned,r7,q7⟩
abbrev R2:=V->V->Hp->VK->Prop
def OpR(X:Cx)(f:Value->Value->Sem Value)(r:R2):Prop :=
 ∀(pn:List (Addr×Obj))(s:Shared)(σ:St)(H:Hp)(x y:V)(v u:Value)(Q:VK),Inv X pn σ H s->RelV x v->RelV y u->r x y H Q ->
  wpAny (model X.prog X.w) X.A (f v u) (EP X pn σ Q) X.xe s
def UnR(X:Cx)(f:Value->Sem Value)(r:V->Hp->VK->Prop):Prop :=
 ∀(pn:List (Addr×Obj))(s:Shared)(σ:St)(H:Hp)(x:V)(v:Value)(Q:VK),Inv X pn σ H s->RelV x v->r x H Q ->
  wpAny (model X.prog X.w) X.A (f v) (EP X pn σ Q) X.xe s
def vt(X:Cx)(f:Value)(r:List V->Hp->VK->Prop):Prop :=
 ∀(pn:List (Addr×Obj))(s:Shared)(σ:St)(H:Hp)(xs:List V)(us:List Value)(Q:VK),Inv X pn σ H s->Vals xs us->r xs H Q ->
  wpAny (model X.prog X.w) X.A (call f us) (EP X pn σ Q) X.xe s
def TruR(X:Cx)(r:V->Hp->(Bool->Hp->Prop)->Prop):Prop :=
 ∀(pn:List (Addr×Obj))(s:Shared)(σ:St)(H:Hp)(x:V)(v:Value)(Q:Bool->Hp->Prop),Inv X pn σ H s->RelV x v->r x H Q ->
  wpAny (model X.prog X.w) X.A (truthy v) (TP X pn σ Q) X.xe s
def tOp(r:R2)(ta tb:TE):TE:=λσ H Q=>ta σ H λx H1=>tb σ H1 λy H2=>r x y H2 Q
def tUn(r:V->Hp->VK->Prop)(ta:TE):TE:=λσ H Q=>ta σ H λx H1=>r x H1 Q
def rI(C:Int->Int->Prop)(g:Int->Int->V):R2:=λx y H Q=>∃i j,x=.int i/\y=.int j/\C i j/\Q (g i j) H
def rI0(g:Int->Int->V):R2:=λx y H Q=>∃i j,x=.int i/\y=.int j/\Q (g i j) H
def rU(g:Int->V):V->Hp->VK->Prop:=λx H Q=>∃i,x=.int i/\Q (g i) H
variable{a:Expr}
def binT(ha:PE X a ta)(hb:PE X b tb){pn:List (Addr×Obj)}{s:Shared}{σ:St}{H:Hp}{R:V->V->Hp->Prop}(I:Inv X pn σ H s)(h:ta σ H λx H1=>tb σ H1 λy H2=>R x y H2){Q:Value->Shared->Prop}{f:Value->Value->Sem Value}(hf:∀ v u s2 x y H2,Inv X pn σ H2 s2->RelV x v->RelV y u->R x y H2->wpAny (model X.prog X.w) X.A (f v u) Q X.xe s2) :
  wpAny (model X.prog X.w) X.A (eval a X.env) (λv s₁=>wpAny (model X.prog X.w) X.A (eval b X.env) (λu s₂=>wpAny (model X.prog X.w) X.A (f v u) Q X.xe s₂) X.xe s₁) X.xe s:=by
 refine thn (ha pn s σ H _ I h) λv s1 ⟨x,H1,I1,r1,q1⟩=>?_;refine thn (hb pn s1 σ H1 _ I1 q1) λu s2 ⟨y,H2,I2,r2,q2⟩=>?_;exact hf v u s2 x y H2 I2 r1 r2 q2
def z0n{op:Operator}{r:R2}(ho:OpR X (binaryOp op) r)(ha:PE X a ta)(hb:PE X b tb):PE X (.BinOp a op b pos) (tOp r ta tb):=by
 intro pn s σ H Q I h;exact wpAny_BinOp (binT ha hb I h λv u s2 x y H2 I2 rx ry q=>ho pn s2 σ H2 x y v u Q I2 rx ry q)
def Dw{op:UnaryOp}{r:V->Hp->VK->Prop}(ho:UnR X (unaryOp op) r)(ha:PE X a ta):PE X (.UnaryOp op a pos) (tUn r ta):=by
 intro pn s σ H Q I h;exact UnaryOp_ (thn (ha pn s σ H _ I h) λv s1 ⟨x,H1,I1,r1,q1⟩=>ho pn s1 σ H1 x v Q I1 r1 q1)
def opI{f:Value->Value->Sem Value}{C:Int->Int->Prop}{g:Int->Int->Int}(rule:∀ (i j:Int) (t u:Tok) (s:Shared) (Q:Value->Shared->Prop) (E:Value->Shared->Prop),C i j->Q (.int (g i j) s.toks) {s with toks:=s.toks+1}->wpAny (model X.prog X.w) X.A (f (.int i t) (.int j u)) Q E s) :
  OpR X f (rI C λi j=>.int (g i j)):=by
 intro pn s σ H x y v u Q I rx ry h;obtain⟨i,j,rfl,rfl,hc,q⟩:=h;obtain⟨t,rfl⟩:=rx;obtain⟨t',rfl⟩:=ry;exact rule i j t t' s _ _ hc ⟨.int (g i j),H,I.tok _,⟨_,rfl⟩,q⟩
def opI0{f:Value->Value->Sem Value}{g:Int->Int->Int}(rule:∀ (i j:Int) (t u:Tok) (s:Shared) (Q:Value->Shared->Prop) (E:Value->Shared->Prop),Q (.int (g i j) s.toks) {s with toks:=s.toks+1}->wpAny (model X.prog X.w) X.A (f (.int i t) (.int j u)) Q E s) :
  OpR X f (rI0 λi j=>.int (g i j)):=by
 intro pn s σ H x y v u Q I rx ry h;obtain⟨i,j,rfl,rfl,q⟩:=h;obtain⟨t,rfl⟩:=rx;obtain⟨t',rfl⟩:=ry;exact rule i j t t' s _ _ ⟨.int (g i j),H,I.tok _,⟨_,rfl⟩,q⟩
def opB0{f:Value->Value->Sem Value}{g:Int->Int->Bool}(rule:∀ (i j:Int) (t u:Tok) (s:Shared) (Q:Value->Shared->Prop) (E:Value->Shared->Prop),Q (.bool (g i j)) s->wpAny (model X.prog X.w) X.A (f (.int i t) (.int j u)) Q E s) :
  OpR X f (rI0 λi j=>.bl (g i j)):=by
 intro pn s σ H x y v u Q I rx ry h;obtain⟨i,j,rfl,rfl,q⟩:=h;obtain⟨t,rfl⟩:=rx;obtain⟨t',rfl⟩:=ry;exact rule i j t t' s _ _ ⟨.bl (g i j),H,I,rfl,q⟩
def CPow(i j:Int):Prop:=0<=j/\j<=1000000/\i.natAbs<2 ^ 64
def z1c:OpR X (binaryOp .Add) (rI0 λi j=>.int (i+j)):=opI0 λ_ _ _ _ _ _ _ q=>add_int q
def z0v:OpR X (binaryOp .Sub) (rI0 λi j=>.int (i-j)):=opI0 λ_ _ _ _ _ _ _ q=>sub_int q
def C3:OpR X (binaryOp .Mod) (rI (λ_ j=>j≠0) λi j=>.int (i.fmod j)):=opI λ_ _ _ _ _ _ _ hc q=>mod_int' hc q
def z0x:OpR X (binaryOp .Pow) (rI CPow λi j=>.int (i ^ j.toNat)):=opI λ_ _ _ _ _ _ _ hc q=>pow_int_small hc.1 hc.2.1 hc.2.2 q
def unI{f:Value->Sem Value}{g:Int->Int}(rule:∀ (i:Int) (t:Tok) (s:Shared) (Q:Value->Shared->Prop) (E:Value->Shared->Prop),Q (.int (g i) s.toks) {s with toks:=s.toks+1}->wpAny (model X.prog X.w) X.A (f (.int i t)) Q E s) :
  UnR X f (rU λi=>.int (g i)):=by
 intro pn s σ H x v Q I rx h;obtain⟨i,rfl,q⟩:=h;obtain⟨t,rfl⟩:=rx;exact rule i t s _ _ ⟨.int (g i),H,I.tok _,⟨_,rfl⟩,q⟩
def Pw:UnR X (unaryOp .USub) (rU λi=>.int (-i)):=unI λ_ _ _ _ _ q=>neg_int q
def scal:V->V->Bool
 |.non,.non=>true|.non,.int _=>true|.int _,.non=>true|.non,.bl _=>true|.bl _,.non=>true|.non,.str _=>true|.str _,.non=>true
 |.int _,.int _=>true|.bl _,.bl _=>true|.str _,.str _=>true|.byt _,.byt _=>true
 |.int _,.str _=>true|.str _,.int _=>true|.bl _,.str _=>true|.str _,.bl _=>true
 |_,_=>false
def rEq:R2:=λx y H Q=>scal x y=true/\Q (.bl (decide (x=y))) H
def rNe:R2:=λx y H Q=>scal x y=true/\Q (.bl (!decide (x=y))) H
def Lh{i j:Int}:decide (V.int i=V.int j)=(i==j):=by
 rw[Bool.eq_iff_iff];simp
def E3{i j:Bool}:decide (V.bl i=V.bl j)=(i==j):=by
 rw[Bool.eq_iff_iff];simp
def Lg{i j:Str}:decide (V.str i=V.str j)=(i==j):=by
 rw[Bool.eq_iff_iff];simp
def Li{i j:Array UInt8}:decide (V.byt i=V.byt j)=(i.toList==j.toList):=by
 rw[Bool.eq_iff_iff];cases i;cases j;simp
variable{c:Expr}{tc:TE}
def x3{pn:List (Addr×Obj)}{σ:St}{H:Hp}{s:Shared}{Q:VK}{k k':Bool}(I:Inv X pn σ H s)(q:Q (.bl k) H)(e:k=k'):EP X pn σ Q (.bool k') s:=by
 subst e;exact⟨.bl k,H,I,rfl,q⟩
def z1a:OpR X (compareOp .Eq) rEq:=by
 intro pn s σ H x y v u Q I rx ry h;obtain⟨hs,q⟩:=h;cases x with
 |non =>
  cases rx
  cases y with
  |non=>cases ry;exact PySem.EqNone.eq_none_none (x3 I q (by simp))
  |bl j=>cases ry;exact PySem.EqNone.eq_none_bool (x3 I q (by simp))
  |int j=>obtain⟨t',rfl⟩:=ry;exact PySem.EqNone.eq_none_int (x3 I q (by simp))
  |str j=>obtain⟨t',rfl⟩:=ry;exact PySem.EqNone.eq_none_str (x3 I q (by simp))
  |_=>exact absurd (show false=true from hs) Bool.false_ne_true
 |bl i =>
  cases rx
  cases y with
  |non=>cases ry;exact PySem.EqNone.eq_bool_none (x3 I q (by simp))
  |bl j=>cases ry;exact eq_bool (x3 I q E3)
  |str j=>obtain⟨t',rfl⟩:=ry;exact PySem.EqMixed.eq_bool_str (x3 I q (by simp))
  |_=>exact absurd (show false=true from hs) Bool.false_ne_true
 |int i =>
  obtain⟨t,rfl⟩:=rx;cases y with
  |non=>cases ry;exact PySem.EqNone.eq_int_none (x3 I q (by simp))
  |int j=>obtain⟨t',rfl⟩:=ry;exact eq_int (x3 I q Lh)
  |str j=>obtain⟨t',rfl⟩:=ry;exact PySem.EqMixed.eq_int_str (x3 I q (by simp))
  |_=>exact absurd (show false=true from hs) Bool.false_ne_true
 |str i =>
  obtain⟨t,rfl⟩:=rx;cases y with
  |non=>cases ry;exact PySem.EqNone.eq_str_none (x3 I q (by simp))
  |bl j=>cases ry;exact PySem.EqMixed.eq_str_bool (x3 I q (by simp))
  |int j=>obtain⟨t',rfl⟩:=ry;exact PySem.EqMixed.eq_str_int (x3 I q (by simp))
  |str j=>obtain⟨t',rfl⟩:=ry;exact eq_str (x3 I q Lg)
  |_=>exact absurd (show false=true from hs) Bool.false_ne_true
 |byt i =>
  obtain⟨t,rfl⟩:=rx;cases y with
  |byt j=>obtain⟨t',rfl⟩:=ry;exact W.eq_bytes (x3 I q Li)
  |_=>exact absurd (show false=true from hs) Bool.false_ne_true
 |_=>cases y <;> exact absurd (show false=true from hs) Bool.false_ne_true
def z3q:OpR X (compareOp .NotEq) rNe:=by
 intro pn s σ H x y v u Q I rx ry h;obtain⟨hs,q⟩:=h;cases x with
 |non =>
  cases rx
  cases y with
  |non=>cases ry;exact PySem.EqNone.ne_none_none (x3 I q (by simp))
  |bl j=>cases ry;exact PySem.EqNone.ne_none_bool (x3 I q (by simp))
  |int j=>obtain⟨t',rfl⟩:=ry;exact PySem.EqNone.ne_none_int (x3 I q (by simp))
  |str j=>obtain⟨t',rfl⟩:=ry;exact PySem.EqNone.ne_none_str (x3 I q (by simp))
  |_=>exact absurd (show false=true from hs) Bool.false_ne_true
 |bl i =>
  cases rx
  cases y with
  |non=>cases ry;exact PySem.EqNone.ne_bool_none (x3 I q (by simp))
  |bl j=>cases ry;exact ne_bool (x3 I q (congrArg not E3))
  |str j=>obtain⟨t',rfl⟩:=ry;exact PySem.EqMixed.ne_bool_str (x3 I q (by simp))
  |_=>exact absurd (show false=true from hs) Bool.false_ne_true
 |int i =>
  obtain⟨t,rfl⟩:=rx;cases y with
  |non=>cases ry;exact PySem.EqNone.ne_int_none (x3 I q (by simp))
  |int j=>obtain⟨t',rfl⟩:=ry;exact ne_int (x3 I q (congrArg not Lh))
  |str j=>obtain⟨t',rfl⟩:=ry;exact PySem.EqMixed.ne_int_str (x3 I q (by simp))
  |_=>exact absurd (show false=true from hs) Bool.false_ne_true
 |str i =>
  obtain⟨t,rfl⟩:=rx;cases y with
  |non=>cases ry;exact PySem.EqNone.ne_str_none (x3 I q (by simp))
  |bl j=>cases ry;exact PySem.EqMixed.ne_str_bool (x3 I q (by simp))
  |int j=>obtain⟨t',rfl⟩:=ry;exact PySem.EqMixed.ne_str_int (x3 I q (by simp))
  |str j=>obtain⟨t',rfl⟩:=ry;exact ne_str (x3 I q (congrArg not Lg))
  |_=>exact absurd (show false=true from hs) Bool.false_ne_true
 |byt i =>
  obtain⟨t,rfl⟩:=rx;cases y with
  |byt j=>obtain⟨t',rfl⟩:=ry;exact W.ne_bytes (x3 I q (congrArg not Li))
  |_=>exact absurd (show false=true from hs) Bool.false_ne_true
 |_=>cases y <;> exact absurd (show false=true from hs) Bool.false_ne_true
def z3r:OpR X (compareOp .Lt) (rI0 λi j=>.bl (decide (i<j))):=opB0 λ_ _ _ _ _ _ _ q=>lt_int q
def z0z:OpR X (compareOp .LtE) (rI0 λi j=>.bl (decide (i<=j))):=opB0 λ_ _ _ _ _ _ _ q=>le_int q
def Jk:OpR X (compareOp .Gt) (rI0 λi j=>.bl (decide (j<i))):=opB0 λ_ _ _ _ _ _ _ q=>gt_int q
def z3s:OpR X (compareOp .GtE) (rI0 λi j=>.bl (decide (j<=i))):=opB0 λ_ _ _ _ _ _ _ q=>ge_int q
def Wo:OpR X (compareOp .In) (λx y H Q=>∃i j,x=.str i/\y=.str j/\Q (.bl (!(Builtin.Str.occurrences j i 0 j.length 1).isEmpty)) H):=by
 intro pn s σ H x y v u Q I rx ry h;obtain⟨i,j,rfl,rfl,q⟩:=h;obtain⟨t,rfl⟩:=rx;obtain⟨t',rfl⟩:=ry;exact in_str (x3 I q rfl)
def C0:OpR X (compareOp .IsNot) (λx y H Q=>y=.non/\Q (.bl (!decide (x=.non))) H):=by
 intro pn s σ H x y v u Q I rx ry h;obtain⟨rfl,q⟩:=h;cases ry;refine isnot_none_gen (x3 I q ?_);cases x <;> first
  |(cases rx;rfl)
  |(obtain⟨t,rfl⟩:=rx;rfl)
def OpR.or{f:Value->Value->Sem Value}{r r':R2}(h:OpR X f r)(h':OpR X f r'):OpR X f (λx y H Q=>r x y H Q\/r' x y H Q):=by
 intro pn s σ H x y v u Q I rx ry q;rcases q with q|q
 ·exact h pn s σ H x y v u Q I rx ry q
 ·exact h' pn s σ H x y v u Q I rx ry q
def qu(b:Expr){op:CmpOp}(h:op≠.In:=by decide)(h2:op≠.NotIn:=by decide):behindInMarks op b=false:=by
 have e1:(op==CmpOp.In)=false:=by cases op <;> first|rfl|exact absurd rfl h
 have e2:(op==CmpOp.NotIn)=false:=by cases op <;> first|rfl|exact absurd rfl h2
 cases b <;> simp[behindInMarks,e1,e2]
def Dy{op:CmpOp}{r:R2}(ho:OpR X (compareOp op) r)(ha:PE X a ta)(hb:PE X b tb)(hm:behindInMarks op b=false):PE X (.Compare a [op] [b] pos) (tOp r ta tb):=by
 intro pn s σ H Q I h;exact wpAny_Compare1 (binT ha hb I h λv u s2 x y H2 I2 rx ry q=>ho pn s2 σ H2 x y v u Q I2 rx ry q) hm
def El(t:TE):TT:=λσ H Q=>t σ H λx H'=>∃k,x=.bl k/\Q k H'
def rq{op:CmpOp}{r:R2}(ho:OpR X (compareOp op) r)(ha:PE X a ta)(hb:PE X b tb)(hm:behindInMarks op b=false):PT X (.Compare a [op] [b] pos) (El (tOp r ta tb)):=by
 intro pn s σ H Q I h;refine wpAny_isTrue_Compare1 (thn (ha pn s σ H _ I h) λv s1 ⟨x,H1,I1,r1,q1⟩=>thn (hb pn s1 σ H1 _ I1 q1) λu s2 ⟨y,H2,I2,r2,q2⟩ =>
  thn (ho pn s2 σ H2 x y v u _ I2 r1 r2 q2) λc s3 ⟨z,H3,I3,r3,k,e,q3⟩=>?_) hm
 subst e;cases r3;exact wpAny_truthy_bool ⟨H3,I3,q3⟩
def Gp(r r':R2)(ta tb tc:TE):TE:=λσ H Q=>ta σ H λx H1=>tb σ H1 λy H2=>r x y H2 λz H3=>∃k,z=.bl k /\
 (if k=true then tc σ H3 λw' H4=>r' y w' H4 Q else Q (.bl false) H3)
def Jc{op op':CmpOp}{r r':R2}(ho:OpR X (compareOp op) r)(ho':OpR X (compareOp op') r')(ha:PE X a ta)(hb:PE X b tb)(hc:PE X c tc)(hm:lastMarks [op,op'] [b,c]=false:=by with_unfolding_all rfl):PT X (.Compare a [op,op'] [b,c] pos) (El (Gp r r' ta tb tc)):=by
 intro pn s σ H Q I h;refine isTrue_chain (thn (ha pn s σ H _ I h) λv s1 ⟨x,H1,I1,r1,q1⟩=>test_link (thn (hb pn s1 σ H1 _ I1 q1) λu s2 ⟨y,H2,I2,r2,q2⟩ =>
  thn (ho pn s2 σ H2 x y v u _ I2 r1 r2 q2) λd s3 ⟨z,H3,I3,r3,k,e,q3⟩=>?_)) hm
 subst e;cases r3;refine wpAny_truthy_bool ?_;cases k with
 |false =>
  obtain⟨k',e',q'⟩:=q3;cases e';exact ite_ff ⟨H3,I3,q'⟩
 |true =>
  refine ite_tt (test_last (thn (hc pn s3 σ H3 _ I3 q3) λw' s4 ⟨z',H4,I4,r4,q4⟩=>thn (ho' pn s4 σ H4 y z' u w' _ I4 r2 r4 q4) λd' s5 ⟨z2,H5,I5,r5,k2,e2,q5⟩=>?_));subst e2;cases r5;exact wpAny_truthy_bool ⟨H5,I5,q5⟩
def TruV(K:W.Frag)(x:V)(H:Hp)(k:Bool):Prop :=
 match x with
 |.non=>k=false
 |.bl b=>k=b
 |.int i=>k=(i != 0)
 |.str y=>y.length<=sizeLine/\k=((y.length:Int) != 0)
 |.byt y=>y.size<=sizeLine/\k=((y.size:Int) != 0)
 |.ref p=>(∃xs,SqL K H p xs/\k=!xs.isEmpty)\/(∃xs,SqT K H p xs/\k=!xs.isEmpty)\/∃kvs,H p=some (.dK kvs)/\k=!kvs.isEmpty
 |_=>False
def Qz{κ:Type}{kvs:List (κ×V)}{vs:List (κ×Value)}(r:KV kvs vs):(!vs.isEmpty)=!kvs.isEmpty:=by
 cases r <;> rfl
def Zs{xs:List V}{its:List Value}(r:Vals xs its):(!its.toArray.isEmpty)=!xs.isEmpty:=by
 cases r <;> simp
def dr:(sizeLine:Nat)<2 ^ 63:=by rw[sizeLine_eq];decide
def A1:TruR X (λx H Q=>∃k,TruV X.K x H k/\Q k H):=by
 intro pn s σ H x v Q I rx h;obtain⟨k,e,q⟩:=h;have hl:=dr;have hs:sizeLine=16777216:=sizeLine_eq;cases x with
 |non =>
  cases rx
  have e':k=false:=e;subst e';exact truthy_none ⟨H,I,q⟩
 |bl b =>
  cases rx
  have e':k=b:=e;subst e';exact wpAny_truthy_bool ⟨H,I,q⟩
 |int i =>
  obtain⟨t,rfl⟩:=rx;have e':k=(i != 0):=e;subst e';exact PySem.P.truthy_int ⟨H,I,q⟩
 |str y =>
  obtain⟨t,rfl⟩:=rx;obtain⟨hy,e'⟩:y.length<=sizeLine/\k=((y.length:Int) != 0):=e;subst e';exact PySem.P.truthy_str (by omega) ⟨H,I.tok _,q⟩
 |byt y =>
  obtain⟨t,rfl⟩:=rx;obtain⟨hy,e'⟩:y.size<=sizeLine/\k=((y.size:Int) != 0):=e;subst e';exact W.truthy_bytes (by omega) ⟨H,I.tok _,q⟩
 |ref p =>
  cases rx
  have e':(∃xs,SqL X.K H p xs/\k=!xs.isEmpty)\/(∃xs,SqT X.K H p xs/\k=!xs.isEmpty)\/∃kvs,H p=some (.dK kvs)/\k=!kvs.isEmpty:=e;rcases e' with⟨xs,hx,e'⟩|⟨xs,hx,e'⟩|⟨kvs,hx,e'⟩
  ·subst e';obtain⟨its,r,pl,hz⟩:=I.list hx;have hlen:=r.length;exact wpAny_truthy_list pl.isList (by simp only[zap];omega) ⟨H,I.tok _,by rw[Zs r];exact q⟩
  ·subst e';obtain⟨its,r,pl,hz⟩:=I.tuple hx;have hlen:=r.length;exact truthy_tuple pl (by simp only[zap];omega) ⟨H,I.tok _,by rw[Zs r];exact q⟩
  ·subst e';obtain⟨hz,hS,vs,r,m⟩:kvs.length<=sizeLine/\(p==sysModules)=false/\∃vs,KV kvs vs/\s.heap.DictOf (yx X.prog X.w) p vs:=I.hok p _ hx;have hlen:kvs.length=vs.length:=Paired.length r;exact wpAny_truthy_dict hS m (by omega) ⟨H,I.tok _,by rw[Qz r];exact q⟩
 |_=>exact(show False from e).elim
def Jb(ha:PE X a ta)(he:∀ whole,isTrue a X.env whole=(do let v <- whole;standAt a.pos;holding [v] (truthy v))) :
  PT X a (λσ H Q=>ta σ H λx H'=>∃k,TruV X.K x H' k/\Q k H'):=by
 intro pn s σ H Q I h;exact isTrue_plain (thn (ha pn s σ H _ I h) λv s1 ⟨x,H1,I1,r1,q1⟩=>A1 pn s1 σ H1 x v Q I1 r1 q1) (he _)
def Qh:OpR X (binaryOp .Add) (λx y H Q=>∃i j,x=.str i/\y=.str j/\i.length+j.length<=sizeLine/\Q (.str (i++j)) H):=by
 intro pn s σ H x y v u Q I rx ry h;obtain⟨i,j,rfl,rfl,hz,q⟩:=h;obtain⟨t,rfl⟩:=rx;obtain⟨t',rfl⟩:=ry;exact add_str (λt' tk=>⟨.str (i++j),H,I.tok _,⟨_,rfl⟩,q⟩) hz
def uy{x:V}{us:List Value}(r:Vals [x] us):∃u,us=[u]/\RelV x u:=by
 cases r with
 |cons r1 r2=>cases r2;exact⟨_,rfl,r1⟩
def Ps{x y:V}{us:List Value}(r:Vals [x,y] us):∃u w',us=[u,w']/\RelV x u/\RelV y w':=by
 cases r with
 |cons r1 r2 =>
  cases r2 with
  |cons r3 r4=>cases r4;exact⟨_,_,rfl,r1,r3⟩
def Lw:vt X (.type "int") (λxs H Q=>(∃i,xs=[.int i]/\Q (.int i) H)\/∃k,xs=[.bl k]/\Q (.int (if k then 1 else 0)) H):=by
 intro pn s σ H xs us Q I r h;rcases h with⟨i,rfl,q⟩|⟨k,rfl,q⟩
 ·obtain⟨u,rfl,t,rfl⟩:=uy r;exact call_int_int ⟨.int i,H,I,⟨_,rfl⟩,q⟩
 ·obtain⟨u,rfl,r1⟩:=uy r;cases r1;exact call_int_bool ⟨.int (if k then 1 else 0),H,I.tok _,⟨_,rfl⟩,q⟩
def Vv:vt X (.type "str") (λxs H Q=>∃i,xs=[.int i]/\i.natAbs.log2<1920/\Q (.str (toString i)) H):=by
 intro pn s σ H xs us Q I r h;obtain⟨i,rfl,hz,q⟩:=h;obtain⟨u,rfl,t,rfl⟩:=uy r;exact PySem.P.str_of_int hz ⟨.str _,H,I.tok _,⟨_,rfl⟩,q⟩
structure ObjM(h:Heap)(x dx C:Addr)(mA:Str->Option Value):Prop where
 obj:h.get? x=some (W.instObj C dx)
 ns:h.Ns1 dx mA
 ne:dx≠x
def M3{h:Heap}{dx:Addr}{mA:Str->Option Value}(n:h.Ns1 dx mA):∃od,h.get? dx=some od/\∀name,W.lookIn name od=some (mA name):=by
 obtain⟨o,es,ep,ho,hd,hk,_,hm⟩:=n;refine⟨o,ho,λname=>?_⟩;have e:=hm name;unfold nsFind findBy at e;rw[<- Array.find?_toList]at e;unfold W.lookIn;rw[hd]
 dsimp only
 split
 ·rename_i y q;rw[q]at e;exact congrArg some e
 ·rename_i q;rw[q]at e;have a:es.toList.any (·.refKey)=false:=by
   rw[List.any_eq_false];intro y hy;obtain⟨z,t,hkey⟩:=hk y (Array.mem_toList_iff.mp hy);simp[DictEntry.refKey,hkey]
  have a':¬ es.toList.any (·.refKey)=true:=by rw[a];exact Bool.false_ne_true
  rw[if_neg a'];exact congrArg some e
def ObjM.look{h:Heap}{x dx C:Addr}{mA:Str->Option Value}(I:ObjM h x dx C mA):∃od,W.InstAt h x (W.instObj C dx) C (some od)/\∀name,W.lookIn name od=some (mA name) :=
 let ⟨od,ho,hl⟩:=M3 I.ns
 ⟨od,⟨I.obj,rfl,rfl,ho⟩,hl⟩
def RelO.some_of{v:V}{o:Option Value}(r:RelO (some v) o):∃u,o=some u/\RelV v u:=by
 cases o with
 |none=>exact(show False from r).elim
 |some u=>exact⟨u,rfl,r⟩
variable{a C dx:Addr}{fs:List (Str×V)}
def Cs(hok:HOk P w H h)(e:H a=some (.ins C dx fs)):∃mA,ObjM h a dx C mA/\(∀f,RelO (fs.lookup f) (mA f))/\PySem.Within mA (fs.map (·.1))/\fs.length<=1000/\H dx=some (.own a):=by
 obtain⟨d,z,ne,ob,mA,n,r,q⟩:=(show xy P w H h a (.ins C dx fs) from hok a _ e);exact⟨mA,⟨ob,n,ne⟩,r,q,z,d⟩
structure Cls(K:W.Frag)(C:Addr):Prop where
 pg:W.plainGet K C Str.empty=true
 hd:W.hasDictIn K C=true
 po:W.plainOver K C=true
 sa:W.findIn K (.ref C) "__setattr__" = some (some (.builtin "object.__setattr__"))
def Cls.get{K:W.Frag}{C:Addr}(c:Cls K C)(f:Str):W.plainGet K C f=true:=c.pg
structure Con(K:W.Frag)(C:Addr)(f:Str)(v:V)(u:Value):Prop where
 at_:W.findIn K (.ref C) f=some (some u)
 rel:RelV v u
 get:W.specialIn K u "__get__" = some none
 cp:W.copiedNames.contains f=false
variable{A:Around}{Q:Value->Shared->Prop}{c:Value}{b:Bool}
inductive TyOf(K:W.Frag)(H:Hp):V->Value->Prop where
 |non:TyOf K H .non (.type "NoneType")
 |bl (x:Bool):TyOf K H (.bl x) (.type "bool")
 |int (i:Int):TyOf K H (.int i) (.type "int")
 |str (x:Str):TyOf K H (.str x) (.type "str")
 |flt (x:UInt64):TyOf K H (.flt x) (.type "float")
 |lst {a:Addr} {xs:List V} (e:H a=some (.lst xs)):TyOf K H (.ref a) (.type "list")
 |frz {a:Addr} {o:Obj} {xs:List V} (e:H a=some (.frz o (.lst xs))):TyOf K H (.ref a) (.type "list")
 |tup {a:Addr} {xs:List V} (e:H a=some (.tup xs)):TyOf K H (.ref a) (.type "tuple")
 |dK {a:Addr} {kvs:List (Key×V)} (e:H a=some (.dK kvs)):TyOf K H (.ref a) (.type "dict")
 |dT {a:Addr} {kvs:List (List Key×V)} (e:H a=some (.dT kvs)):TyOf K H (.ref a) (.type "dict")
 |ins {a C dx:Addr} {fs:List (Str×V)} (e:H a=some (.ins C dx fs)) (cl:Cls K C) (ha:W.findIn K (.ref C) "__class__" = some (some (.builtin "object.__class__")))
   (hn:W.specialIn K (.builtin "object.__class__") "__get__" = some (some (.builtin "getset_descriptor.__get__"))) (htk:W.takesIn K (.builtin "object.__class__")=some true)
   (hm:W.mroIn K C (.type "object")=some true):TyOf K H (.ref a) (.ref C)
def uj{x:V}{u t:Value}(I:Inv X pn σ H s)(rx:RelV x u)(ty:TyOf X.K H x t)(e:W.kitOne X.K t c=some b)(h:∀ tk,Q (.bool b) {s with toks:=tk}) :
  wpAny (model X.prog X.w) A (call (.builtin "isinstance") [u,c]) Q E s:=by
 cases ty with
 |non=>cases (show u=Value.none from rx);exact W.kia_one W.kitx_none I.kIn True.intro e (λz=>nomatch z) h
 |bl y=>cases (show u=Value.bool y from rx);exact W.kia_one W.kitx_bool I.kIn True.intro e (λz=>nomatch z) h
 |int i=>obtain⟨t,q⟩:=(show ∃t,u=Value.int i t from rx);cases q;exact W.kia_one W.kitx_int I.kIn True.intro e (λz=>nomatch z) h
 |str y=>obtain⟨t,q⟩:=(show ∃t,u=Value.str y t from rx);cases q;exact W.kia_one W.kitx_str I.kIn True.intro e (λz=>nomatch z) h
 |flt y=>obtain⟨t,q⟩:=(show ∃t,u=Value.float y t from rx);cases q;exact W.kia_one W.kitx_float I.kIn True.intro e (λz=>nomatch z) h
 |@lst a xs ea =>
  cases (show u=Value.ref a from rx)
  obtain⟨_,_,n,_,h1⟩:=(show xy X.prog X.w H s.heap a (.lst xs) from I.hok a _ ea);exact W.kia_one W.kitx_list I.kIn ⟨_,h1,rfl⟩ e (λz=>nomatch z) h
 |@frz a ob xs ea =>
  cases (show u=Value.ref a from rx)
  obtain⟨_,_,_,n,_,h1⟩:=(show xy X.prog X.w H s.heap a (.frz ob (.lst xs)) from I.hok a _ ea);exact W.kia_one W.kitx_list I.kIn ⟨_,h1,rfl⟩ e (λz=>nomatch z) h
 |@tup a xs ea =>
  cases (show u=Value.ref a from rx)
  obtain⟨_,_,_,p⟩:=(show xy X.prog X.w H s.heap a (.tup xs) from I.hok a _ ea);obtain⟨o,h1,h2,_⟩:=p.1;exact W.kia_one W.kitx_tuple I.kIn ⟨o,h1,h2⟩ e (λz=>nomatch z) h
 |@dK a kvs ea =>
  cases (show u=Value.ref a from rx)
  obtain⟨_,_,vs,_,p⟩:=(show xy X.prog X.w H s.heap a (.dK kvs) from I.hok a _ ea);obtain⟨o,es,ep,h1,h2,_⟩:=p;exact W.kia_one W.kitx_dict I.kIn ⟨o,h1,h2.1⟩ e (λz=>nomatch z) h
 |@dT a kvs ea =>
  cases (show u=Value.ref a from rx)
  obtain⟨_,_,xs,_,o,es,ep,h1,h2,_⟩:=(show xy X.prog X.w H s.heap a (.dT kvs) from I.hok a _ ea);exact W.kia_one W.kitx_dict I.kIn ⟨o,h1,h2.1⟩ e (λz=>nomatch z) h
 |@ins a C dx fs ea cl ha hn htk hm =>
  cases (show u=Value.ref a from rx)
  obtain⟨mA,O,_⟩:=Cs I.hok ea;obtain⟨od,J,_⟩:=O.look;exact W.kia_one (W.kitx_own (cl.get _) cl.hd ha hn htk hm) I.kIn J e (λz=>nomatch z) h
structure Room(k:Nat)(A:Around):Prop where
 hd:A.handled=none
 dp:A.depth+3*k+5<recursionLimit
 un:A.units+16*k+200<cLine
def Room.mono{j k:Nat}{A:Around}(r:Room k A)(h:j<=k):Room j A:=⟨r.hd,by have:=r.dp;omega,by have:=r.un;omega⟩
theorem Room.d{k k2:Nat}{A:Around}(h:Room k2 A)(e:k<=k2:=by omega):Room k A:=h.mono e
theorem Room.e{k k2:Nat}{A:Around}(h:Room k2 A)(e:Nat.ble k k2=true):Room k A:=h.mono (Nat.le_of_ble_eq_true e)
def Room.deeper{k:Nat}{A:Around}(r:Room (k+1) A)(env:Env):Room k (A.deeper env) :=
 ⟨r.hd,by have:=r.dp;show A.depth+1+3*k+5<_;omega,by have:=r.un;show A.units+3+16*k+200<_;omega⟩
def Room.depth{k:Nat}{A:Around}(r:Room k A):A.depth<recursionLimit:=by have:=r.dp;omega
def Room.units{k:Nat}{A:Around}(r:Room k A):A.units+64<cLine:=by have:=r.un;omega
def tNil:TA:=λ_ H Q=>Q [] H
def Kq(ta:TE)(tr:TA):TA:=λσ H Q=>ta σ H λx H1=>tr σ H1 λxs H2=>Q (x::xs) H2
section
variable{e:Expr}{es:List Expr}{te:TE}{t:TA}
def vb:PA X [] tNil:=λ_ _ _ _ H Q I h=>Calls.spliced_nil ⟨[],H,I,.nil,h⟩
def xx(ha:PE X e te)(hr:PA X es t)(hs:starEach (e::es) X.env=(false,eval e X.env)::starEach es X.env:=by rfl):PA X (e::es) (Kq te t):=by
 intro pos pn s σ H Q I h;rw[hs];show wpAny _ _ (spliced ((false,eval e X.env)::backTo pos (starEach es X.env))) _ _ s;refine Calls.spliced_cons (thn (ha pn s σ H _ I h) λu s1 ⟨x,H1,I1,r1,q1⟩=>?_);exact thn (hr pos pn s1 σ H1 _ I1 q1) λus s2 ⟨xs,H2,I2,r2,q2⟩=>⟨x::xs,H2,I2,.cons r1 r2,q2⟩
def tTup(t:TA):TE:=λσ H Q=>t σ H λxs H1=>xs.length<=sizeLine/\∀p,H1 p=none->Q (.ref p) (upd H1 p (.tup xs))
def tLst(t:TA):TE:=λσ H Q=>t σ H λxs H1=>xs.length<=sizeLine/\∀p,H1 p=none->Q (.ref p) (upd H1 p (.lst xs))
def Ni {x1} (h:PA X es t):PE X (.Tuple es x1 pos) (tTup t):=by
 intro pn s σ H Q I hq;refine wpAny_Tuple_spliced (thn (h pos pn s σ H _ I hq) λus s1 ⟨xs,H1,I1,r,z,q⟩=>⟨by rw[<- r.length];exact z,?_⟩)
 have hf:H1 s1.heap.objs.size=none:=I1.hok.fresh (zaj _);refine⟨.ref s1.heap.objs.size,upd H1 s1.heap.objs.size (.tup xs),I1.laid (t':=s1.toks) (λb u e=>zac _ e) (zaj _) ?_,rfl,q _ hf⟩;exact⟨z,us,r,⟨_,zad _ rfl,rfl,_,rfl⟩,_,zad _ rfl,rfl⟩
def Wi(h:PA X es t):PE X (.List es pos) (tLst t):=by
 intro pn s σ H Q I hq;refine wpAny_List_spliced (thn (h pos pn s σ H _ I hq) λus s1 ⟨xs,H1,I1,r,z,q⟩=>⟨by rw[<- r.length];exact z,?_⟩)
 have hf:H1 s1.heap.objs.size=none:=I1.hok.fresh (zaj _);refine⟨.ref s1.heap.objs.size,upd H1 s1.heap.objs.size (.lst xs),I1.laid (t':=s1.toks) (λb u e=>zac _ e) (zaj _) ?_,rfl,q _ hf⟩;exact⟨z,us,0,r,zad _ rfl⟩
end
abbrev Sp:=List V->Hp->VK->XK->Prop
abbrev CXT:=List Env->Hp->Shared->XK->Value->Shared->Prop
structure Env0(P:Program)(w:World)(K:W.Frag)(mg:Str->Option Value)(base:Heap)(A:Around)(outer:List Env)(s:Shared)(H:Hp):Prop where
 frames:A.frames=some outer
 mod:Mod K mg base
 bs:∀b o,base.get? b=some o->s.heap.get? b=some o/\H b=none
 bsz:base.objs.size<=s.heap.objs.size
 funs:s.heap.FunFrames base outer
 frf:∀b∈frs outer,H b=none
 hok:HOk P w H s.heap
 bare:AllBare s.gens
def CE(outer:List Env)(P:Program)(w:World)(H:Hp)(s:Shared)(Q:VK)(u:Value)(s':Shared):Prop :=
 ∃v H',s'.os=s.os/\AllBare s'.gens/\Un (frs outer) [] H H' s.heap s'.heap/\HOk P w H' s'.heap/\RelV v u/\Q v H'
def CR(CX:CXT)(outer:List Env)(P:Program)(w:World)(H:Hp)(s:Shared)(Q:VK)(E:XK)(r:Result)(s':Shared):Prop :=
 match r with
 |.ok (.ret u)=>CE outer P w H s Q u s'
 |.ok _=>False
 |.error e=>CX outer H s E e s'
structure FnOk(P:Program)(w:World)(K:W.Frag)(mg:Str->Option Value)(base:Heap)(CX:CXT)(k:Nat)(f:Addr)(fd:FuncData)(ps:List Str)(sp:Sp):Prop where
 len:∀vs H Q E,sp vs H Q E->vs.length=ps.length
 run:∀(A:Around)(outer:List Env)(s:Shared)(H:Hp)(args:Args)(us:List Value)(vs:List V)(Q:VK)(E:XK),Room k A->Env0 P w K mg base A outer s H->BindsTo s fd args (ps.zip us)->Vals vs us->sp vs H Q E ->
  codeAny (model P w) A (.call (.ref f) args) (CR CX outer P w H s Q E) s
variable{s':Shared}
def Inv.env0(I:Inv X pn σ H s):Env0 X.prog X.w X.K X.mg X.base X.A X.stack s H :=
 ⟨I.ok.frames,I.ok.mod,I.bs,zak I.ok.bsz I.sz,I.stack,I.stkFree,I.hok,I.bare⟩
def Inv.after{Q:VK}{u:Value}(I:Inv X pn σ H s)(h:CE X.stack X.prog X.w H s Q u s'):EP X pn σ Q u s':=by
 obtain⟨v,H',os,bare,un,hok,r,q⟩:=h;obtain⟨hh,g,d,t,os'⟩:=s';obtain rfl:os'=s.os:=os;exact⟨v,H',I.call (h':=hh) (g':=g) (d':=d) (t':=t) (ch:=[]) un hok bare (λb z=>absurd z (by simp)),r,q⟩
def Ac(sp:Sp)(dvs:List V)(E:XK)(t:TA):TE:=λσ H Q=>t σ H λvs H1=>sp (vs++dvs) H1 Q E
def Z5(K:W.Frag)(fd:FuncData)(ps:List Str)(ds:List Value):Prop :=
 ∀(s:Shared)(us:List Value),K.In s.heap->(us++ds).length=ps.length->BindsTo s fd ⟨us,[]⟩ (ps.zip (us++ds))
def Z5.all{K:W.Frag}{fd:FuncData}{ps:List Str}(h:∀ us:List Value,us.length=ps.length->bindArgs fd ⟨us,[]⟩=pure (ps.zip us)):Z5 K fd ps []:=λs us _ hl=>by
 rw[List.append_nil]at hl ⊢;exact .of_eq (h us hl)
def K6(CX:CXT)(X:Cx)(E:XK):Prop:=∀(pn:List (Addr×Obj))(σ:St)(H:Hp)(s:Shared)(e:Value)(s':Shared),Inv X pn σ H s->CX X.stack H s E e s'->X.xe e s'
section
variable{CX:CXT}{k:Nat}{f:Addr}{fd:FuncData}{ps:List Str}{sp:Sp}{dvs:List V}{ds:List Value}{E:XK}{x:Str}{p:Pos}{e:Expr}{es:List Expr}{t:TA}
def Ar{pn:List (Addr×Obj)}{σ:St}{H:Hp}{s:Shared}{Q:VK}{us:List Value}{vs:List V}(F:FnOk X.prog X.w X.K X.mg X.base CX k f fd ps sp)(hr:Room k X.A)(hb:Z5 X.K fd ps ds)(hd:Vals dvs ds)(hx:K6 CX X E)(I:Inv X pn σ H s)(r:Vals vs us)(h:sp (vs++dvs) H Q E):wpAny (model X.prog X.w) X.A (call (.ref f) us) (EP X pn σ Q) X.xe s:=by
 have r2:Vals (vs++dvs) (us++ds):=r.append hd;have hl:(us++ds).length=ps.length:=by rw[<- r2.length];exact F.len _ _ _ _ h
 refine wpAny_call (codeAny_mono (F.run X.A X.stack s H ⟨us,[]⟩ (us++ds) (vs++dvs) Q E hr I.env0 (hb s us I.kIn hl) r2 h) λr s' hq=>?_);cases r with
 |error e=>exact hx pn σ H s e s' I hq
 |ok fl =>
  cases fl with
  |ret u=>exact I.after hq
  |next=>exact False.elim hq
  |brk=>exact False.elim hq
  |cont=>exact False.elim hq
def Nk(F:FnOk X.prog X.w X.K X.mg X.base CX k f fd ps sp)(hr:Room k X.A)(hg:Gl X x)(hm:X.mg x=some (.ref f))(hk:W.keepIn X.K (.ref f)=true)(hb:Z5 X.K fd ps ds)(hd:Vals dvs ds)(hx:K6 CX X E)(ha:PA X (e::es) t)(hdb:(x==("__debug__" : Str))=false:=by decide)(he:starEach (e::es) X.env=(false,eval e X.env)::starEach es X.env:=by rfl)(hpl:(backTo pos (starEach es X.env)).any (·.1)=false:=by rfl) :
  PE X (.Call (.Name x p) (e::es) [] pos) (Ac sp dvs E t):=by
 intro pn s σ H Q I h;refine wpAny_Call_Name_kw (Mg I hg hm ?_ hdb);refine W.callWith_K (h₀:=X.base) I.ok.mod.kin hk (thn (ha pos pn s σ H _ I h) λus s1 ⟨vs,H1,I1,r,q⟩=>⟨I1.kIn,?_⟩) he hpl;exact Ar F hr hb hd hx I1 r q
end
structure zo(N P:List Str)(sc:Scope):Prop where
 kind:sc.kind=.function
 co:sc.isCoroutine=false
 gen:sc.isGenerator=false
 nd:N.Nodup
 pre:N.take P.length=P
 par:∀x∈P,sc.names.lookup x=some .local\/sc.names.lookup x=some .cell
 nofree:∀y∈sc.names,y.2≠.free
def U3{kindOf:Str->Option NameKind}{x:Str}:∀{binds:List (Str×Value)}{m:Str->Option Value},(∀v,(x,v)∉binds)->bindL kindOf binds m x=m x
 |[],_,_=>rfl
 |(n,v)::r,m,h=>by
  unfold bindL;rw[U3 λw hw=>h w (zal _ hw)];split
  ·have:x≠n:=by rintro rfl;exact h v zao
   simp[this]
  ·rfl
def U5{kindOf:Str->Option NameKind}{x:Str}:∀{binds:List (Str×Value)}{m:Str->Option Value},(∀v,(x,v)∉binds)->bindC kindOf binds m x=m x
 |[],_,_=>rfl
 |(n,v)::r,m,h=>by
  unfold bindC;rw[U5 λw hw=>h w (zal _ hw)];split
  ·rfl
  ·have:x≠n:=by rintro rfl;exact h v zao
   simp[this]
theorem U4{kindOf:Str->Option NameKind}{x:Str}{v:Value}:∀{P:List Str}{vs:List Value}{i:Nat}{m:Str->Option Value},P.Nodup->P[i]?=some x->vs[i]?=some v->kindOf x=some .local ->
  bindL kindOf (P.zip vs) m x=some v
 |[],_,_,_,_,h,_,_=>by simp at h
 |_::_,[],_,_,_,_,h,_=>by simp at h
 |p::P,w::vs,0,m,nd,h1,h2,hk=>by
  simp at h1 h2;subst h1;subst h2;show bindL kindOf ((p,w)::P.zip vs) m p=_;unfold bindL;rw[U3 λv hv=>(List.nodup_cons.mp nd).1 (List.of_mem_zip hv).1,if_pos hk];simp
 |p::P,w::vs,i+1,m,nd,h1,h2,hk=>by
  show bindL kindOf ((p,w)::P.zip vs) m x=_;unfold bindL;exact U4 (i:=i) (List.nodup_cons.mp nd).2 (by simpa using h1) (by simpa using h2) hk
def U6{kindOf:Str->Option NameKind}{x:Str}{v:Value}:∀{P:List Str}{vs:List Value}{i:Nat}{m:Str->Option Value},P.Nodup->P[i]?=some x->vs[i]?=some v->kindOf x≠some .local ->
  bindC kindOf (P.zip vs) m x=some v
 |[],_,_,_,_,h,_,_=>by simp at h
 |_::_,[],_,_,_,_,h,_=>by simp at h
 |p::P,w::vs,0,m,nd,h1,h2,hk=>by
  simp at h1 h2;subst h1;subst h2;show bindC kindOf ((p,w)::P.zip vs) m p=_;unfold bindC;rw[U5 λv hv=>(List.nodup_cons.mp nd).1 (List.of_mem_zip hv).1,if_neg hk];simp
 |p::P,w::vs,i+1,m,nd,h1,h2,hk=>by
  show bindC kindOf ((p,w)::P.zip vs) m x=_;unfold bindC;exact U6 (i:=i) (List.nodup_cons.mp nd).2 (by simpa using h1) (by simpa using h2) hk
def start(N:List Str)(vs:List V):St:=vs.map some++List.replicate (N.length-vs.length) none
def cxOf(CX:CXT)(P:Program)(w:World)(K:W.Frag)(mg:Str->Option Value)(base:Heap)(N:List Str)(qual:Str)(scope:Scope)(f:Addr)(cd:Value)(A:Around)(outer:List Env)(s:Shared)(H:Hp)(E:XK):Cx where
 prog:=P
 w:=w
 K:=K
 mg:=mg
 base:=base
 A:=A.deeper (envOfC qual scope s.heap.objs.size f cd)
 N:=N
 s₀:=s
 H₀:=H
 env:=envOfC qual scope s.heap.objs.size f cd
 outer:=outer
 stack:=envOfC qual scope s.heap.objs.size f cd::outer
 ex:=[]
 calm:=true
 fn:=λ_=>true
 pn:=[]
 xe:=λe s'=>wpAny (model P w) (A.deeper (envOfC qual scope s.heap.objs.size f cd)) (leaving (envOfC qual scope s.heap.objs.size f cd) e) (λ_ s''=>CX outer H s E e s'') (λe' s''=>CX outer H s E e' s'') s'
def Ry{sc:Scope}{n:Nat}{x:Str}(h:sc.names.lookup x=some .cell):∃c,(cellsFrom n sc.names []).lookup x=some c:=by
 have q:=W.cellsFrom_some sc.names n [] (.inl h);exact Option.isSome_iff_exists.mp q
def Va{CX:CXT}{P:Program}{w:World}{K:W.Frag}{mg:Str->Option Value}{base:Heap}{N ps:List Str}{qual:Str}{scope:Scope}{f:Addr}{cd:Value}{A:Around}{outer:List Env}{s s1:Shared}{H:Hp}{E:XK}{us:List Value}{vs:List V}(S:zo N ps scope)(hd:A.handled=none)(e0:Env0 P w K mg base A outer s H)(hl:vs.length=ps.length)(r:Vals vs us)(x:InCallC s s.heap.objs.size (bindL (envOfC qual scope s.heap.objs.size f cd).kindOf (ps.zip us) λ_=>none) (cellsFrom (s.heap.objs.size+1) scope.names []) (bindC (envOfC qual scope s.heap.objs.size f cd).kindOf (ps.zip us) λ_=>none) s1) :
  Inv (cxOf CX P w K mg base N qual scope f cd A outer s H E) [] (start N vs) H s1:=by
 have hpl:ps.length<=N.length:=by have:=congrArg List.length S.pre;rw[List.length_take]at this;omega
 obtain⟨h1,tk,rfl,hk⟩:=x.done;have noA:∀b:Addr,b∉(cxOf CX P w K mg base N qual scope f cd A outer s H E).ex:=λb z=>absurd (show b∈([]:List Addr) from z) (by simp)
 refine⟨⟨e0.mod,S.kind,rfl,rfl,zaj _,λy z c h1 h2=>?_,λy hy=>?_,λy c _ h=>?_,λ_=>hd,Around.frames_deeper e0.frames,.inr ⟨rfl,rfl⟩,λb z=>absurd z (noA b),e0.bs,e0.bsz,λb _ _=>noA b,λb z=>absurd z (noA b),e0.funs,e0.frf⟩,
  rfl,e0.bare,Un.kept hk,⟨_,x.toInCall.ns,λi y v h1 h2 h3=>?_⟩,λy c h=>⟨_,x.cell y c h⟩,e0.hok.fresh (zaj _),λy c h=>?_,λp hp=>absurd (show p∈([]:List (Addr×Obj)) from hp) (by simp),e0.hok.kept hk,?_⟩
 ·exact name_of_addr x.apart (PySem.mem_of_lookup h1) (PySem.mem_of_lookup h2)
 ·have hy:scope.names.lookup y=some .cell\/scope.names.lookup y=some .free:=hy;rcases hy with hy|hy
  ·exact Ry hy
  ·exact absurd rfl (S.nofree _ (PySem.mem_of_lookup hy))
 ·exact Nat.le_of_lt (x.above y c (PySem.mem_of_lookup h))
 ·have hi:i<vs.length:=by
   unfold start at h2;by_cases hi:i<vs.length
   ·exact hi
   ·rw[List.getElem?_append_right (by simpa using hi)]at h2
    rw[List.getElem?_replicate]at h2;split at h2 <;> cases h2
  have ha:vs[i]?=some v:=by
   unfold start at h2;rw[List.getElem?_append_left (by simpa using hi),zai]at h2
   cases e:vs[i]? with
   |none=>rw[e]at h2;cases h2
   |some a=>rw[e]at h2;cases h2;rfl
  obtain⟨u,hu,rv⟩:=r.get ha;have hp:ps[i]?=some y:=by
   rw[<- S.pre,List.getElem?_take_of_lt (by omega)];exact h1
  have ndP:ps.Nodup:=by rw[<- S.pre];exact S.nd.sublist (List.take_sublist _ _)
  refine⟨u,rv,?_⟩;rcases S.par y (zan hp) with k|k
  ·exact .inl ⟨k,U4 ndP hp hu k⟩
  ·obtain⟨c,e⟩:=Ry (n:=s.heap.objs.size+1) k;refine .inr ⟨.inl k,c,e,?_⟩;have q:=x.cell y c e;rw[U6 ndP hp hu (by show scope.names.lookup y≠_;rw[k];decide)]at q
   exact q
 ·exact e0.hok.fresh (Nat.le_of_lt (x.above y c (PySem.mem_of_lookup h)))
 ·unfold start;show _=N.length;rw[zLa,zLm,List.length_replicate];omega
def z4i{CX:CXT}{P:Program}{w:World}{K:W.Frag}{mg:Str->Option Value}{base:Heap}{k:Nat}{f:Addr}{name qual:Str}{params:Arguments}{body:List Stmt}{scope:Scope}{dV kV doc pm qZ ct oc:Value}{an od:Option Addr}{osl:Array (Option Value)}{N ps:List Str}{sp:Sp}(lk:K.lookup f=some ⟨oc,od,.func (W.fnOf name qual params body scope dV kV doc pm an qZ ct),osl⟩)(hcd:W.codeIn K qZ qual=true)(S:zo N ps scope)(len:∀ vs H Q E,sp vs H Q E->vs.length=ps.length)(qY:∀ (A:Around) (outer:List Env) (s:Shared) (H:Hp) (vs:List V) (Q:VK) (E:XK),Room k (A.deeper (envOfC qual scope s.heap.objs.size f qZ))->sp vs H Q E ->
   ∃ t,PSs (cxOf CX P w K mg base N qual scope f qZ A outer s H E) body t/\t {nx:=λ_ H'=>Q .non H',rt:=Q} (start N vs) H) :
  FnOk P w K mg base CX (k+1) f (W.fnOf name qual params body scope dV kV doc pm an qZ ct) ps sp:=by
 refine⟨len,λA outer s H args us vs Q E hr e0 hb r hsp=>?_⟩;have hl:=len _ _ _ _ hsp;have KX:K.In s.heap:=e0.mod.kin.keeps λb o e=>(e0.bs b o e).1;have lim:s.heap.NoLimit:=e0.mod.nolimit.keeps λb o e=>(e0.bs b o e).1;have hkind:∀y∈ps.zip us,scope.names.lookup y.1=some .local\/(scope.names.lookup y.1=some .cell/\((cellsFrom (s.heap.objs.size+1) scope.names []).lookup y.1).isSome=true):=λ⟨n,v⟩ hy=>by
  rcases S.par n (List.of_mem_zip hy).1 with q|q
  ·exact .inl q
  ·exact .inr ⟨q,W.cellsFrom_some _ _ _ (.inl q)⟩
 refine codeAny_call_function hr.depth (KX _ _ lk) rfl S.co S.gen rfl (W.codeRec_of KX hcd) (hb _ _ _ _ ?_);refine wpAny_newFunctionEnv_cells S.kind hkind λenv he s1 x=>?_;subst he;refine⟨lim.keeps x.toInCall.keep,codeAny_func ?_⟩;obtain⟨t,ht,hq⟩:=qY A outer s H vs Q E (hr.deeper _) hsp;have I:Inv (cxOf CX P w K mg base N qual scope f qZ A outer s H E) [] (start N vs) H s1:=Va S hr.hd e0 hl r x;refine wpAny_mono (ht [] s1 (start N vs) H _ I hq) (λfl s' hs=>?_) λe s' hs=>hs;have fin:∀{σ':St}{H':Hp}{v:V}{u:Value},Inv (cxOf CX P w K mg base N qual scope f qZ A outer s H E) [] σ' H' s'->RelV v u->Q v H'->CE outer P w H s Q u s' :=
  λ{σ' H' v u} J rv q=>⟨v,H',J.os,J.bare,J.base,J.hok,rv,q⟩
 cases fl with
 |ret u =>
  obtain⟨v,σ',H',J,rv,q⟩:=hs;exact fin J rv q
 |next =>
  obtain⟨σ',H',J,q⟩:=hs;exact fin (v:=V.non) (u:=Value.none) J rfl q
 |brk =>
  obtain⟨_,_,_,q⟩:=hs;exact False.elim q
 |cont =>
  obtain⟨_,_,_,q⟩:=hs;exact False.elim q
section
variable{x:Str}{p:Pos}{e:Expr}{es:List Expr}{t:TA}{id T:String}{r:List V->Hp->VK->Prop}
def tCB(r:List V->Hp->VK->Prop)(t:TA):TE:=λσ H Q=>t σ H λvs H1=>r vs H1 Q
def qq(hc:vt X (.builtin id) r)(hg:Gl X x)(hm:X.mg x=none)(hv:bootBuiltins x=some (.builtin id))(ha:PA X (e::es) t)(hn:x≠"__name__":=by decide)(hdb:(x==("__debug__" : Str))=false:=by decide)(he:starEach (e::es) X.env=(false,eval e X.env)::starEach es X.env:=by rfl)(hpl:(backTo pos (starEach es X.env)).any (·.1)=false:=by rfl):PE X (.Call (.Name x p) (e::es) [] pos) (tCB r t):=by
 intro pn s σ H Q I h;refine wpAny_Call_Name_kw (ju I hg hm hv ?_ hn hdb);exact PyProof.Rows.callWith_builtin1 (thn (ha pos pn s σ H _ I h) λus s1 ⟨vs,H1,I1,r1,q1⟩=>hc pn s1 σ H1 vs us Q I1 r1 q1) he hpl
def Wk(hc:vt X (.type T) r)(hg:Gl X x)(hm:X.mg x=none)(hv:bootBuiltins x=some (.type T))(ha:PA X (e::es) t)(hn:x≠"__name__":=by decide)(hdb:(x==("__debug__" : Str))=false:=by decide)(he:starEach (e::es) X.env=(false,eval e X.env)::starEach es X.env:=by rfl)(hpl:(backTo pos (starEach es X.env)).any (·.1)=false:=by rfl):PE X (.Call (.Name x p) (e::es) [] pos) (tCB r t):=by
 intro pn s σ H Q I h;refine wpAny_Call_Name_kw (ju I hg hm hv ?_ hn hdb);exact PyProof.Rows.callWith_type1 (thn (ha pos pn s σ H _ I h) λus s1 ⟨vs,H1,I1,r1,q1⟩=>hc pn s1 σ H1 vs us Q I1 r1 q1) he hpl
end
section
open PySem.SeqAt
open PySem.AutoSeq1 (wpAny_loadPart')
open PySem.MeetsSeq PySem.MeetsSeq2 PySem.MeetsSeq3
end
section
variable{prog:Program}
def cat_tup{t b:Addr}{vs ws:List Value}{Q:Value->Shared->Prop}(ht:IsTup s.heap t vs.toArray)(hb:IsTup s.heap b ws.toArray)(hv:vs≠[])(h1:ws=[]->Q (.ref t) s)(h2:ws≠[]->Q (.ref s.heap.objs.size) {s with heap:=s.heap.push {cls:=.type "tuple",data:=.seq (vs++ws).toArray}})(hsz:vs.length+ws.length<=sizeLine):wpAny (model prog w) A (binaryOp .Add (.ref t) (.ref b)) Q E s:=by
 obtain⟨⟨cls,dd,data,sl⟩,ho,hc,n,hd⟩:=id ht;obtain⟨⟨cls2,dd2,data2,sl2⟩,ho2,hc2,n2,hd2⟩:=id hb;simp only at hc hd hc2 hd2;subst hc hd hc2 hd2;have e:vs.toArray++ws.toArray=(vs++ws).toArray:=by simp
 by_cases hw:ws=[]
 ·exact concat_meets ⟨_,ho,rfl⟩ ⟨_,ho2,rfl⟩ noFill_tuple_add seq_tuple_add PySem.F.slot_tuple_add PySem.F.entry_tuple_add (PySem.F.args_tuple_add_2 _ _)
   (tuple_addW1 t b vs.toArray ws.toArray n n2 dd dd2 sl sl2 (by simpa using hv) (by simp[hw])) ⟨ho,ho2,h1 hw⟩
 ·refine concat_meets ⟨_,ho,rfl⟩ ⟨_,ho2,rfl⟩ noFill_tuple_add seq_tuple_add PySem.F.slot_tuple_add PySem.F.entry_tuple_add (PySem.F.args_tuple_add_2 _ _)
   (tuple_addW2 t b vs.toArray ws.toArray n n2 dd dd2 sl sl2 (by simpa using hv) (by simpa using hw) (by rw[zap,zap];exact hsz)) ⟨ho,ho2,?_⟩
  rw[e];exact h2 hw
def sIx(n d:Nat):Option Int->Nat
 |none=>d
 |some v=>if v<0 then(v+(n:Int)).toNat else min v.toNat n
def sIx_none(n d:Nat):sIx n d none=d:=rfl
def sIx_nat(n d k:Nat):sIx n d (some (k:Int))=min k n:=by
 show(if (k:Int)<0 then((k:Int)+(n:Int)).toNat else min (k:Int).toNat n)=min k n
 rw[if_neg (by omega),Int.toNat_natCast]
def Zh(n d:Nat)(hd:d<=n)(o:Option Int):sIx n d o<=n:=by
 cases o with
 |none=>exact hd
 |some v =>
  show(if v<0 then(v+(n:Int)).toNat else min v.toNat n)<=n
  by_cases hv:v<0
  ·rw[if_pos hv];omega
  ·rw[if_neg hv];exact Nat.min_le_right _ _
def Ls(v:Int)(n d:Nat):(if v<0 then max (v+(n:Int)) 0 else min v (n:Int))=((sIx n d (some v):Nat):Int):=by
 show(if v<0 then max (v+(n:Int)) 0 else min v (n:Int))=(((if v<0 then(v+(n:Int)).toNat else min v.toNat n):Nat):Int)
 by_cases hv:v<0
 ·simp only[if_pos hv];omega
 ·simp only[if_neg hv];omega
def Pg(lo hi:Option Int)(n:Nat):Builtin.Slice.sliceAdjust lo hi 1 (n:Int)=(((sIx n 0 lo:Nat):Int),((sIx n n hi:Nat):Int)):=by
 have h1:¬ ((1:Int)<0):=by omega
 unfold Builtin.Slice.sliceAdjust;simp only[h1,if_false];refine Prod.ext ?_ ?_
 ·cases lo with
  |none=>rfl
  |some v=>exact Ls v n 0
 ·cases hi with
  |none=>rfl
  |some v=>exact Ls v n n
def Qc(i j:Nat):Builtin.Slice.slicePlaces (i:Int) (j:Int) 1=j-i:=by
 unfold Builtin.Slice.slicePlaces;have h1:(1:Int) > 0:=by omega
 simp only[h1,if_true,Int.ediv_one];split <;> omega
def Zf{v:Value}{o:Option Int}{Q:Option Int->Shared->Prop}(p:IsPart v o)(h:Q o s):wpAny (model prog w) A (Builtin.Slice.slicePartIndex v) Q E s:=by
 cases p with
 |none=>exact slicePart_none h
 |int i t=>exact slicePart_int h
def jy{sl:Addr}{vl vu:Value}{lo hi:Option Int}{n:Nat}{Q:Int×Int×Nat->Shared->Prop}(hs:s.heap.IsSliceOf sl vl vu .none)(pl:IsPart vl lo)(pu:IsPart vu hi)(h:Q (((sIx n 0 lo:Nat):Int),1,sIx n n hi-sIx n 0 lo) s):wpAny (model prog w) A (Builtin.Slice.sliceApplied (.ref sl) (pure (n:Int))) Q E s:=by
 obtain⟨os,hos,hcs,hds⟩:=id hs;unfold Builtin.Slice.sliceApplied Builtin.Slice.sliceFields;refine zaa (zaa (wpAny_field hos hds (x:=vl) rfl (zaa (wpAny_field hos hds (x:=vu) rfl (zaa (wpAny_field hos hds (x:=.none) rfl (zab ?_)))))));refine zaa (slicePart_none ?_);show wpAny _ _ (if ((1:Int)==0)=true then _ else _) _ _ s
 rw[if_neg (by decide)]
 refine zaa (Zf pl (zaa (Zf pu (zaa (zab ?_)))));show wpAny _ _ (match Builtin.Slice.sliceAdjust lo hi 1 (n:Int) with|(lo,hi)=>pure (lo,(1:Int),Builtin.Slice.slicePlaces lo hi 1)) _ _ s
 rw[Pg lo hi n];show wpAny _ _ (pure (((sIx n 0 lo:Nat):Int),(1:Int),Builtin.Slice.slicePlaces ((sIx n 0 lo:Nat):Int) ((sIx n n hi:Nat):Int) 1)) _ _ s;rw[Qc];exact zab h
def Jh(xs:Array Value)(i k:Nat):((List.range k).filterMap λ(m:Nat)=>xs[((i:Int)+(m:Int)*1).toNat]?).toArray=((xs.toList.drop i).take k).toArray:=by
 have e:(λ(m:Nat)=>xs[((i:Int)+(m:Int)*1).toNat]?)=λm=>xs[i+m]?:=by
  funext m
  have:((i:Int)+(m:Int)*1).toNat=i+m:=by omega
  rw[this]
 rw[e];have:=pick_run xs i k;rw[List.filterMap_map]at this;have e2:((λx=>xs[x]?) ∘ λx=>i+x)=λm=>xs[i+m]?:=rfl;rw[e2]at this;rw[this]
def getItem_tuple_cut{t sl:Addr}{items:Array Value}{vl vu:Value}{lo hi:Option Int}{Q:Value->Shared->Prop}(ht:IsTup s.heap t items)(hs:s.heap.IsSliceOf sl vl vu .none)(pl:IsPart vl lo)(pu:IsPart vu hi)(hw:¬ (sIx items.size 0 lo=0/\sIx items.size items.size hi=items.size))(h:Q (.ref s.heap.objs.size) {s with heap:=s.heap.push {cls:=.type "tuple",data:=.seq ((items.toList.drop (sIx items.size 0 lo)).take (sIx items.size items.size hi-sIx items.size 0 lo)).toArray}})(hsz:items.size<=sizeLine):wpAny (model prog w) A (getItem (.ref t) (.ref sl)) Q E s:=by
 have htake:sizeOk (.seq ((items.toList.drop (sIx items.size 0 lo)).take (sIx items.size items.size hi-sIx items.size 0 lo)).toArray):=by
  show((items.toList.drop (sIx items.size 0 lo)).take (sIx items.size items.size hi-sIx items.size 0 lo)).toArray.size<=sizeLine;rw[zap,List.length_take,List.length_drop,Array.length_toList];omega
 have hj:sIx items.size items.size hi<=items.size:=Zh _ _ (zaj _) hi;obtain⟨os,hos,hcs,hds⟩:=id hs;have hTs:s.TypeIs (.ref sl) "slice":=⟨os,hos,hcs⟩;unfold getItem
 try with_reducible refine wpAny_holding ?_
 first|refine zaa (zab ?_)|skip
 refine zaa (wpAny_sequenceKey ht.typeIs (by decide) ?_)
 refine zaa (wpAny_callSpecial?_slot (name:=Str.ofString "__getitem__") ht.typeIs PyProof.Rows.slot_tuple_getitem
  (wpAny_call_entry PyProof.Rows.slot_tuple_getitem ht.typeIs entry_tuple_getitem ?_ (args_tuple_getitem _ _)))
 show wpAny _ _ (Builtin.Tuple.tupleItemsOf (.ref t) >>= _) _ _ s;refine zaa (tupleItemsOf_ ht ?_);refine zaa (wpAny_typeOf hTs ?_);rw[if_pos (by decide)]
 refine zaa (jy hs pl pu ?_);have hno:¬ ((((sIx items.size 0 lo:Nat):Int)==0&&(1:Int)==1&&(sIx items.size items.size hi-sIx items.size 0 lo)==items.size)=true):=by
  intro q;rw[Bool.and_eq_true,Bool.and_eq_true]at q;have q1:((sIx items.size 0 lo:Nat):Int)=0:=eq_of_beq q.1.1;have q2:sIx items.size items.size hi-sIx items.size 0 lo=items.size:=eq_of_beq q.2;exact hw ⟨by omega,by omega⟩
 show wpAny _ _ (if (((sIx items.size 0 lo:Nat):Int)==0&&(1:Int)==1&&(sIx items.size items.size hi-sIx items.size 0 lo)==items.size)=true then _ else _) _ _ s
 rw[if_neg hno,Jh]
 first
  |exact zaa (m:=Builtin.Tuple.tupleExact _) (wpAny_newObj_type (zab ⟨_,rfl,zab h⟩) htake)
  |exact zaa (m:=Builtin.Tuple.tupleExact _) (wpAny_newObj_type (zaa (zab (zab ⟨_,rfl,zab h⟩))) htake)
  |exact zaa (zaa (m:=Builtin.Tuple.tupleExact _) (wpAny_newObj_type (zab (zab ⟨_,rfl,zab h⟩)) htake))
  |exact zaa (zaa (m:=Builtin.Tuple.tupleExact _) (wpAny_newObj_type (zab ⟨_,rfl,zab h⟩) htake))
end
abbrev TO:=St->Hp->(Option Int->Hp->Prop)->Prop
def PO(X:Cx)(e:Option Expr)(t:TO):Prop :=
 ∀(pn:List (Addr×Obj))(s:Shared)(σ:St)(H:Hp)(Q:Option Int->Hp->Prop),Inv X pn σ H s->t σ H Q ->
  wpAny (model X.prog X.w) X.A (evalPart e X.env) (λu s'=>∃o H',Inv X pn σ H' s'/\IsPart u o/\Q o H') X.xe s
def Em:TO:=λ_ H Q=>Q none H
def z3f(t:TE):TO:=λσ H Q=>t σ H λx H1=>∃i,x=.int i/\Q (some i) H1
section
variable{e:Expr}{te:TE}{lo hi:Option Expr}{tl th:TO}{p2:Pos}
def Dn:PO X none Em:=by
 intro pn s σ H Q I h;rw[evalPart_none];exact zab ⟨none,H,I,.none,h⟩
def Dm(h:PE X e te):PO X (some e) (z3f te):=by
 intro pn s σ H Q I hw;rw[evalPart_some];refine thn (h pn s σ H _ I hw) λu s1 ⟨x,H1,I1,r1,q1⟩=>?_;obtain⟨i,rfl,q⟩:=q1;obtain⟨t,rfl⟩:=r1;exact⟨some i,H1,I1,.int i t,q⟩
def SlR(X:Cx)(r:V->Option Int->Option Int->Hp->VK->Prop):Prop :=
 ∀(pn:List (Addr×Obj))(s:Shared)(σ:St)(H:Hp)(x:V)(v vl vu:Value)(lo hi:Option Int)(sl:Addr)(Q:VK),Inv X pn σ H s->RelV x v->s.heap.IsSliceOf sl vl vu .none->IsPart vl lo->IsPart vu hi->r x lo hi H Q ->
  ∃T id,typeLookup (.type T) "__getitem__" = pure (some (.builtin id))/\s.TypeIs v T/\wpAny (model X.prog X.w) X.A (getItem v (.ref sl)) (EP X pn σ Q) X.xe s
def SlR.or{r r':V->Option Int->Option Int->Hp->VK->Prop}(h:SlR X r)(h':SlR X r'):SlR X (λx lo hi H Q=>r x lo hi H Q\/r' x lo hi H Q):=by
 intro pn s σ H x v vl vu lo hi sl Q I rx hs pl pu q;rcases q with q|q
 ·exact h pn s σ H x v vl vu lo hi sl Q I rx hs pl pu q
 ·exact h' pn s σ H x v vl vu lo hi sl Q I rx hs pl pu q
def tSl(r:V->Option Int->Option Int->Hp->VK->Prop)(te:TE)(tl th:TO):TE:=λσ H Q=>te σ H λx H1=>tl σ H1 λl H2=>th σ H2 λu H3=>r x l u H3 Q
def Su{r:V->Option Int->Option Int->Hp->VK->Prop}(hr:SlR X r)(he:PE X e te)(hl:PO X lo tl)(hu:PO X hi th):PE X (.Subscript e (.Slice lo hi none p2) pos) (tSl r te tl th):=by
 intro pn s σ H Q I h;refine Subscript_ (thn (he pn s σ H _ I h) λv s1 ⟨x,H1,I1,r1,q1⟩=>?_);refine wpAny_Slice (thn (hl pn s1 σ H1 _ I1 q1) λvl s2 ⟨l,H2,I2,pl,q2⟩=>thn (hu pn s2 σ H2 _ I2 q2) λvu s3 ⟨u,H3,I3,pu,q3⟩=>?_);rw[evalPart_none];refine zab ?_;have I4:Inv X pn σ H3 {s3 with heap:=s3.heap.push {cls:=.type "slice",data:=.fields #[vl,vu,.none]}}:=I3.kept (t':=s3.toks) λb ob q=>zac _ q;obtain⟨T,id,hT,ht,hg⟩:=hr pn {s3 with heap:=s3.heap.push {cls:=.type "slice",data:=.fields #[vl,vu,.none]}} σ H3 x v vl vu l u s3.heap.objs.size Q I4 r1 (Heap.IsSliceOf.new ..) pl pu q3;show wpAny (model X.prog X.w) X.A (subscriptTail e (.Slice lo hi none p2) v (.ref s3.heap.objs.size)) (EP X pn σ Q) X.xe {s3 with heap:=s3.heap.push {cls:=.type "slice",data:=.fields #[vl,vu,.none]}};exact tail_any (ops:=[.ref s3.heap.objs.size,v]) ht hT hg (by with_unfolding_all rfl)
def cutV(xs:List V)(lo hi:Option Int):List V:=(xs.drop (ZZ.sIx xs.length 0 lo)).take (ZZ.sIx xs.length xs.length hi-ZZ.sIx xs.length 0 lo)
def cv(xs:List V)(lo hi:Option Int):(cutV xs lo hi).length<=xs.length:=by
 unfold cutV;rw[List.length_take,List.length_drop];omega
def rSlT(K:W.Frag):V->Option Int->Option Int->Hp->VK->Prop:=λx lo hi H Q=>∃a xs,x=.ref a/\SqT K H a xs /\
 ¬ (ZZ.sIx xs.length 0 lo=0/\ZZ.sIx xs.length xs.length hi=xs.length)/\∀p,H p=none->Q (.ref p) (upd H p (.tup (cutV xs lo hi)))
def Ah:SlR X (rSlT X.K):=by
 intro pn s σ H x v vl vu lo hi sl Q I rx hs pl pu h;obtain⟨a,xs,rfl,hx,hw,q⟩:=h;cases rx;obtain⟨its,r,ht,hz⟩:=I.tuple hx;have hlen:its.toArray.size=xs.length:=by rw[zap];exact r.length.symm
 refine⟨"tuple",_,PyProof.Rows.slot_tuple_getitem.lookup,ht.typeIs,?_⟩;refine ZZ.getItem_tuple_cut ht hs pl pu (by rw[hlen];exact hw) ?_ (by rw[hlen];exact hz)
 rw[hlen];refine⟨.ref s.heap.objs.size,_,I.laid (t':=s.toks) (o:=.tup (cutV xs lo hi)) (λb ob q=>zac _ q) (zaj _) ?_,rfl,q _ (I.hok.fresh (zaj _))⟩;exact⟨zak (cv xs lo hi) hz,_,(r.drop (ZZ.sIx xs.length 0 lo)).take (ZZ.sIx xs.length xs.length hi-ZZ.sIx xs.length 0 lo),IsTup.new _ _,_,zad _ rfl,rfl⟩
def Ax(K:W.Frag):R2:=λx y H Q=>∃a b xs ys,x=.ref a/\y=.ref b/\SqT K H a xs/\SqT K H b ys/\xs≠[]/\xs.length+ys.length<=sizeLine /\
 (ys=[]->Q (.ref a) H)/\(ys≠[]->∀p,H p=none->Q (.ref p) (upd H p (.tup (xs++ys))))
def Vals.nil_iff{xs:List V}{us:List Value}(r:Vals xs us):us=[] ↔ xs=[]:=by
 cases r with
 |nil=>simp
 |cons _ _=>simp
def Nm:OpR X (binaryOp .Add) (Ax X.K):=by
 intro pn s σ H x y v u Q I rx ry h;obtain⟨a,b,xs,ys,rfl,rfl,ha,hb,hx,hz,q1,q2⟩:=h;cases rx;cases ry;obtain⟨its,r1,p1,_⟩:=I.tuple ha;obtain⟨its2,r2,p2,_⟩:=I.tuple hb;refine ZZ.cat_tup p1 p2 (λz=>hx (r1.nil_iff.mp z)) (λz=>⟨.ref a,H,I,rfl,q1 (r2.nil_iff.mp z)⟩) (λz=>?_) (by rw[<- r1.length,<- r2.length];exact hz)
 refine⟨.ref s.heap.objs.size,_,I.laid (t':=s.toks) (o:=.tup (xs++ys)) (λb ob q=>zac _ q) (zaj _) ?_,rfl,q2 (λw=>z (r2.nil_iff.mpr w)) _ (I.hok.fresh (zaj _))⟩;exact⟨by rw[zLa];exact hz,_,r1.append r2,IsTup.new _ _,_,zad _ rfl,rfl⟩
end
def ixN(n:Nat)(i:Int):Option Nat:=if 0<=i then(if i<n then some i.toNat else none) else if -(n:Int)<=i then some (i+n).toNat else none
def atI{α:Type}(xs:List α)(i:Int):Option α:=(ixN xs.length i).bind λj=>xs[j]?
def Mm{n:Nat}{i:Int}{j:Nat}(h:ixN n i=some j):seqIndex? i n=some j/\j<n/\-(n:Int)<=i/\i<n:=by
 unfold ixN at h;by_cases h0:0<=i
 ·rw[if_pos h0]at h;by_cases h1:i<n
  ·rw[if_pos h1]at h;have e:i.toNat=j:=Option.some.inj h;exact⟨by rw[seqIndex_of h0 h1,e],by omega,by omega,h1⟩
  ·rw[if_neg h1]at h;cases h
 ·rw[if_neg h0]at h;by_cases h1:-(n:Int)<=i
  ·rw[if_pos h1]at h;have e:(i+n).toNat=j:=Option.some.inj h;exact⟨by rw[seqIndex_neg (by omega) h1,e],by omega,h1,by omega⟩
  ·rw[if_neg h1]at h;cases h
def S1{α:Type}{xs:List α}{i:Int}{v:α}(h:atI xs i=some v):∃j,seqIndex? i xs.length=some j/\xs[j]?=some v/\j<xs.length/\-(xs.length:Int)<=i/\i<xs.length:=by
 unfold atI at h;cases e:ixN xs.length i with
 |none=>rw[e]at h;cases h
 |some j =>
  rw[e]at h;obtain⟨h1,h2,h3,h4⟩:=Mm e;exact⟨j,h1,h,h2,h3,h4⟩
def xh{α:Type}{xs:List α}{j:Nat}{v:α}(h:xs[j]?=some v):atI xs (j:Int)=some v:=by
 have hj:j<xs.length:=(zag.mp h).1;have e:ixN xs.length (j:Int)=some j:=by
  unfold ixN;rw[if_pos (by omega),if_pos (by omega)];simp
 unfold atI;rw[e];exact h
def jm(b:Expr):Prop:=∀o i,subscripted b false o i=operate [o,i] (getItem o i)
def IxR(X:Cx)(r:R2):Prop :=
 ∀(value slice:Expr)(pn:List (Addr×Obj))(s:Shared)(σ:St)(H:Hp)(x y:V)(v u:Value)(Q:VK),Inv X pn σ H s->RelV x v->RelV y u->r x y H Q ->
  subscripted slice false v u=operate [v,u] (getItem v u)->wpAny (model X.prog X.w) X.A (subscriptTail value slice v u) (EP X pn σ Q) X.xe s
def MtR(X:Cx)(id:String)(r:V->List V->Hp->VK->Prop):Prop :=
 ∀(pn:List (Addr×Obj))(s:Shared)(σ:St)(H:Hp)(x:V)(xs:List V)(v:Value)(us:List Value)(Q:VK),Inv X pn σ H s->RelV x v->Vals xs us->r x xs H Q ->
  wpAny (model X.prog X.w) X.A (call (.builtin id) (v::us)) (EP X pn σ Q) X.xe s
variable{a b:Expr}
def IxR.or{r r':R2}(h:IxR X r)(h':IxR X r'):IxR X (λx y H Q=>r x y H Q\/r' x y H Q):=by
 intro value slice pn s σ H x y v u Q I rx ry q hs;rcases q with q|q
 ·exact h value slice pn s σ H x y v u Q I rx ry q hs
 ·exact h' value slice pn s σ H x y v u Q I rx ry q hs
def Wj{r:R2}(hr:IxR X r)(ha:PE X a ta)(hb:PE X b tb)(hs:jm b):PE X (.Subscript a b pos) (tOp r ta tb):=by
 intro pn s σ H Q I h;exact Subscript_ (binT ha hb I h λv u s2 x y H2 I2 rx ry q=>hr a b pn s2 σ H2 x y v u Q I2 rx ry q (hs _ _))
def rIxL(K:W.Frag):R2:=λx y H Q=>∃p xs i v,x=.ref p/\y=.int i/\SqL K H p xs/\atI xs i=some v/\Q v H
def rIxT(K:W.Frag):R2:=λx y H Q=>∃p xs i v,x=.ref p/\y=.int i/\SqT K H p xs/\atI xs i=some v/\Q v H
def rIxS:R2:=λx y H Q=>∃z i c,x=.str z/\y=.int i/\z.length<=sizeLine/\atI z.cps.toList i=some c/\Q (.str ⟨#[c]⟩) H
def c6:IxR X (rIxL X.K):=by
 intro value slice pn s σ H x y v u Q I rx ry h hs;obtain⟨p,xs,i,z,rfl,rfl,hq,he,q⟩:=h;cases rx;obtain⟨t,rfl⟩:=ry;obtain⟨its,r,pl,hz⟩:=I.list hq;obtain⟨j,h1,h2,h3,h4,h5⟩:=S1 he;obtain⟨w,ew,rw'⟩:=r.get h2;have hl:=r.length;have hn:=dr;have fin:EP X pn σ Q w s:=⟨z,H,I,rw',q⟩;by_cases h0:0<=i
 ·have hj:i.toNat=j:=by
   rw[seqIndex_of h0 h5]at h1;exact Option.some.inj h1
  exact item_listR pl.isList h0 (by omega) (by rw[hj];simpa using ew) fin hs
 ·have hj:(i+(its.toArray.size:Int)).toNat=j:=by
   rw[seqIndex_neg (by omega) h4]at h1
   rw[zap,<- hl];exact Option.some.inj h1
  exact subscriptTail_builtinR (x:=w) pl.isList.typeIs slot_list_getitem.lookup
   (wpAny_getItem_list_neg (Q:=λr s'=>r=w/\EP X pn σ Q r s') pl.isList (by omega) (by rw[zap] <;> omega) (by omega) (by rw[hj];simpa using ew) ⟨rfl,fin⟩) hs
def z1q:IxR X (rIxT X.K):=by
 intro value slice pn s σ H x y v u Q I rx ry h hs;obtain⟨p,xs,i,z,rfl,rfl,hq,he,q⟩:=h;cases rx;obtain⟨t,rfl⟩:=ry;obtain⟨its,r,pl,hz⟩:=I.tuple hq;obtain⟨j,h1,h2,h3,h4,h5⟩:=S1 he;obtain⟨w,ew,rw'⟩:=r.get h2;have hl:=r.length;have hn:=dr;have fin:EP X pn σ Q w s:=⟨z,H,I,rw',q⟩;exact subscriptTail_builtinR (x:=w) pl.typeIs slot_tuple_getitem.lookup
  (getItem_tuple (j:=j) (Q:=λr s'=>r=w/\EP X pn σ Q r s') pl (by omega) (by omega) (by rw[zap,<- hl];exact h1) (by simpa using ew) ⟨rfl,fin⟩) hs
def z1r:IxR X rIxS:=by
 intro value slice pn s σ H x y v u Q I rx ry h hs;obtain⟨z,i,c,rfl,rfl,hz,he,q⟩:=h;obtain⟨t,rfl⟩:=rx;obtain⟨t',rfl⟩:=ry;obtain⟨j,h1,h2,h3,h4,h5⟩:=S1 he;have hl:z.cps.toList.length=z.length:=by simp[Str.length]
 rw[hl]at h1 h4 h5;have hn:=dr;exact tail_any (typeIs_str s z t) slot_str_getitem.lookup (getItem_str (c:=c) (by
  have e1:decide (i < -(2 ^ 63:Int))=false:=decide_eq_false (by omega)
  have e2:decide (i ≥ 2 ^ 63)=false:=decide_eq_false (by omega)
  rw[e1,e2,Bool.or_false]) (by rw[h1];simpa using h2) ⟨.str ⟨#[c]⟩,H,I.tok _,⟨_,rfl⟩,q⟩) hs
def rIx(K:W.Frag):R2:=λx y H Q=>rIxL K x y H Q\/rIxT K x y H Q\/rIxS x y H Q
def Ml:IxR X (rIx X.K):=c6.or (z1q.or z1r)
def Qn(its:List Value)(n j:Nat)(u:Value):Obj.mapSeq (·.setIfInBounds j u) {cls:=.type "list",data:=.seq its.toArray n}={cls:=.type "list",data:=.seq (its.set j u).toArray n}:=by
 simp[Obj.mapSeq]
def Inv.lst{pn:List (Addr×Obj)}{σ:St}{H:Hp}{s:Shared}{p:Addr}{xs:List V}(I:Inv X pn σ H s)(h:H p=some (.lst xs)) :
  ∃(its:List Value)(n:Nat),Vals xs its/\s.heap.get? p=some {cls:=.type "list",data:=.seq its.toArray n}/\xs.length<=sizeLine:=by
 obtain⟨z,its,n,r,e⟩:=I.hok p _ h;exact⟨its,n,r,e,z⟩
def Inv.lstUpd{pn:List (Addr×Obj)}{σ:St}{H:Hp}{s:Shared}{p:Addr}{xs ys:List V}{its its':List Value}{n n':Nat}{f:Obj->Obj}(I:Inv X pn σ H s)(h:H p=some (.lst xs))(ho:s.heap.get? p=some {cls:=.type "list",data:=.seq its.toArray n})(hf:f {cls:=.type "list",data:=.seq its.toArray n}={cls:=.type "list",data:=.seq its'.toArray n'})(r:Vals ys its')(hz:ys.length<=sizeLine)(t:Nat) :
  Inv X pn σ (upd H p (.lst ys)) {s with heap:=s.heap.update p f,toks:=t}:=by
 have e:(s.heap.update p f).get? p=some {cls:=.type "list",data:=.seq its'.toArray n'}:=by
  rw[Heap.get?_update_self f ho (by rw[hf] <;> rfl),hf]
 refine I.write (x:=p) (e:=p) (by rw[h];trivial) (.inl rfl) (λb u hb q=>(Heap.get?_update_other _ _ (Ne.symm hb)).trans q) ⟨_,e⟩ ?_
 exact⟨hz,its',n',r,e⟩
def z3k:V->V->V->Hp->(Hp->Prop)->Prop:=λo i v H Q=>∃p xs k j,o=.ref p/\i=.int k/\H p=some (.lst xs)/\ixN xs.length k=some j/\Q (upd H p (.lst (xs.set j v)))
def Kz:PSet X z3k:=by
 intro pn s σ H o i v ov iv u Q I ro ri rv h;obtain⟨p,xs,k,j,rfl,rfl,hp,hj,q⟩:=h;cases ro;obtain⟨t,rfl⟩:=ri;obtain⟨its,n,r,ho,hz⟩:=I.lst hp;obtain⟨h1,h2,h3,h4⟩:=Mm hj;have hl:=r.length;have hn:=dr;have I':Inv X pn σ (upd H p (.lst (xs.set j v))) {s with heap:=s.heap.update p (Obj.mapSeq (·.setIfInBounds j u))} :=
  I.lstUpd hp ho (Qn its n j u) (r.set rv j) (by rw[List.length_set];exact hz) s.toks
 by_cases h0:0<=k
 ·have hk:k.toNat=j:=by
   rw[seqIndex_of h0 h4]at h1;exact Option.some.inj h1
  exact W.ki_setAt ho h0 (by omega) (by rw[zap,<- hl];exact h4) (by rw[hk];exact⟨_,I',q⟩)
 ·have hk:(k+(its.toArray.size:Int)).toNat=j:=by
   rw[seqIndex_neg (by omega) h3]at h1
   rw[zap,<- hl];exact Option.some.inj h1
  exact W.ki_setBack ho (by omega) (by rw[zap,<- hl];exact h3) (by omega) (by rw[hk];exact⟨_,I',q⟩)
def We(lo hi:Option Int)(n:Nat):(sliceBounds lo hi none n).1=((ZZ.sIx n 0 lo:Nat):Int)/\(sliceBounds lo hi none n).2.1=((ZZ.sIx n n hi:Nat):Int)/\(sliceBounds lo hi none n).2.2=1:=by
 refine⟨?_,?_,rfl⟩
 ·cases lo with
  |none=>simp[sliceBounds,ZZ.sIx]
  |some i =>
   simp only[sliceBounds,ZZ.sIx,Option.getD_none,show(1:Int) > 0 by decide,if_true]
   by_cases h:i<0
   ·simp only[h,if_true] <;> omega
   ·simp only[h,if_false] <;> omega
 ·cases hi with
  |none=>simp[sliceBounds,ZZ.sIx]
  |some i =>
   simp only[sliceBounds,ZZ.sIx,Option.getD_none,show(1:Int) > 0 by decide,if_true]
   by_cases h:i<0
   ·simp only[h,if_true] <;> omega
   ·simp only[h,if_false] <;> omega
def Yg(its:List Value)(lo hi:Option Int):slicePick its.toArray lo hi none=((its.drop (ZZ.sIx its.length 0 lo)).take (ZZ.sIx its.length its.length hi-ZZ.sIx its.length 0 lo)).toArray:=by
 obtain⟨h1,h2,h3⟩:=We lo hi its.toArray.size;unfold slicePick;rw[h1,h2,h3];simp only[sliceRange_one,pick_run,zap] <;> rfl
def rSlL(K:W.Frag):V->Option Int->Option Int->Hp->VK->Prop:=λx lo hi H Q=>∃a xs,x=.ref a/\SqL K H a xs/\∀p,H p=none->Q (.ref p) (upd H p (.lst (cutV xs lo hi)))
def Et:SlR X (rSlL X.K):=by
 intro pn s σ H x v vl vu lo hi sl Q I rx hs pl pu h;obtain⟨a,xs,rfl,hx,q⟩:=h;cases rx;obtain⟨its,r,ht,hz⟩:=I.list hx;have hlen:=r.length;refine⟨"list",_,slot_list_getitem.lookup,ht.isList.typeIs,?_⟩;refine wpAny_getItem_list_slice ht.isList hs pl pu .none (by simp) ?_ (by rw[zap] <;> omega)
 rw[Yg,<- hlen];refine⟨.ref s.heap.objs.size,_,I.laid (t':=s.toks) (o:=.lst (cutV xs lo hi)) (λb ob q=>zac _ q) (zaj _) ?_,rfl,q _ (I.hok.fresh (zaj _))⟩;exact⟨zak (cv xs lo hi) hz,_,0,(r.drop (ZZ.sIx xs.length 0 lo)).take (ZZ.sIx xs.length xs.length hi-ZZ.sIx xs.length 0 lo),zad _ rfl⟩
def bx:V->Bool
 |.non=>true
 |.bl _=>true
 |.int _=>true
 |.str _=>true
 |_=>false
def eqV:V->V->Bool
 |.non,.non=>true
 |.bl a,.bl b=>a==b
 |.bl a,.int b=>(if a then 1 else 0)==b
 |.int a,.bl b=>a==(if b then 1 else 0)
 |.int a,.int b=>a==b
 |.str a,.str b=>a==b
 |_,_=>false
def z2k{A:Around}{s:Shared}{y x:V}{u v:Value}(ry:RelV y u)(rx:RelV x v)(fy:bx y=true)(fx:bx x=true):SeqAt.EqAt A s u v (eqV y x):=by
 cases y with
 |non =>
  cases ry
  cases x with
  |non=>cases rx;exact SeqAt.EqAt.same _
  |bl b=>cases rx;exact SeqAt.EqAt.none_bool b
  |int b=>obtain⟨t,rfl⟩:=rx;exact SeqAt.EqAt.none_int b t
  |str b=>obtain⟨t,rfl⟩:=rx;exact SeqAt.EqAt.none_str b t
  |_=>exact absurd (show false=true from fx) Bool.false_ne_true
 |bl a =>
  cases ry
  cases x with
  |non=>cases rx;exact SeqAt.EqAt.bool_none a
  |bl b=>cases rx;exact SeqAt.EqAt.bool_bool a b
  |int b=>obtain⟨t,rfl⟩:=rx;exact SeqAt.EqAt.bool_int a b t
  |str b=>obtain⟨t,rfl⟩:=rx;exact SeqAt.EqAt.bool_str a b t
  |_=>exact absurd (show false=true from fx) Bool.false_ne_true
 |int a =>
  obtain⟨t',rfl⟩:=ry;cases x with
  |non=>cases rx;exact SeqAt.EqAt.int_none a t'
  |bl b=>cases rx;exact SeqAt.EqAt.int_bool a t' b
  |int b=>obtain⟨t,rfl⟩:=rx;exact SeqAt.EqAt.int_int a t' b t
  |str b=>obtain⟨t,rfl⟩:=rx;exact SeqAt.EqAt.int_str a t' b t
  |_=>exact absurd (show false=true from fx) Bool.false_ne_true
 |str a =>
  obtain⟨t',rfl⟩:=ry;cases x with
  |non=>cases rx;exact SeqAt.EqAt.str_none a t'
  |bl b=>cases rx;exact SeqAt.EqAt.str_bool a t' b
  |int b=>obtain⟨t,rfl⟩:=rx;exact SeqAt.EqAt.str_int a t' b t
  |str b=>obtain⟨t,rfl⟩:=rx;exact SeqAt.EqAt.str_str a t' b t
  |_=>exact absurd (show false=true from fx) Bool.false_ne_true
 |_=>exact absurd (show false=true from fy) Bool.false_ne_true
def eqU(x:V)(u:Value):Bool:=match u with
 |.none=>eqV .non x
 |.bool b=>eqV (.bl b) x
 |.int i _=>eqV (.int i) x
 |.str z _=>eqV (.str z) x
 |_=>false
def E1{x y:V}{u:Value}(r:RelV y u)(f:bx y=true):eqU x u=eqV y x:=by
 cases y with
 |non=>cases r;rfl
 |bl b=>cases r;rfl
 |int i=>obtain⟨t,rfl⟩:=r;rfl
 |str z=>obtain⟨t,rfl⟩:=r;rfl
 |_=>exact absurd (show false=true from f) Bool.false_ne_true
def bm{x:V}:∀{xs:List V}{us:List Value},Vals xs us->xs.all bx=true->us.any (eqU x)=xs.any λy=>eqV y x
 |_,_,.nil,_=>rfl
 |y::xs,u::us,.cons r t,f=>by
  rw[List.all_cons,Bool.and_eq_true]at f;rw[List.any_cons,List.any_cons,E1 r f.1,bm t f.2]
def qv{A:Around}{s:Shared}{x:V}{v:Value}(rx:RelV x v)(fx:bx x=true):∀{xs:List V}{us:List Value},Vals xs us->xs.all bx=true->∀u∈us,SeqAt.EqAt A s u v (eqU x u)
 |_,_,.nil,_=>λu hu=>by cases hu
 |y::xs,u::us,.cons r t,f=>λu' hu=>by
  rw[List.all_cons,Bool.and_eq_true]at f;rcases zam.mp hu with rfl|hu
  ·rw[E1 r f.1];exact z2k r rx f.1 fx
  ·exact qv rx fx t f.2 u' hu
def inV(x:V)(xs:List V):Bool:=xs.any λy=>eqV y x
def rIn(K:W.Frag)(neg:Bool):R2:=λx y H Q=>∃p xs,y=.ref p/\(SqL K H p xs\/SqT K H p xs)/\bx x=true/\xs.all bx=true/\Q (.bl (if neg then !inV x xs else inV x xs)) H
def qt:OpR X (compareOp .In) (rIn X.K false):=by
 intro pn s σ H x y v u Q I rx ry h;obtain⟨p,xs,rfl,hq,fx,fs,q⟩:=h;cases ry;rcases hq with hq|hq
 ·obtain⟨its,r,pl,hz⟩:=I.list hq;refine SeqAt.in_listAt (eqU x) pl.isList (λw hw=>qv rx fx r fs w (by simpa using hw)) ⟨.bl _,H,I,rfl,?_⟩
  rw[show its.toArray.any (eqU x)=its.any (eqU x) by simp,bm r fs]
  exact q
 ·obtain⟨its,r,pl,hz⟩:=I.tuple hq;refine SeqAt.in_tupleAt (eqU x) pl (λw hw=>qv rx fx r fs w (by simpa using hw)) ⟨.bl _,H,I,rfl,?_⟩
  rw[show its.toArray.any (eqU x)=its.any (eqU x) by simp,bm r fs]
  exact q
def tu:OpR X (compareOp .NotIn) (rIn X.K true):=by
 intro pn s σ H x y v u Q I rx ry h;obtain⟨p,xs,rfl,hq,fx,fs,q⟩:=h;cases ry;rcases hq with hq|hq
 ·obtain⟨its,r,pl,hz⟩:=I.list hq;refine SeqAt.notIn_listAt (eqU x) pl.isList (λw hw=>qv rx fx r fs w (by simpa using hw)) ⟨.bl _,H,I,rfl,?_⟩
  rw[show its.toArray.any (eqU x)=its.any (eqU x) by simp,bm r fs]
  exact q
 ·obtain⟨its,r,pl,hz⟩:=I.tuple hq;refine SeqAt.notIn_tupleAt (eqU x) pl (λw hw=>qv rx fx r fs w (by simpa using hw)) ⟨.bl _,H,I,rfl,?_⟩
  rw[show its.toArray.any (eqU x)=its.any (eqU x) by simp,bm r fs]
  exact q
def jr:OpR X (compareOp .NotIn) (λx y H Q=>∃i j,x=.str i/\y=.str j/\Q (.bl (!(!(Builtin.Str.occurrences j i 0 j.length 1).isEmpty))) H):=by
 intro pn s σ H x y v u Q I rx ry h;obtain⟨i,j,rfl,rfl,q⟩:=h;obtain⟨t,rfl⟩:=rx;obtain⟨t',rfl⟩:=ry;exact notIn_str ⟨.bl _,H,I,rfl,q⟩
def u9:vt X (.builtin "len") (λxs H Q=>∃p ys,xs=[.ref p]/\(SqL X.K H p ys\/SqT X.K H p ys)/\Q (.int ys.length) H):=by
 intro pn s σ H xs us Q I r h;obtain⟨p,ys,rfl,hq,q⟩:=h;obtain⟨u,rfl,rx⟩:=uy r;cases rx;have hn:=dr;rcases hq with hq|hq
 ·obtain⟨its,r',pl,hz⟩:=I.list hq;have hlen:=r'.length;exact Calls.call_len_list pl.isList (by simp only[zap] <;> omega) ⟨.int ys.length,H,I.tok _,⟨s.toks+1,by rw[zap,hlen]⟩,q⟩
 ·obtain⟨its,r',pl,hz⟩:=I.tuple hq;have hlen:=r'.length;exact len_tuple pl (by simp only[zap] <;> omega) ⟨.int ys.length,H,I.tok _,⟨s.toks+1,by rw[zap,hlen]⟩,q⟩
def Vx:vt X (.builtin "len") (λxs H Q=>∃z,xs=[.str z]/\z.length<=sizeLine/\Q (.int z.length) H):=by
 intro pn s σ H xs us Q I r h;obtain⟨z,rfl,hz,q⟩:=h;obtain⟨u,rfl,t,rfl⟩:=uy r;have hn:=dr;exact len_str (by omega) ⟨.int z.length,H,I.tok _,⟨_,rfl⟩,q⟩
def vt.or{f:Value}{r r':List V->Hp->VK->Prop}(h:vt X f r)(h':vt X f r'):vt X f (λxs H Q=>r xs H Q\/r' xs H Q):=by
 intro pn s σ H xs us Q I rs q;rcases q with q|q
 ·exact h pn s σ H xs us Q I rs q
 ·exact h' pn s σ H xs us Q I rs q
def Vw:vt X (.type "list") (λxs H Q=>∃p ys,xs=[.ref p]/\(SqL X.K H p ys\/SqT X.K H p ys)/\∀l,H l=none->Q (.ref l) (upd H l (.lst ys))):=by
 intro pn s σ H xs us Q I r h;obtain⟨p,ys,rfl,hq,q⟩:=h;obtain⟨u,rfl,rx⟩:=uy r;cases rx;have fin:∀(its:List Value),Vals ys its->ys.length<=sizeLine->∀(h':Heap)(c':Nat),(∀b o',s.heap.get? b=some o'->h'.get? b=some o') ->
   h'.get? s.heap.objs.size=some {cls:=.type "list",dict:=none,data:=.seq its.toArray c',slots:=#[]}->EP X pn σ Q (.ref s.heap.objs.size) {s with heap:=h'}:=λits r' hz h' c' kp e =>
  ⟨.ref s.heap.objs.size,_,I.laid (t':=s.toks) kp (zaj _) (show xy X.prog X.w _ h' _ (.lst ys) from⟨hz,its,c',r',e⟩),rfl,q _ (I.hok.fresh (zaj _))⟩
 rcases hq with hq|hq
 ·obtain⟨its,r',pl,hz⟩:=I.list hq;have hlen:=r'.length;obtain⟨o,ho,hc,n,hd⟩:=pl.isList;exact call_list_seq p (.inl rfl) ho hc hd (λh' c' kp e=>fin its r' hz h' c' kp e) (by simp only[zap] <;> omega)
 ·obtain⟨its,r',pl,hz⟩:=I.tuple hq;have hlen:=r'.length;obtain⟨o,ho,hc,n,hd⟩:=pl;exact call_list_seq p (.inr rfl) ho hc hd (λh' c' kp e=>fin its r' hz h' c' kp e) (by simp only[zap] <;> omega)
def Xv:vt X (.type "tuple") (λxs H Q=>∃p ys,xs=[.ref p]/\((SqL X.K H p ys/\∀l,H l=none->Q (.ref l) (upd H l (.tup ys)))\/(SqT X.K H p ys/\Q (.ref p) H))):=by
 intro pn s σ H xs us Q I r h;obtain⟨p,ys,rfl,h⟩:=h;obtain⟨u,rfl,rx⟩:=uy r;cases rx;rcases h with⟨hq,q⟩|⟨hq,q⟩
 ·obtain⟨its,r',pl,hz⟩:=I.list hq;have hlen:=r'.length;refine call_tuple_list pl.isList (λh' kp=>?_) (by simp only[zap] <;> omega)
  have I1:Inv X pn σ H {s with heap:=h'}:=I.kept (t':=s.toks) kp;have I2:Inv X pn σ (upd H h'.objs.size (.tup ys)) {s with heap:=h'.push {cls:=.type "tuple",data:=.seq its.toArray}} :=
   I1.laid (t':=s.toks) (λb o e=>zac _ e) (zaj _) (show xy X.prog X.w _ _ _ (.tup ys) from⟨hz,its,r',IsTup.new _ _,_,zad _ rfl,rfl⟩)
  exact⟨.ref h'.objs.size,_,I2,rfl,q _ (I1.hok.fresh (zaj _))⟩
 ·obtain⟨its,r',pl,hz⟩:=I.tuple hq;exact call_tuple_same pl ⟨.ref p,H,I,rfl,q⟩
def tyV(K:W.Frag)(T:String)(x:V)(H:Hp):Prop:=match x with
 |.str _=>T = "str"
 |.int _=>T = "int"
 |.ref p=>(T = "list"/\∃xs,SqL K H p xs)\/(T = "tuple"/\∃o,K.lookup p=some o/\o.cls=.type "tuple"/\o.dict=none) \/
   (T = "dict"/\((∃kvs,H p=some (.dK kvs))\/∃kvs,H p=some (.dT kvs)))\/(T = "set"/\∃S n,H p=some (.set S n))
 |_=>False
def Px{pn:List (Addr×Obj)}{σ:St}{H:Hp}{s:Shared}{T:String}{x:V}{v:Value}(I:Inv X pn σ H s)(r:RelV x v)(ty:tyV X.K T x H) :
  s.TypeIs v T/\∀a,v=.ref a->∃ob,s.heap.get? a=some ob/\ob.dict=none:=by
 cases x with
 |str z =>
  obtain⟨t,rfl⟩:=r;cases (show T = "str" from ty);exact⟨typeIs_str s z t,λ_ e=>nomatch e⟩
 |int i =>
  obtain⟨t,rfl⟩:=r;cases (show T = "int" from ty);exact⟨typeIs_int s i t,λ_ e=>nomatch e⟩
 |ref p =>
  cases r
  rcases ty with⟨rfl,xs,hq⟩|⟨rfl,o,hk,hc,hd⟩|⟨rfl,hk⟩|⟨rfl,S,n,hk⟩
  ·obtain⟨its,_,pl,_⟩:=I.list hq;refine⟨pl.isList.typeIs,λa e=>?_⟩;cases e;obtain⟨o,n,e,c,hd,_⟩:=pl;exact⟨o,e,hd⟩
  ·refine⟨⟨o,I.kIn p o hk,hc⟩,λa e=>?_⟩;cases e;exact⟨o,I.kIn _ o hk,hd⟩
  ·have z:∃o,s.heap.get? p=some o/\o.ExactDict:=by
    rcases hk with⟨kvs,hk⟩|⟨kvs,hk⟩
    ·obtain⟨_,_,_,_,o,_,_,e,ex,_⟩:=I.hok p _ hk;exact⟨o,e,ex⟩
    ·obtain⟨_,_,_,_,o,_,_,e,ex,_⟩:=I.hok p _ hk;exact⟨o,e,ex⟩
   obtain⟨o,e,ex⟩:=z;refine⟨⟨o,e,ex.1⟩,λa e2=>?_⟩;cases e2;exact⟨o,e,ex.2.1⟩
  ·obtain⟨o,_,_,_,e,ex,_⟩:=I.hok p _ hk;refine⟨⟨o,e,ex.1⟩,λa e2=>?_⟩;cases e2;exact⟨o,e,ex.2.1⟩
 |_=>exact False.elim ty
def tBM0(K:W.Frag)(T:String)(r:V->List V->Hp->VK->Prop)(to:TE):TE:=λσ H Q=>to σ H λx H1=>tyV K T x H1/\r x [] H1 Q
def tBM(K:W.Frag)(T:String)(r:V->List V->Hp->VK->Prop)(to:TE)(t:TA):TE:=λσ H Q=>to σ H λx H1=>tyV K T x H1/\t σ H1 λxs H2=>r x xs H2 Q
section
variable{o e:Expr}{es:List Expr}{to:TE}{t:TA}{name:Str}{apos cpos:Pos}{T id:String}{r:V->List V->Hp->VK->Prop}
def Fd(pa:PlainAttrs T)(slot:Slot T name id)(hty:typeOf (.builtin id)=pure (.type "method_descriptor"))(hm:MtR X id r)(ho:PE X o to)(hbase:attributeBase o name X.env (eval o X.env)=eval o X.env:=by rfl)(hline:(apos.endLine==cpos.line)=true:=by rfl):PE X (.Call (.Attribute o name apos) [] [] cpos) (tBM0 X.K T r to):=by
 intro pn s σ H Q I h;refine wpAny_Call_method0_late hbase hline (thn (ho pn s σ H _ I h) λv s1 ⟨x,H1,I1,r1,ty,q1⟩=>?_);obtain⟨h1,h2⟩:=Px I1 r1 ty;exact⟨T,id,pa,slot,hty,h1,h2,Calls.callWith_builtin rfl (PySem.evalArgs_none (hm pn s1 σ H1 x [] v [] Q I1 r1 .nil q1))⟩
def Yv(pa:PlainAttrs T)(slot:Slot T name id)(hty:typeOf (.builtin id)=pure (.type "method_descriptor"))(hm:MtR X id r)(ho:PE X o to)(ha:PA X (e::es) t)(hbase:attributeBase o name X.env (eval o X.env)=eval o X.env:=by rfl)(hfew:((backTo cpos (starEach (e::es) X.env)).all (λx=>!x.1)&&(backToKw cpos (keywordEach [] X.env)).all (λx=>x.1.isSome)
   && decide ((e::es).length+([]:List Keyword).length+(if ([]:List Keyword).isEmpty then 0 else 1)<30))=true:=by rfl)(hline:(apos.endLine==cpos.line)=true:=by rfl)(hs:starEach (e::es) X.env=(false,eval e X.env)::starEach es X.env:=by rfl)(hplain:(backTo cpos (starEach es X.env)).any (·.1)=false:=by rfl) :
  PE X (.Call (.Attribute o name apos) (e::es) [] cpos) (tBM X.K T r to t):=by
 intro pn s σ H Q I h;refine wpAny_Call_method_late hbase hfew hline rfl (thn (ho pn s σ H _ I h) λv s1 ⟨x,H1,I1,r1,ty,q1⟩=>?_);obtain⟨h1,h2⟩:=Px I1 r1 ty;refine⟨T,id,pa,slot,hty,h1,h2,?_⟩;have hA:=ha cpos pn s1 σ H1 _ I1 q1;rw[hs]at hA ⊢;refine Calls.callWith_builtin (by show(false || (backTo cpos (starEach es X.env)).any (·.1))=false;rw[hplain] <;> rfl) (Calls.evalArgs_plain ?_)
 exact thn hA λus s2 ⟨vs,H2,I2,r2,q2⟩=>hm pn s2 σ H2 x vs v us Q I2 r1 r2 q2
end
def MtM(X:Cx)(id:String)(r:V->List V->Hp->VK->Prop):Prop :=
 ∀(pn:List (Addr×Obj))(s:Shared)(σ:St)(H:Hp)(x:V)(xs:List V)(v:Value)(us:List Value)(Q:VK),Inv X pn σ H s->RelV x v->Vals xs us->r x xs H Q ->
  wpAny (model X.prog X.w) X.A (call (.builtin id) (v::us)) (EP X pn σ Q) X.xe s
def Vals.one:∀{x:V}{us:List Value},Vals [x] us->∃u,us=[u]/\RelV x u
 |_,_,.cons r .nil=>⟨_,rfl,r⟩
def Vals.two:∀{x y:V}{us:List Value},Vals [x,y] us->∃u v,us=[u,v]/\RelV x u/\RelV y v
 |_,_,_,.cons r (.cons q .nil)=>⟨_,_,rfl,r,q⟩
def Vals.zero:∀{us:List Value},Vals [] us->us=[]
 |_,.nil=>rfl
def Vals.dropLast{xs:List V}{us:List Value}(h:Vals xs us):Vals xs.dropLast us.dropLast:=by
 induction h with
 |nil=>exact .nil
 |cons r t ih =>
  cases t with
  |nil=>exact .nil
  |cons q t'=>exact .cons r ih
def Vals.eraseIdx:∀{xs:List V}{us:List Value}(i:Nat),Vals xs us->Vals (xs.eraseIdx i) (us.eraseIdx i)
 |_,_,_,.nil=>.nil
 |_,_,0,.cons _ t=>t
 |_,_,i+1,.cons r t=>.cons r (Vals.eraseIdx i t)
def Vals.rep{xs:List V}{us:List Value}(h:Vals xs us):∀k:Nat,Vals (List.replicate k xs).flatten (List.replicate k us).flatten
 |0=>.nil
 |k+1=>by
  rw[List.replicate_succ,List.replicate_succ,List.flatten_cons,List.flatten_cons];exact Vals.append h (Vals.rep h k)
def P5{α:Type}(l:List α):l.eraseIdx (l.length-1)=l.dropLast:=by
 induction l with
 |nil=>rfl
 |cons a r ih =>
  cases r with
  |nil=>rfl
  |cons b r =>
   have e:(a::b::r).length-1=((b::r).length-1)+1:=by
    have h1:(a::b::r).length=r.length+2:=rfl;have h2:(b::r).length=r.length+1:=rfl;omega
   rw[e,List.eraseIdx_cons_succ,ih]
   all_goals rfl
def Ww{α:Type}:∀(l:List α)(i:Nat),(l.eraseIdx i).length<=l.length
 |[],_=>zaj _
 |_::_,0=>Nat.le_succ _
 |_::r,i+1=>Nat.succ_le_succ (Ww r i)
def Vd(its:List Value):∀(k:Nat)(acc:List Value),
  List.foldl (λx1 x2=>x1++x2) acc.toArray (List.replicate k its.toArray)=(acc++(List.replicate k its).flatten).toArray
 |0,acc=>by simp
 |k+1,acc=>by
  have e:acc.toArray++its.toArray=(acc++its).toArray:=by simp
  have e2:(acc++its)++(List.replicate k its).flatten=acc++(List.replicate (k+1) its).flatten:=by
   rw[List.replicate_succ,List.flatten_cons,List.append_assoc]
  rw[<- e2,<- Vd its k (acc++its),<- e,List.replicate_succ,List.foldl_cons]
variable{l:Addr}
def Inv.lset{its its':List Value}{n:Nat}{f:Array Value->Array Value}{t':Nat}(I:Inv X pn σ H s)(hH:H l=some (.lst xs))(e:s.heap.get? l=some {cls:=.type "list",data:=.seq its.toArray n})(hf:f its.toArray=its'.toArray)(hv:Vals ys its')(hz:ys.length<=sizeLine) :
  Inv X pn σ (upd H l (.lst ys)) {s with heap:=s.heap.update l (Obj.mapSeq f),toks:=t'}:=by
 have q:=PySem.IsL.update e f;rw[hf]at q;refine I.write (x:=l) (e:=l) (by rw[hH];exact trivial) (.inl rfl) (λb' u hb hu=>(Heap.get?_update_other s.heap (Obj.mapSeq f) (Ne.symm hb)).trans hu) ⟨_,q⟩ ?_
 exact⟨hz,its',_,hv,q⟩
def Inv.lnew{its:List Value}{t':Nat}(I:Inv X pn σ H s)(hv:Vals ys its)(hz:ys.length<=sizeLine) :
  Inv X pn σ (upd H s.heap.objs.size (.lst ys)) {s with heap:=s.heap.push {cls:=.type "list",data:=.seq its.toArray},toks:=t'} :=
 I.laid (λ_ _ q=>zac _ q) (zaj _) ⟨hz,its,0,hv,zad _ rfl⟩
def Inv.fresh(I:Inv X pn σ H s):H s.heap.objs.size=none:=I.hok.fresh (zaj _)
def Inv.lstM(I:Inv X pn σ H s)(hH:H l=some (.lst xs)):xs.length<=sizeLine/\∃(its:List Value)(n:Nat),Vals xs its/\xs.length=its.length/\s.heap.get? l=some {cls:=.type "list",data:=.seq its.toArray n}:=by
 obtain⟨z,its,n,r,e⟩:=I.hok l _ hH;exact⟨z,its,n,r,r.length,e⟩
def Sy{n:Nat}(h:n<=sizeLine):Builtin.List.listTooLong n=false:=by
 unfold Builtin.List.listTooLong;exact decide_eq_false (by omega)
def N1:V->List V->Hp->VK->Prop:=λx vs H Q=>∃l xs y,x=.ref l/\vs=[y]/\H l=some (.lst xs)/\xs.length<sizeLine/\Q .non (upd H l (.lst (xs++[y])))
def tv:MtM X "list.append" N1:=by
 intro pn s σ H x vs v us Q I rx rv h;obtain⟨l,xs,y,rfl,rfl,hH,hz,q⟩:=h;cases rx;obtain⟨u,rfl,ru⟩:=rv.one;obtain⟨z,its,n,r,hl,e⟩:=I.lstM hH;refine call_meets F.slot_list_append ⟨_,e,rfl⟩ F.entry_list_append (F.args_list_append_2 _ _) (PySem.list_append l its.toArray n u (by rw[zap];omega)) ⟨e,?_⟩
 refine⟨.non,_,I.lset (its':=its++[u]) hH e (by simp) (r.append (.cons ru .nil)) ?_,rfl,q⟩
 rw[zLa,List.length_singleton];omega
def rPop:V->List V->Hp->VK->Prop:=λx vs H Q=>∃l xs y,x=.ref l/\vs=[]/\H l=some (.lst xs)/\xs[xs.length-1]?=some y/\Q y (upd H l (.lst xs.dropLast))
def Fh:MtM X "list.pop" rPop:=by
 intro pn s σ H x vs v us Q I rx rv h;obtain⟨l,xs,y,rfl,rfl,hH,hy,q⟩:=h;cases rx;have hus:=rv.zero;subst hus;obtain⟨z,its,n,r,hl,e⟩:=I.lstM hH;obtain⟨u,hu,ru⟩:=r.get hy;have hy':its.toArray[its.toArray.size-1]?=some u:=by
  show its.toArray[its.length-1]?=some u;rw[<- Array.getElem?_toList,<- hl];exact hu
 refine call_meets F.slot_list_pop ⟨_,e,rfl⟩ F.entry_list_pop (F.args_list_pop_1 _) (MeetsSeq.list_pop_last l its.toArray n u hy' (by rw[zap];omega)) ⟨e,?_⟩
 refine⟨y,_,I.lset (its':=its.dropLast) hH e ?_ r.dropLast ?_,ru,q⟩
 ·show its.toArray.eraseIdxIfInBounds (its.toArray.size-1)=its.dropLast.toArray;rw[zap,List.eraseIdxIfInBounds_toArray,P5]
 ·rw[List.length_dropLast];omega
def Fb:V->List V->Hp->VK->Prop:=λx vs H Q=>∃l xs i k y,x=.ref l/\vs=[.int i]/\H l=some (.lst xs)/\-(2 ^ 63)<=i/\i<2 ^ 63/\seqIndex? i xs.length=some k/\xs[k]?=some y/\Q y (upd H l (.lst (xs.eraseIdx k)))
def Jo:MtM X "list.pop" Fb:=by
 intro pn s σ H x vs v us Q I rx rv h;obtain⟨l,xs,i,k,y,rfl,rfl,hH,h1,h2,hk,hy,q⟩:=h;cases rx;obtain⟨u,rfl,ru⟩:=rv.one;obtain⟨t,rfl⟩:=ru;obtain⟨z,its,n,r,hl,e⟩:=I.lstM hH;obtain⟨w,hw,rw'⟩:=r.get hy;refine call_meets F.slot_list_pop ⟨_,e,rfl⟩ F.entry_list_pop (F.args_list_pop_2 _ _)
  (MeetsSeq.list_pop_at l its.toArray n i t k w (fitsIndex_both h1 h2) (by rw[zap,<- hl];exact hk) (by rw[<- Array.getElem?_toList];exact hw) (by rw[zap];omega)) ⟨e,?_⟩
 refine⟨y,_,I.lset (its':=its.eraseIdx k) hH e ?_ (r.eraseIdx k) ?_,rw',q⟩
 ·show its.toArray.eraseIdxIfInBounds k=(its.eraseIdx k).toArray;rw[List.eraseIdxIfInBounds_toArray]
 ·have:=Ww xs k;omega
def rCat:R2:=λx y H Q=>∃l b xs zs,x=.ref l/\y=.ref b/\H l=some (.lst xs)/\H b=some (.lst zs)/\xs.length+zs.length<=sizeLine/\∀p,H p=none->Q (.ref p) (upd H p (.lst (xs++zs)))
def z1b:OpR X (binaryOp .Add) rCat:=by
 intro pn s σ H x y v u Q I rx ry h;obtain⟨l,b,xs,zs,rfl,rfl,hH,hB,hz,q⟩:=h;cases rx;cases ry;obtain⟨z,its,n,r,hl,e⟩:=I.lstM hH;obtain⟨z2,its2,n2,r2,hl2,e2⟩:=I.lstM hB;refine PySem.P.add_list e e2 ?_ (by rw[zap,zap];omega)
 have ea:its.toArray++its2.toArray=(its++its2).toArray:=by simp
 rw[ea];exact⟨.ref _,_,I.lnew (t':=s.toks) (r.append r2) (by rw[zLa];omega),rfl,q _ I.fresh⟩
def rRep:R2:=λx y H Q=>∃l k xs,x=.ref l/\y=.int k/\H l=some (.lst xs)/\-(2 ^ 63)<=k/\k<2 ^ 63/\xs.length*k.toNat<=sizeLine /\
 ∀p,H p=none->Q (.ref p) (upd H p (.lst (List.replicate k.toNat xs).flatten))
def Cg{α:Type}(xs:List α)(k:Nat):(List.replicate k xs).flatten.length=k*xs.length:=by
 induction k with
 |zero=>simp
 |succ k ih=>rw[List.replicate_succ,List.flatten_cons,zLa,ih,Nat.succ_mul,Nat.add_comm]
def z0w:OpR X (binaryOp .Mult) rRep:=by
 intro pn s σ H x y v u Q I rx ry h;obtain⟨l,k,xs,rfl,rfl,hH,h1,h2,hz,q⟩:=h;cases rx;obtain⟨t,rfl⟩:=ry;obtain⟨z,its,n,r,hl,e⟩:=I.lstM hH;have hlen:its.toArray.size*k.toNat<=sizeLine:=by rw[zap,<- hl];exact hz
 have hcap:¬ its.toArray.size*k.toNat > (2 ^ 63-1) / 8:=by
  have:(sizeLine:Nat)<=(2 ^ 63-1) / 8:=by decide
  omega
 have hfit:¬ (!Builtin.List.listFitsIndex k)=true:=by
  rw[fitsIndex_both h1 h2];exact Bool.false_ne_true
 have hlong:¬ Builtin.List.listTooLong (its.toArray.size*k.toNat)=true:=by
  rw[Sy hlen];exact Bool.false_ne_true
 have hnew:List.foldl (λx1 x2=>x1++x2) #[] (List.replicate (if its.toArray.isEmpty=true then 0 else k.toNat) its.toArray)=(List.replicate k.toNat its).flatten.toArray:=by
  have f0:∀m:Nat,List.foldl (λx1 x2=>x1++x2) #[] (List.replicate m its.toArray)=(List.replicate m its).flatten.toArray:=λm=>by
   have:=Vd its m [];rw[List.nil_append]at this;exact this
  rw[f0];cases its with
  |nil=>simp
  |cons a r'=>rw[if_neg (by simp)]
 refine wpAny_binaryOp_repeat_ref (T:="list") (U:="int") (by decide) ⟨_,e,rfl⟩ (λs'=>typeIs_int s' k t) noFill_list_mul F.fills_int_mul F.slot_int_rmul repeat_list F.slot_int_index.lookup
  (call_meets F.slot_int_rmul (typeIs_int s k t) F.entry_int_rmul (F.args_int_rmul_2 _ _) (int___rmul___int_list k t l its.toArray n)
   ⟨e,rfl,⟨_,e,rfl⟩,call_meets F.slot_list_mul ⟨_,e,rfl⟩ F.entry_list_mul (F.args_list_mul_2 _ _) (AutoListH.list___mul___list_int_3 l its.toArray n k t hfit hcap hlong) ⟨e,?_⟩⟩)
 rw[hnew];exact⟨.ref _,_,I.lnew (t':=s.toks) (r.rep k.toNat) (by rw[Cg,Nat.mul_comm];exact hz),rfl,q _ I.fresh⟩
section
open PySem PySem.W PySem.Calls PyProof.Rows
def c8{P:Params}{h:Heap}:∀(ns:List Int)(vs:List Value),WellAll P h vs (ns.map WData.int)->IntsAre vs ns:=by
 intro ns
 induction ns with
 |nil =>
  intro vs w;rw[List.map_nil]at w;cases w;exact .nil
 |cons n ns ih =>
  intro vs w;rw[List.map_cons]at w;cases w with
  |cons a b =>
   cases a
   exact .cons _ _ (ih _ b)
def Ou{l:OpenLaw}{n:Nat}(hn:l.most=some n){P:Params}{h:Heap}{args:List WData}{vals:List Value}(hpre:l.row.toRowW.claim.pre args=true)(hwl:WellAll P h vals args) :
  ∃a vs ns,vals=[Value.ref a]/\args=[WData.list (ns.map WData.int)]/\h.get? a=some {cls:=.type "list",data:=.seq vs.toArray}/\IntsAre vs ns/\ns.length<=n:=by
 have hsh:WShape.hasAll [] args [.list .int]=true:=(pre_splitW hpre).1;have hc:l.pre.holds [] {args:=args}=true:=(pre_splitW hpre).2;obtain⟨d,r,rfl,h1,h2⟩:=hasAllW_cons hsh;obtain rfl:=hasAllW_nil h2;obtain⟨xs,rfl,h3⟩:=hasW_list h1;obtain⟨ns,rfl⟩:=items_int h3;have hlen:ns.length<=n:=by
  unfold OpenLaw.pre at hc;have h4:(WTm.not (.lt (.lit (.int (n:Int))) (.len (.arg 0)))).holds [] {args:=[.list (ns.map .int)]}=true:=by
   have h4:=(holds_andW hc).1;rw[hn]at h4;exact h4
  have h5:=condW_of h4 (w_not (w_lt w_lit (w_len_list (w_arg rfl))));rw[zLm]at h5;refine Nat.le_of_not_lt λq=>?_;have q':(n:Int)<((ns.length:Nat):Int):=by omega
  first
   |(rw[decide_eq_true q']at h5;exact absurd h5 (by decide))
   |(simp at h5;omega)
 cases hwl with
 |cons w1 w2 =>
  cases w2
  cases w1 with
  |list ho hall=>exact⟨_,_,ns,rfl,rfl,ho,c8 ns _ hall,hlen⟩
def N9(l:OpenLaw)(args:List WData):l.row.toRowW.claim.post args (.bool true) args=true :=
 postW_of (r:=l.row.toRowW) (X:=(true==true))
  (show WShape.has [] (.bool true) .bool=true by first|rfl|decide|simp[WShape.has,WShape.arms,WShape.armsAll])
  (show(WTm.eq .res (.lit (.bool true))).value [] {args:=args,res:=some (.bool true),after:=args}=some (.bool (true==true)) from w_eq_bool (w_res rfl) w_lit) rfl
def attach_call{l:OpenLaw}{n:Nat}{q:Program}{loose:List Str}{XP:(Str->Option Value)->Heap->Prop}{YP:World->Heap->Prop}{d:DefRec}(hn:l.most=some n)(hdf:d.params.defaults=[])(call:∀ (w:World) (s₀ s₁:Shared) (mg mb:Str->Option Value) (fa:Addr) (o:Obj) (pm cd doc:Value) (a:Addr) (vs:List Value) (ns:List Int),
   Ground q loose [] XP w s₀ mg mb s₁.heap->YP w s₁.heap ->
   s₁.heap.get? fa=some o->o.data=.func (docDef d.name d.params d.body d.scope pm cd doc)->s₁.heap.CodeRec cd d.name->mg d.name=some (.ref fa) ->
   s₁.heap.get? a=some {cls:=.type "list",data:=.seq vs.toArray}->IntsAre vs ns->ns.length<=n->s₁.gens=#[] ->
   codeAny (model l.prog w) callerA (.call (.ref fa) ⟨[.ref a],[]⟩) (λr s'=>r=.ok (.ret (.bool true))/\OldK s₁.heap s'.heap/\s'.os=s₁.os/\AllBare s'.gens) s₁) :
  WalkO q loose XP YP l.row.toRowW d [] (λf vs=>PySem.call f vs):=by
 intro w s₀ s₁ mg mb G Y fa o pm cd doc dV kV ho hd hcd hD hmg hg args vals as hpre hlay hrd hwl hlo;obtain rfl:dV=.none:=Dflts.none hD hdf;obtain rfl:kV=.none:=Dflts.noKw hD;obtain⟨a,vs,ns,rfl,rfl,hobj,hints,hlen⟩:=Ou hn hpre hwl;refine enter_call (codeAny_mono (call w s₀ s₁ mg mb fa o pm cd doc a vs ns G Y ho (fd_plain hd) hcd hmg hobj hints hlen hg) λr s' hq=>?_);obtain⟨rfl,h2,h3,h4⟩:=hq;exact⟨.inl ⟨.bool true,.bool true,[],rfl,λ_=>rfl,.bool true,N9 l _,λ_=>⟨List.Pairwise.nil,λ_ hm=>(nomatch hm)⟩⟩,h2,h3,h4⟩
end
def t8:∀{vs:List Value}{ns:List Int},IntsAre vs ns->Vals (ns.map V.int) vs
 |_,_,.nil=>.nil
 |_,_,.cons n t h=>.cons ⟨t,rfl⟩ (t8 h)
def Only(H:Hp):Prop:=∀b,H b=none\/∃o xs,H b=some (.frz o (.lst xs))
def Ha{P:Program}{w:World}{K:W.Frag}{mg mb:Str->Option Value}{CX:CXT}{k:Nat}{fa a:Addr}{fd:FuncData}{x:Str}{sp:Sp}{s₁:Shared}{vs:List Value}{ns:List Int}(KX:K.In s₁.heap)(hns:s₁.heap.Ns mainGlobals mg)(hb:s₁.heap.Ns builtinsNs mb)(hbb:∀ x:Str,x≠"__name__"->mb x=bootBuiltins x)(hlim:s₁.heap.NoLimit)(hg:s₁.gens=#[])(ha:s₁.heap.get? a=some {cls:=.type "list",data:=.seq vs.toArray})(hi:IntsAre vs ns)(hl:ns.length<=sizeLine)(hr:Room k callerA)(F:∀ base:Heap,K.In base->base.Ns mainGlobals mg->FnOk P w K mg base CX k fa fd [x] sp)(hbind:∀ (s:Shared) (u:Value),BindsTo s fd ⟨[u],[]⟩ [(x,u)])(hsp:∀ H:Hp,Only H->SqL K H a (ns.map V.int)->sp [.ref a] H (λv _=>v=.bl true) λ_ _ _=>False)(hCX:∀ H e s',CX [] H s₁ (λ_ _ _=>False) e s'->False) :
  codeAny (model P w) callerA (.call (.ref fa) ⟨[.ref a],[]⟩) (λr s'=>r=.ok (.ret (.bool true))/\OldK s₁.heap s'.heap/\s'.os=s₁.os/\AllBare s'.gens) s₁:=by
 have rv:=t8 hi;have lenV:=hi.length;have core:∀H:Hp,Only H->SqL K H a (ns.map V.int)->HOk P w H s₁.heap->(∀b,H b≠none->b=a)->(H a≠none->K.lookup a=none) ->
   codeAny (model P w) callerA (.call (.ref fa) ⟨[.ref a],[]⟩) (λr s'=>r=.ok (.ret (.bool true))/\OldK s₁.heap s'.heap/\s'.os=s₁.os/\AllBare s'.gens) s₁:=by
  intro H hO hS hok hA hK;have base_of:∀{b:Addr}{o:Obj},s₁.heap.get? b=some o->H b=none->(hidT s₁.heap H).get? b=some o:=λe n=>Hj e n;have noA:∀{b:Addr}{o:Obj}{es:Array DictEntry}{ep:Nat},s₁.heap.get? b=some o->o.data=.dict es ep->H b=none:=λ{b o es ep} e d=>by
   cases q:H b with
   |none=>rfl
   |some u =>
    have e':b=a:=hA b (by rw[q];simp)
    subst e';rw[ha]at e;cases e;have d':Data.seq vs.toArray _=Data.dict es ep:=d;cases d'
  have nsK:∀{b:Addr}{m:Str->Option Value},s₁.heap.Ns b m->(hidT s₁.heap H).Ns b m:=λ{b m} ⟨o,es,ep,e,d,r⟩=>⟨o,es,ep,base_of e (noA e d),d,r⟩;have hKb:K.In (hidT s₁.heap H):=λb o e=>base_of (KX b o e) (by
   cases q:H b with
   |none=>rfl
   |some u =>
    have e':b=a:=hA b (by rw[q];simp)
    subst e';rw[hK (by rw[q];simp)]at e;cases e)
  have hM:Mod K mg (hidT s₁.heap H):=⟨hKb,nsK hns,⟨mb,nsK hb,hbb⟩,let ⟨mc,h1,h2⟩:=hlim;⟨mc,nsK h1,h2⟩⟩
  have e0:Env0 P w K mg (hidT s₁.heap H) callerA [] s₁ H:=⟨rfl,hM,λb o e=>C9 e,Nat.le_of_eq (Mo _ _),trivial,λb hb=>absurd (show b∈([]:List Addr) from hb) (by simp),hok,.of_eq hg⟩
  refine codeAny_mono ((F _ hKb (nsK hns)).run callerA [] s₁ H ⟨[.ref a],[]⟩ [.ref a] [.ref a] _ _ hr e0 (hbind s₁ (.ref a)) (.cons rfl .nil) (hsp H hO hS)) λr s' h=>?_;cases r with
  |error e=>exact(hCX H e s' h).elim
  |ok fl =>
   cases fl with
   |next=>exact False.elim h
   |brk=>exact False.elim h
   |cont=>exact False.elim h
   |ret u =>
    obtain⟨v,H',os,bare,un,hok',r',q⟩:=h;have q':v=.bl true:=q;subst q';obtain rfl:u=Value.bool true:=r';refine⟨rfl,OldK.of_keep λb o e=>?_,os,bare⟩;cases q:H b with
    |none=>exact un.keep b o e q (by intro z;exact absurd (show b∈([]:List Addr) from z) (by simp)) (by simp)
    |some u =>
     rcases hO b with z|⟨ob,xs,z⟩
     ·rw[q]at z;cases z
     ·have z2:=un.frzs b ob _ z;obtain⟨e1,_⟩:=hok b _ z;obtain⟨e2,_⟩:=hok' b _ z2;rw[e]at e1;cases e1;exact e2
 cases hk:K.lookup a with
 |some o =>
  have e:=KX a o hk;rw[ha]at e;cases e;refine core (λ_=>none) (λ_=>.inl rfl) (.inr ⟨_,vs.toArray,_,hk,rfl,rfl,rfl,by rw[zap,lenV];exact hl,by simpa using rv⟩) (λb u z=>by have z':(none:Option HO)=some u:=z;cases z') (λb z=>absurd rfl z) λz=>absurd rfl z
 |none =>
  refine core (λb=>if b=a then some (.frz {cls:=.type "list",data:=.seq vs.toArray} (.lst (ns.map V.int))) else none) (λb=>?_) (.inl (.inr ⟨{cls:=.type "list",data:=.seq vs.toArray},if_pos rfl⟩)) (λb u z=>?_) (λb z=>?_) λ_=>hk
  ·by_cases hb:b=a
   ·exact .inr ⟨_,_,if_pos hb⟩
   ·exact .inl (if_neg hb)
  ·by_cases hb:b=a
   ·have z':=(if_pos hb).symm.trans z;cases z';subst hb;exact⟨ha,by rw[zLm];exact hl,vs,_,rv,ha⟩
   ·have z':=(if_neg hb).symm.trans z;cases z'
  ·by_cases hb:b=a
   ·exact hb
   ·exact absurd (if_neg hb) z
abbrev KOf{K:W.Frag}{h:Heap}(_:K.In h):W.Frag:=K
def walk_of{l:W.OpenLaw}{n k:Nat}{q:Program}{loose:List Str}{XP:(Str->Option Value)->Heap->Prop}{YP:World->Heap->Prop}{d:DefRec}{K:Params->W.Frag}{CX:World->CXT}{sp:World->Sp}{x:Str}(hn:l.most=some n)(hn2:n<=sizeLine)(hdf:d.params.defaults=[])(hr:Room k callerA)(hY:∀ (w:World) (h:Heap),YP w h->(K w.params).In h)(F:∀ (w:World) (mg:Str->Option Value) (fa:Addr) (h:Heap),(K w.params).In h->h.Ns mainGlobals mg->mg d.name=some (.ref fa) ->
   ∃ fd:FuncData,(∀ (s:Shared) (u:Value),BindsTo s fd ⟨[u],[]⟩ [(x,u)]) /\
    ∀ base:Heap,(K w.params).In base->base.Ns mainGlobals mg->FnOk l.prog w (K w.params) mg base (CX w) k fa fd [x] (sp w))(hsp:∀ (w:World) (H:Hp) (a:Addr) (ns:List Int),ns.length<=n->Only H->SqL (K w.params) H a (ns.map V.int)->sp w [.ref a] H (λv _=>v=.bl true) λ_ _ _=>False)(hCX:∀ (w:World) (H:Hp) (s:Shared) (e:Value) (s':Shared),CX w [] H s (λ_ _ _=>False) e s'->False) :
  W.WalkO q loose XP YP l.row.toRowW d [] (λf vs=>PySem.call f vs):=by
 refine ZZ.attach_call hn hdf λw s₀ s₁ mg mb fa o pm cd doc a vs ns G Y ho hd hcd hmg hobj hints hlen hg=>?_;have KX:=hY w _ Y;obtain⟨fd,hb,hF⟩:=F w mg fa _ KX G.T.g hmg;exact Ha KX G.T.g G.T.b G.T.builtins G.T.nolimit hg hobj hints (zak hlen hn2) hr hF hb (λH hO hS=>hsp w H a ns hlen hO hS) λH e s'=>hCX w H s₁ e s'
abbrev CX0:CXT:=λ_ _ _ _ _ _=>False
abbrev E0:XK:=λ_ _ _=>False
def z0t{X:Cx}:K6 CX0 X E0:=λ_ _ _ _ _ _ _ h=>h.elim
structure Fun(K:W.Frag)(x qual:Str)(st:Stmt)(f:Addr)(fd:FuncData):Prop where
 ex:∃(oc:Value)(od:Option Addr)(kV doc pm:Value)(an:Option Addr)(qZ ct:Value)(osl:Array (Option Value)),
  fd=W.fnOf x qual (se st) (wv st) (zd st) .none kV doc pm an qZ ct/\K.lookup f=some ⟨oc,od,.func fd,osl⟩/\W.codeIn K qZ qual=true
 kp:W.keepIn K (.ref f)=true
variable{K:W.Frag}{mg:Str->Option Value}{base:Heap}
def Fun.ok{x qual:Str}{st:Stmt}{f:Addr}{fd:FuncData}{N ps:List Str}{k:Nat}{sp:Sp}(F:Fun K x qual st f fd)(S:zo N ps (zd st))(len:∀ vs H Q E,sp vs H Q E->vs.length=ps.length)(qY:∀ (qZ:Value) (A:Around) (outer:List Env) (s:Shared) (H:Hp) (vs:List V) (Q:VK) (E:XK),Room k (A.deeper (envOfC qual (zd st) s.heap.objs.size f qZ))->sp vs H Q E ->
   ∃ t,PSs (cxOf CX0 P w K mg base N qual (zd st) f qZ A outer s H E).nox (wv st) t/\t {nx:=λ_ H'=>Q .non H',rt:=Q} (start N vs) H):FnOk P w K mg base CX0 (k+1) f fd ps sp:=by
 obtain⟨oc,od,kV,doc,pm,an,qZ,ct,osl,rfl,lk,hcd⟩:=F.ex;refine z4i lk hcd S len λA outer s H vs Q E hr hsp=>?_;obtain⟨t,h,q⟩:=qY qZ A outer s H vs Q E hr hsp;exact⟨t,h.nox,q⟩
def Fun.binds{x qual:Str}{st:Stmt}{f:Addr}{fd:FuncData}{ps:List Str}(F:Fun K x qual st f fd)(h:∀ (kV doc pm:Value) (an:Option Addr) (qZ ct:Value) (us:List Value),us.length=ps.length->bindArgs (W.fnOf x qual (se st) (wv st) (zd st) .none kV doc pm an qZ ct) ⟨us,[]⟩=pure (ps.zip us)):Z5 K fd ps []:=by
 obtain⟨oc,od,kV,doc,pm,an,qZ,ct,osl,rfl,lk,hcd⟩:=F.ex;exact .all (h kV doc pm an qZ ct)
def Ft{x qual:Str}{st:Stmt}{f:Addr}{oc:Value}{od an:Option Addr}{osl:Array (Option Value)}{kV doc pm qZ ct:Value}(l:K.lookup f=some ⟨oc,od,.func (W.fnOf x qual (se st) (wv st) (zd st) .none kV doc pm an qZ ct),osl⟩)(c:W.codeIn K qZ qual=true)(k:W.keepIn K (.ref f)=true):Fun K x qual st f (W.fnOf x qual (se st) (wv st) (zd st) .none kV doc pm an qZ ct):=⟨⟨oc,od,kV,doc,pm,an,qZ,ct,osl,rfl,l,c⟩,k⟩
def pv(i:Nat){x:Str}{pos:Pos}(hN:X.N[i]?=some x:=by rfl)(hv:Vis X.env.scope x:=by walk_at "o")(hd:(x==("__debug__" : Str))=false:=by decide)(hcd:(x==("__classdict__" : Str))=false:=by decide):PE X (.Name x pos) (tVar i):=tj hN hv hd hcd
def iteF{A B:Prop}(h:B):if false=true then A else B:=by
 rw[if_neg Bool.false_ne_true];exact h
def iteT{A B:Prop}(h:A):if true=true then A else B:=by
 rw[if_pos rfl];exact h
def ite2{c A B:Prop}[Decidable c](h1:c->A)(h2:¬ c->B):if c then A else B:=by
 by_cases h:c
 ·rw[if_pos h];exact h1 h
 ·rw[if_neg h];exact h2 h
def Same(H H':Hp):Prop:=∀b o,H b=some o->H' b=some o
def Same.refl(H:Hp):Same H H:=λ_ _ h=>h
def Same.trans{H H1 H2:Hp}(a:Same H H1)(b:Same H1 H2):Same H H2:=λc o h=>b c o (a c o h)
def Same.free{H H':Hp}(e:Same H H'){l:Addr}(h:H' l=Option.none):H l=Option.none:=by
 cases q:H l with
 |none=>rfl
 |some o =>
  rw[e l o q]at h;cases h
theorem Mt{α β:Type}{f:α->β->Sem (ForInStep β)}(R:List α->β->Prop)(h:∀ x l c,R (x::l) c->∃ c',f x c=pure (.yield c')/\R l c') :
  ∀(l:List α)(c:β),R l c->∃c',forIn l c f=pure c'/\R [] c'
 |[],c,r=>⟨c,rfl,r⟩
 |x::l,c,r=>by
  obtain⟨c1,e,r1⟩:=h x l c r;obtain⟨c2,e2,r2⟩:=Mt R h l c1 r1;exact⟨c2,by rw[List.forIn_cons,e,pure_bind];exact e2,r2⟩
def S0{env:Env}{x:Str}{c:Addr}(h:env.cells.lookup x=some c):cellOf env x=pure c:=by
 unfold cellOf;rw[h]
def Zx{scope:Scope}{env:Env}(h:∀ y∈scope.names,y.2=.free->∃ c,env.cells.lookup y.1=some c) :
  ∃cl,closureFor scope env=pure cl/\(∀x c,cl.lookup x=some c->env.cells.lookup x=some c)/\∀y∈scope.names,y.2=.free->∃c,cl.lookup y.1=some c:=by
 let f:Str×NameKind->List (Str×Addr)->Sem (ForInStep (List (Str×Addr))):=λx r=>match x with
  |(name,kind)=>if (kind==.free)=true then(do let a <- cellOf env name;pure (.yield ((name,a)::r))) else pure (.yield r)
 have q:=Mt (f:=f) (λrem cs=>(∀x c,cs.lookup x=some c->env.cells.lookup x=some c)/\(∀y∈scope.names,y.2=.free->(∃c,cs.lookup y.1=some c)\/y∈rem)/\∀y∈rem,y∈scope.names) ?_ scope.names []
  ⟨λx c e=>(by cases e),λy hy _=>.inr hy,λ_ hy=>hy⟩
 ·obtain⟨cl,e,p1,p2,_⟩:=q;refine⟨cl,?_,p1,λy hy hf=>(p2 y hy hf).elim (λz=>z) λz=>(by cases z)⟩
  have e1:closureFor scope env=(forIn scope.names [] f >>= λr=>pure r):=rfl;rw[e1,e,pure_bind]
 ·rintro⟨n,k⟩ l cs ⟨p1,p2,p3⟩;have hm:=p3 _ (zao ..);by_cases hk:k=.free
  ·subst hk;obtain⟨c,hc⟩:=h _ hm rfl;refine⟨(n,c)::cs,?_,λx c' e=>?_,λy hy hf=>?_,λy hy=>p3 y (zal _ hy)⟩
   ·show(if ((NameKind.free==NameKind.free)=true) then _ else _)=_
    rw[if_pos (by decide),S0 hc,pure_bind]
   ·rw[List.lookup_cons]at e;cases hx:x==n with
    |true =>
     rw[hx]at e;have ex:x=n:=eq_of_beq hx;subst ex;cases e;exact hc
    |false =>
     rw[hx]at e;exact p1 x c' e
   ·rcases p2 y hy hf with⟨c',e⟩|z
    ·refine .inl ?_;rw[List.lookup_cons];cases hx:y.1==n with
     |true=>exact⟨c,rfl⟩
     |false=>exact⟨c',e⟩
    ·rcases zam.mp z with rfl|z
     ·exact .inl ⟨c,by rw[List.lookup_cons];simp⟩
     ·exact .inr z
  ·refine⟨cs,?_,p1,λy hy hf=>?_,λy hy=>p3 y (zal _ hy)⟩
   ·show(if ((k==NameKind.free)=true) then _ else _)=_
    rw[if_neg (by simpa using hk)]
   ·rcases p2 y hy hf with z|z
    ·exact .inl z
    ·rcases zam.mp z with rfl|z
     ·exact absurd hf hk
     ·exact .inr z
theorem u0{env:Env}:∀{names:List (Str×NameKind)}{x:Str},names.lookup x=some .free ->
  (names.map λ(n,k)=>if (k==NameKind.free&&env.scope.kind==.function&&env.kindOf n==some .cell) then(n,NameKind.cell) else(n,k)).lookup x=some .cell \/
  (names.map λ(n,k)=>if (k==NameKind.free&&env.scope.kind==.function&&env.kindOf n==some .cell) then(n,NameKind.cell) else(n,k)).lookup x=some .free
 |[],_,h=>by cases h
 |(n,k)::r,x,h=>by
  have ih:=@u0 env r x;rw[List.map_cons];cases hx:x==n with
  |true =>
   rw[List.lookup_cons,hx]at h;cases h;by_cases hc:(NameKind.free==NameKind.free&&env.scope.kind==.function&&env.kindOf n==some .cell)=true
   ·refine .inl ?_;show List.lookup x ((if (NameKind.free==NameKind.free&&env.scope.kind==.function&&env.kindOf n==some .cell)=true then(n,NameKind.cell) else(n,NameKind.free))::_)=_
    rw[if_pos hc,List.lookup_cons,hx]
   ·refine .inr ?_;show List.lookup x ((if (NameKind.free==NameKind.free&&env.scope.kind==.function&&env.kindOf n==some .cell)=true then(n,NameKind.cell) else(n,NameKind.free))::_)=_
    rw[if_neg hc,List.lookup_cons,hx]
  |false =>
   rw[List.lookup_cons,hx]at h;have e:∀(b:Bool)(l:List (Str×NameKind)),List.lookup x ((if b=true then(n,NameKind.cell) else(n,k))::l)=l.lookup x:=λb l=>by
    cases b with
    |true=>rw[if_pos rfl,List.lookup_cons,hx]
    |false=>rw[if_neg Bool.false_ne_true,List.lookup_cons,hx]
   rcases ih h with q|q
   ·exact .inl ((e _ _).trans q)
   ·exact .inr ((e _ _).trans q)
def jq{scope:Scope}{env:Env}(hnc:∀ y∈scope.names,y.2≠.cell){x:Str}{k:NameKind}(h:(relabel scope env).names.lookup x=some k)(hk:k=.cell\/k=.free) :
  ∃y∈scope.names,y.1=x/\y.2=.free:=by
 have hm:=PySem.mem_of_lookup h;obtain⟨⟨n,k0⟩,hy,e⟩:=zah.mp hm;refine⟨(n,k0),hy,?_⟩;have e':(if (k0==NameKind.free&&env.scope.kind==.function&&env.kindOf n==some .cell)=true then(n,NameKind.cell) else(n,k0))=(x,k):=e
 by_cases hc:(k0==NameKind.free&&env.scope.kind==.function&&env.kindOf n==some .cell)=true
 ·rw[if_pos hc]at e';cases e';refine⟨rfl,?_⟩;rw[Bool.and_eq_true,Bool.and_eq_true]at hc;exact eq_of_beq hc.1.1
 ·rw[if_neg hc]at e';cases e';rcases hk with rfl|rfl
  ·exact absurd rfl (hnc _ hy)
  ·exact⟨rfl,rfl⟩
abbrev x5(X:Cx)(N':List Str)(scope:Scope)(cl:List (Str×Addr))(C:Addr)(fp:List Addr)(s₀:Shared)(H₀:Hp):Cx :=
 {X with N:=N',s₀:=s₀,H₀:=H₀,env:=compEnvC scope cl C X.env,outer:=X.stack,ex:=fp,fn:=λ_=>false,pn:=[],xe:=λ_ _=>False}
structure zm(psc scope:Scope)(T F:List Str):Prop where
 kind:scope.kind=.function
 nocell:∀y∈scope.names,y.2≠.cell
 loc:∀y∈scope.names,y.2=.local->scope.names.lookup y.1=some .local
 fr:∀y∈scope.names,y.2=.free->psc.names.lookup y.1=some .cell\/psc.names.lookup y.1=some .free
 nd:(T++F).Nodup
 ffree:∀x∈F,scope.names.lookup x=some .free
section
variable{scope:Scope}{T F:List Str}{cl:List (Str×Addr)}{fp:List Addr}{js:List Nat}
def b5(I:Inv X pn σ H s)(S:zm X.env.scope scope T F):∀y∈scope.names,y.2=.free->∃c,X.env.cells.lookup y.1=some c:=λy hy hf=>I.ok.has y.1 (S.fr y hy hf)
def C7(I:Inv X pn σ H s)(S:zm X.env.scope scope T F)(p1:∀ x c,cl.lookup x=some c->X.env.cells.lookup x=some c)(p2:∀ y∈scope.names,y.2=.free->∃ c,cl.lookup y.1=some c)(hC:s.heap.objs.size<=C)(hf:∀ b∈fp,FpOk X pn H b)(hfl:∀ b∈fp,b<s.heap.objs.size) :
  (x5 X (T++F) scope cl C fp s H).Ok where
 mod:=I.ok.mod
 kind:=S.kind
 glob:=I.ok.glob
 blt:=I.ok.blt
 above:=hC
 inj:=λx y c hx hy=>I.ok.inj x y c (p1 x c hx) (p1 y c hy)
 has:=λx hx=>by
  have q:∃y∈scope.names,y.1=x/\y.2=.free:=by
   rcases hx with hx|hx
   ·exact jq (env:=X.env) S.nocell (show(relabel scope X.env).names.lookup x=some .cell from hx) (.inl rfl)
   ·exact jq (env:=X.env) S.nocell (show(relabel scope X.env).names.lookup x=some .free from hx) (.inr rfl)
  obtain⟨y,hy,rfl,hf⟩:=q;exact p2 y hy hf
 cab:=λx c h=>by cases h
 hd:=I.ok.hd
 frames:=I.ok.frames
 stk:=.inl rfl
 exf:=λb hb=>⟨Nat.ne_of_lt (Nat.lt_of_lt_of_le (hfl b hb) hC),λx c e=>(hf b hb).2.2.2.2.1 x c (p1 x c e)⟩
 bs:=I.bs
 bsz:=zak I.ok.bsz I.sz
 noex:=λb o e hb=>by
  rcases(hf b hb).2.2.2.1 with z|z
  ·exact I.ok.noex b o e z
  ·exact absurd (Nat.lt_of_lt_of_le (zae (I.ok.bs b o e).1) z) (Nat.lt_irrefl _)
 exfs:=λb hb z=>by
  rcases zam.mp (I.stkSub b z) with q|q
  ·exact(hf b hb).2.1 q
  ·exact(hf b hb).2.2.1 q
 funs:=I.stack
 frf:=I.stkFree
def st0(T:List Str)(js:List Nat)(σ:St):St:=List.replicate T.length none++js.map λj=>(σ[j]?).join
theorem ja{α β:Type}{R:α->β->Prop}:∀{l:List α}{r:List β}{i:Nat}{b:β},Paired R l r->r[i]?=some b->∃a,l[i]?=some a/\R a b
 |_,_,_,_,.nil,e=>by simp at e
 |_,_,0,_,.cons h _,e=>by simp at e;subst e;exact⟨_,rfl,h⟩
 |_,_,i+1,b,.cons _ t,e=>by
  obtain⟨a,q1,q2⟩:=ja (i:=i) (b:=b) t (by simpa using e)
  exact⟨a,by simpa using q1,q2⟩
def Hf{h₁:Heap}{m:Str->Option Value}{t':Nat}(I:Inv X pn σ H s)(S:zm X.env.scope scope T F)(p1:∀ x c,cl.lookup x=some c->X.env.cells.lookup x=some c)(p2:∀ y∈scope.names,y.2=.free->∃ c,cl.lookup y.1=some c)(hjs:Paired (λx j=>X.N[j]?=some x) F js)(hC:s.heap.objs.size<=C)(hf:∀ b∈fp,FpOk X pn H b)(hfl:∀ b∈fp,b<s.heap.objs.size)(hn:h₁.Ns C m)(hk:∀ b o,s.heap.get? b=some o->h₁.get? b=some o):Inv (x5 X (T++F) scope cl C fp s H) [] (st0 T js σ) H {s with heap:=h₁,toks:=t'}:=by
 refine⟨C7 I S p1 p2 hC hf hfl,rfl,I.bare,Un.kept hk,⟨m,hn,λi x v h1 h2 h3=>?_⟩,λx c e=>?_,I.hok.fresh hC,λx c e=>I.freeC x c (p1 x c e),λp hp=>(by cases hp),I.hok.kept hk,?_⟩
 ·have hi:T.length<=i:=by
   rcases Nat.lt_or_ge i T.length with z|z
   ·exfalso;unfold st0 at h2;rw[List.getElem?_append_left (by simpa using z),List.getElem?_replicate]at h2
    split at h2 <;> cases h2
   ·exact z
  unfold st0 at h2;rw[List.getElem?_append_right (by simpa using hi),zai,List.length_replicate]at h2
  cases ej:js[i-T.length]? with
  |none=>rw[ej]at h2;cases h2
  |some j =>
   rw[ej]at h2;have hσ:(σ[j]?).join=some v:=Option.some.inj h2;obtain⟨x',hx',hX⟩:=ja hjs ej;have h1':(T++F)[i]?=some x:=h1;rw[List.getElem?_append_right hi,hx']at h1';cases h1';have hσ':σ[j]?=some (some v):=by
    cases e:σ[j]? with
    |none=>rw[e]at hσ;cases hσ
    |some o=>rw[e]at hσ;cases hσ;rfl
   have hxF:x∈F:=zan hx';have hfree:=S.ffree x hxF;have hpsc:=S.fr _ (PySem.mem_of_lookup hfree) rfl;obtain⟨m0,_,look⟩:=I.loc;obtain⟨u,ru,lk⟩:=look j x v hX hσ' (.inr hpsc);refine⟨u,ru,?_⟩;rcases lk with⟨k,_⟩|⟨_,c,hc,hcell⟩
   ·exfalso;have k':X.env.scope.names.lookup x=some .local:=k;rcases hpsc with z|z
    ·rw[k']at z;cases z
    ·rw[k']at z;cases z
   ·obtain⟨c',hc'⟩:=p2 _ (PySem.mem_of_lookup hfree) rfl;have e2:=p1 x c' hc';rw[hc]at e2;cases e2;refine .inr ⟨?_,c,hc',hcell.keeps hk⟩;exact u0 (env:=X.env) hfree
 ·obtain⟨v,q⟩:=I.cell x c (p1 x c e);exact⟨v,q.keeps hk⟩
 ·show(st0 T js σ).length=(T++F).length;unfold st0;rw[zLa,zLa,List.length_replicate,zLm,(Paired.length hjs)]
def Hg{N':List Str}{σ':St}(I:Inv X pn σ H s)(J:Inv (x5 X N' scope cl C fp s H) [] σ' H' s')(hf:∀ b∈fp,FpOk X pn H b):Inv X pn σ H' s' :=
 I.call' (ch:=fp) (show s'.os=s.os from J.os) J.base J.hok J.bare λb hb=>⟨(hf b hb).2.2.2.1,(hf b hb).2.1,(hf b hb).2.2.2.2.1,(hf b hb).2.2.2.2.2⟩
end
section
variable{prog:Program}{R:Result->Shared->Prop}
def P9{elt target iter:Expr}{ifs:List Expr}{scope:Scope}{pos:Pos}{it acc:Value}{env:Env}(I:Nat->Shared->Prop)(turn:∀ n s,I n s->wpAny (model prog w) A (pyNext it) (λr s₁=>match r with
   |none=>R (.ok .next) s₁
   | some v=>wpAny (model prog w) A (letOwnedTupleGo target it v) (λ_ s₂=>wpAny (model prog w) A (assign target env v) (λ_ s₃ =>
     wpAny (model prog w) A (forIn ifs true λc r=>if r=true then do let ok <- isTrue c env (eval c env);pure (ForInStep.yield ok) else pure (ForInStep.yield r)) (λok s₄ =>
      if ok=true then wpAny (model prog w) A (eval elt env) (λx s₅=>wpAny (model prog w) A (call (.builtin "list.append") [acc,x]) (λ_ s₆=>∃ m,m<n/\I m s₆) (λ_ _=>False) s₅) (λ_ _=>False) s₄
      else ∃ m,m<n/\I m s₄) (λ_ _=>False) s₃) (λ_ _=>False) s₂) (λ_ _=>False) s₁) (λ_ _=>False) s)(n:Nat)(h:I n s):codeAny (model prog w) A (.compLoop (.ListComp elt [⟨target,iter,ifs,0⟩] scope pos) 0 it acc env) R s:=by
 refine codeAny_loop rfl I (λn s hI=>?_) n h;show wpAny _ A ((compTurn (.ListComp elt [⟨target,iter,ifs,0⟩] scope pos) 0 it acc env).onRaise (λx=>do noteFrame x env;theTreesLotGoes x)) _ _ s
 refine wpAny_noted (wpAny_noRaise ?_);rw[compTurn_list];refine zaa (wpAny_standAt (zaa (thn (turn n s hI) λr s₁ h₁=>?_)));cases r with
 |none=>exact zab h₁
 |some v =>
  refine zaa (thn h₁ λ_ s₂ h₂=>zaa (thn h₂ λ_ s₃ h₃=>zaa (thn h₃ λok s₄ h₄=>?_)));cases ok with
  |false=>exact zab ⟨rfl,h₄⟩
  |true=>exact zaa (zaa (thn h₄ λx s₅ h₅=>zaa (thn h₅ λ_ s₆ h₆=>zab (zab ⟨rfl,h₆⟩))))
end
def PIf(X:Cx)(ifs:List Expr)(t:TT):Prop :=
 ∀(pn:List (Addr×Obj))(s:Shared)(σ:St)(H:Hp)(Q:Bool->Hp->Prop),Inv X pn σ H s->t σ H Q ->
  wpAny (model X.prog X.w) X.A (forIn ifs true λc r=>if r=true then do let ok <- isTrue c X.env (eval c X.env);pure (ForInStep.yield ok) else pure (ForInStep.yield r)) (TP X pn σ Q) X.xe s
def tYes:TT:=λ_ H Q=>Q true H
def Dp{X:Cx}:PIf X [] tYes:=λ_ _ _ H _ I h=>wpAny_tests_nil ⟨H,I,h⟩
def Do{X:Cx}{c:Expr}{tc:TT}(h:PT X c tc):PIf X [c] tc:=λpn s σ H Q I q=>wpAny_tests_one (h pn s σ H Q I q)
def wj(n:Nat)(σ σ':St):Prop:=σ'.length=σ.length/\∀i,n<=i->σ'[i]?=σ[i]?
def wj.refl(n:Nat)(σ:St):wj n σ σ:=⟨rfl,λ_ _=>rfl⟩
def wj.trans{n:Nat}{a b c:St}(x:wj n a b)(y:wj n b c):wj n a c:=⟨y.1.trans x.1,λi h=>(y.2 i h).trans (x.2 i h)⟩
def wj.set{n i:Nat}{σ:St}{v:V}(h:i<n):wj n σ (σ.set i (some v)):=⟨by simp,λj hj=>by rw[List.getElem?_set_ne (by omega)]⟩
def Z4(n:Nat)(g:TG):Prop:=∀v σ H Q,g v σ H Q->g v σ H λσ' H'=>Q σ' H'/\wj n σ σ'
def Q4(n:Nat)(g:TGs):Prop:=∀vs σ H Q,g vs σ H Q->g vs σ H λσ' H'=>Q σ' H'/\wj n σ σ'
def zw{n i:Nat}(h:i<n):Z4 n (k5 i):=λv σ H Q q=>⟨q,wj.set h⟩
def ul{n:Nat}:Q4 n gNil:=λvs σ H Q q=>⟨q.1,q.2,wj.refl n σ⟩
def ym{n:Nat}{t:TG}{u:TGs}(mono:∀ v σ H Q Q',(∀ σ' H',Q σ' H'->Q' σ' H')->t v σ H Q->t v σ H Q')(monos:∀ v σ H Q Q',(∀ σ' H',Q σ' H'->Q' σ' H')->u v σ H Q->u v σ H Q')(h1:Z4 n t)(h2:Q4 n u):Q4 n (bw t u):=λvs σ H Q q=>by
 obtain⟨v,r,e,q⟩:=q;refine⟨v,r,e,mono _ _ _ _ _ (λσ' H' z=>?_) (h1 v σ H _ q)⟩;exact monos _ _ _ _ _ (λσ2 H2 y=>⟨y.1,z.2.trans y.2⟩) (h2 r σ' H' Q z.1)
def uk{K:W.Frag}{n k:Nat}{t:TGs}(h:Q4 n t):Z4 n (gTup K k t):=λv σ H Q q=>by
 obtain⟨a,xs,e,hq,hl,q⟩:=q;exact⟨a,xs,e,hq,hl,h xs σ H Q q⟩
def y9{i:Nat}:∀v σ H (Q Q':St->Hp->Prop),(∀σ' H',Q σ' H'->Q' σ' H')->k5 i v σ H Q->k5 i v σ H Q':=λ_ _ _ _ _ f q=>f _ _ q
def xc:∀v σ H (Q Q':St->Hp->Prop),(∀σ' H',Q σ' H'->Q' σ' H')->gNil v σ H Q->gNil v σ H Q':=λ_ _ _ _ _ f q=>⟨q.1,f _ _ q.2⟩
def xo{t:TG}{u:TGs}(mono:∀ v σ H Q Q',(∀ σ' H',Q σ' H'->Q' σ' H')->t v σ H Q->t v σ H Q')(monos:∀ v σ H Q Q',(∀ σ' H',Q σ' H'->Q' σ' H')->u v σ H Q->u v σ H Q') :
  ∀v σ H (Q Q':St->Hp->Prop),(∀σ' H',Q σ' H'->Q' σ' H')->bw t u v σ H Q->bw t u v σ H Q':=λvs σ H Q Q' f q=>by
 obtain⟨v,r,e,q⟩:=q;exact⟨v,r,e,mono _ _ _ _ _ (λσ' H' z=>monos _ _ _ _ _ f z) q⟩
def A8(J:It)(g:TG)(tc:TT)(te:TE)(σ0:St)(D:Addr)(Z:Hp->Prop)(H:Hp):Prop :=
 ∃W:Nat->Nat->List V->Hp->Prop,(∃m,W 0 m [] H)/\∀i m ys H,W i m ys H->H D=some (.lst ys)/\((J.stop i H/\Z H)\/(J.go i H/\∃N:List V->Hp->Prop,(∀zs H',N zs H'->∃m',m'<m/\W (i+1) m' zs H')/\∀x H',J.yld i H x H' ->
  g x σ0 H' λσ2 H2=>tc σ2 H2 λb H3=>if b=true then te σ2 H3 λy H4=>H4 D=some (.lst ys)/\ys.length<sizeLine/\N (ys++[y]) (upd H4 D (.lst (ys++[y]))) else N ys H3))
def Ob(wi:TI)(T:List Str)(js:List Nat)(g:TG)(tc:TT)(te:TE):TE:=λσ H Q=>wi σ H λJ H1=>∀D,H1 D=none->A8 J g tc te (st0 T js σ) D (Q (.ref D)) (upd H1 D (.lst []))
section
variable{H2:Hp}{s2:Shared}{scope:Scope}{T F:List Str}{cl:List (Str×Addr)}{fp:List Addr}{js:List Nat}{iter elt:Expr}{ifs:List Expr}{g:TG}{tc:TT}{te:TE}{J:It}{it:Addr}{tn:Nat->Heap->Prop}{RR:Value->Addr->Result->Shared->Prop}
def Zw(hc:X.calm=true)(S:zm X.env.scope scope T F)(hjs:Paired (λx j=>X.N[j]?=some x) F js)(hg:∀ cl C fp s H,PG (x5 X (T++F) scope cl C fp s H) tg g)(hk:Z4 T.length g)(ht:∀ cl C fp s H,PIf (x5 X (T++F) scope cl C fp s H) ifs tc)(he:∀ cl C fp s H,PE (x5 X (T++F) scope cl C fp s H) elt te)(p1:∀ x c,cl.lookup x=some c->X.env.cells.lookup x=some c)(p2:∀ y∈scope.names,y.2=.free->∃ c,cl.lookup y.1=some c)(I2:Inv X pn σ H2 s2)(Tn:Turn X.prog X.w X.K tg J fp it tn)(st2:tn 0 s2.heap)(f2:∀ b∈fp,FpOk X pn H2 b)(Z:Addr->Hp->Prop)(loop:∀ D,H2 D=none->A8 J g tc te (st0 T js σ) D (Z D) (upd H2 D (.lst [])))(hRR:∀ D C H' s' m',s'.heap.Ns C m'->FpOk X pn H' C->Inv X pn σ H' s'->Z D H'->RR (.ref D) C (.ok .next) s') :
  wpAny (model X.prog X.w) X.A (newList []) (λacc s₃=>wpAny (model X.prog X.w) X.A (newFunctionEnv scope X.env.globals cl [] X.env.qual none .none (some X.env)) (λcenv s₄ =>
   codeAny (model X.prog X.w) X.A (.compStart (.ListComp elt [⟨tg,iter,ifs,0⟩] scope pos) 0 (.ref it) acc {cenv with scope:=relabel scope X.env}) (RR acc cenv.locals) s₄) E s₃) E s2:=by
 refine wpAny_newObj_type (wpAny_newFunctionEnv S.nocell (by intro y hy;cases hy) (λh₁ hns hsb=>?_) S.kind)
 dsimp only at hns hsb ⊢
 have I3:Inv X pn σ (upd H2 s2.heap.objs.size (.lst [])) {s2 with heap:=s2.heap.push {cls:=.type "list",data:=.seq ([]:List Value).toArray}}:=I2.lnew (its:=[]) (t':=s2.toks) .nil (Nat.zero_le _);have hobj:∀b∈fp,b<s2.heap.objs.size:=λb hb=>by
  obtain⟨o,e,_⟩:=Tn.obj _ _ st2 b hb;exact zae e
 have f3:∀b∈fp,FpOk X pn (upd H2 s2.heap.objs.size (.lst [])) b:=λb hb=>⟨by rw[zy (Nat.ne_of_lt (hobj b hb))];exact(f2 b hb).1,(f2 b hb).2⟩
 obtain⟨W,⟨m0,w0⟩,turn⟩:=loop s2.heap.objs.size I2.fresh;generalize hs3:({s2 with heap:=s2.heap.push {cls:=.type "list",data:=.seq ([]:List Value).toArray}}:Shared)=s3 at I3;have e3:s2.heap.push {cls:=.type "list",dict:=none,data:=.seq ([]:List Value).toArray}=s3.heap:=by rw[<- hs3]
 rw[e3]at hns hsb ⊢;have sz3:s3.heap.objs.size=s2.heap.objs.size+1:=by rw[<- e3,Heap.size_push]
 have hold:∀b o,s3.heap.get? b=some o->h₁.get? b=some o:=λb o e=>hsb.extBut b o (Nat.ne_of_lt (zae e)) (zac _ e);have hobj3:∀b∈fp,b<s3.heap.objs.size:=λb hb=>by rw[sz3];exact Nat.lt_succ_of_lt (hobj b hb)
 have J0:Inv (x5 X (T++F) scope cl s3.heap.objs.size fp s3 (upd H2 s2.heap.objs.size (.lst []))) [] (st0 T js σ) (upd H2 s2.heap.objs.size (.lst [])) {s3 with heap:=h₁,toks:=s2.toks+([]:List (Str×Value)).length} :=
  Hf I3 S p1 p2 hjs (zaj _) f3 hobj3 hns hold
 have stL:tn 0 h₁:=Tn.keep _ _ _ st2 λb _ o e=>hold b o (by rw[<- e3];exact zac _ e)
 have es:({s2 with heap:=h₁,toks:=s2.toks+([]:List (Str×Value)).length}:Shared)={s3 with heap:=h₁,toks:=s2.toks+([]:List (Str×Value)).length}:=by rw[<- hs3]
 have main:codeAny (model X.prog X.w) X.A (.compLoop (.ListComp elt [⟨tg,iter,ifs,0⟩] scope pos) 0 (.ref it) (.ref s2.heap.objs.size) (compEnvC scope cl s3.heap.objs.size X.env)) (RR (.ref s2.heap.objs.size) s3.heap.objs.size)
   {s3 with heap:=h₁,toks:=s2.toks+([]:List (Str×Value)).length}:=by
  have stat:∀{H':Hp},(∀b∈fp,H' b=none)->∀b∈fp,FpOk (x5 X (T++F) scope cl s3.heap.objs.size fp s3 (upd H2 s2.heap.objs.size (.lst []))) [] H' b:=λhn b hb =>
   ⟨hn b hb,Nat.ne_of_lt (hobj3 b hb),J0.ok.exfs b hb,.inl hb,(J0.ok.exf b hb).2,λp hp=>(by cases hp)⟩
  refine P9 (λn s'=>∃i ys H',Inv (x5 X (T++F) scope cl s3.heap.objs.size fp s3 (upd H2 s2.heap.objs.size (.lst []))) [] (st0 T js σ) H' s'/\tn i s'.heap/\(∀b∈fp,H' b=none)/\W i n ys H') ?_ m0
   ⟨0,[],_,J0,stL,λb hb=>(f3 b hb).1,w0⟩
  rintro n s4 ⟨i,ys,H4,I4,st4,fr4,w4⟩;obtain⟨hD,alt⟩:=turn i n ys H4 w4;rcases alt with⟨stop,z⟩|⟨go,N,hN,step⟩
  ·refine thn (Tn.done (x5 X (T++F) scope cl s3.heap.objs.size fp s3 (upd H2 s2.heap.objs.size (.lst []))) rfl rfl rfl hc i [] s4 _ H4 (λ_ _=>False) I4 (stat fr4) st4 stop) λr s5 ⟨hr,I5⟩=>?_;subst hr;obtain⟨m5,n5,_⟩:=I5.loc;have fC:FpOk X pn H4 s3.heap.objs.size:=I2.fpOk (by rw[sz3];exact Nat.le_succ _) I5.free
   exact hRR _ _ H4 s5 m5 n5 fC ((Hg I3 I5 f3)) z
  ·refine thn (Tn.item (x5 X (T++F) scope cl s3.heap.objs.size fp s3 (upd H2 s2.heap.objs.size (.lst []))) rfl rfl rfl hc i [] s4 _ H4 (λ_ _=>False) I4 (stat fr4) st4 go) λr s5 ⟨u,hr,h5⟩=>?_;subst hr;refine thn h5 λ_ s6 ⟨x,H6,I6,r6,y6,st6,fr6⟩=>?_;have I6':=I6.pinned (stat fr6) (Tn.obj _ _ st6);refine thn (hg _ _ _ _ _ _ s6 _ H6 x u _ I6' r6 (hk x _ H6 _ (step x H6 y6))) λ_ s7 ⟨σ7,H7,I7,q7,kp⟩=>?_;refine thn (ht _ _ _ _ _ _ s7 σ7 H7 _ I7 q7) λok s8 ⟨H8,I8,q8⟩=>?_;have again:∀{s9:Shared}{H9:Hp},Inv (x5 X (T++F) scope cl s3.heap.objs.size fp s3 (upd H2 s2.heap.objs.size (.lst []))) ([]++Wh fp s6.heap) σ7 H9 s9->∀{zs:List V},(∃m',m'<n/\W (i+1) m' zs H9) ->
     ∃m,m<n/\∃i ys H',Inv (x5 X (T++F) scope cl s3.heap.objs.size fp s3 (upd H2 s2.heap.objs.size (.lst []))) [] (st0 T js σ) H' s9/\tn i s9.heap/\(∀b∈fp,H' b=none)/\W i m ys H':=λ{s9 H9} I9 {zs} q9=>by
    obtain⟨m',hm,w9⟩:=q9;have I9':=I9.unpinned;refine⟨m',hm,i+1,zs,H9,I9'.weak kp.1.symm (λa v ea=>?_),Tn.keep _ _ _ st6 λb hb o e=>(I9.pin (b,o) (List.mem_append_right _ (List.mem_append_right _ (sj hb e)))).1,λb hb=>?_,w9⟩
    ·have ha:T.length<=a:=by
      rcases Nat.lt_or_ge a T.length with z|z
      ·exfalso;unfold st0 at ea;rw[List.getElem?_append_left (by simpa using z),List.getElem?_replicate]at ea
       split at ea <;> cases ea
      ·exact z
     rw[kp.2 a ha];exact ea
    ·obtain⟨o,e,d⟩:=Tn.obj _ _ st6 b hb;exact(I9.pin (b,o) (List.mem_append_right _ (List.mem_append_right _ (sj hb e)))).2.1
   cases ok with
   |false =>
    rw[if_neg Bool.false_ne_true]at q8 ⊢;exact again I8 (hN _ _ q8)
   |true =>
    rw[if_pos rfl]at q8 ⊢;refine thn (he _ _ _ _ _ _ s8 σ7 H8 _ I8 q8) λy s9 ⟨v9,H9,I9,r9,hD9,hl9,q9⟩=>?_;refine thn (tv _ s9 σ7 H9 (.ref s2.heap.objs.size) [v9] (.ref s2.heap.objs.size) [y] (λ_ H10=>H10=upd H9 s2.heap.objs.size (.lst (ys++[v9]))) I9 rfl (.cons r9 .nil) ⟨_,_,_,rfl,rfl,hD9,hl9,rfl⟩) λ_ s10 ⟨_,H10,I10,_,e10⟩=>?_;subst e10;exact again I10 (hN _ _ q9)
 show codeAny _ _ _ _ ({s2 with heap:=h₁,toks:=s2.toks+([]:List (Str×Value)).length}:Shared);rw[es];exact codeAny_compStart_list main (Tn.self _ 0 _ _ _ stL main)
def Uq{wi:TI}(hc:X.calm=true)(hi:PI X tg iter wi)(S:zm X.env.scope scope T F)(hjs:Paired (λx j=>X.N[j]?=some x) F js)(hg:∀ cl C fp s H,PG (x5 X (T++F) scope cl C fp s H) tg g)(hk:Z4 T.length g)(ht:∀ cl C fp s H,PIf (x5 X (T++F) scope cl C fp s H) ifs tc)(he:∀ cl C fp s H,PE (x5 X (T++F) scope cl C fp s H) elt te)(hs:∀ x,foldedSetIterable iter X.env x=pure x:=by intro _;rfl):PE X (.ListComp elt [⟨tg,iter,ifs,0⟩] scope pos) (Ob wi T js g tc te):=by
 intro pn s σ H Q I h;obtain⟨cl,hcl,p1,p2⟩:=Zx (b5 I S);rw[eval_ListComp];refine wpAny_comprehension_free (use:=none) rfl hs hcl S.kind S.loc (thn (hi pn s σ H _ I h) λv s1 h1=>thn h1 λitv s2 h2=>?_);obtain⟨it,fp,tn,J,H2,e,I2,Tn,st2,f2,loop⟩:=h2;subst e;refine Zw (RR:=λacc C=>compPost (model X.prog X.w) X.A X.xe none (EP X pn σ Q) acc C) hc S hjs hg hk ht he p1 p2 I2 Tn st2 f2 (λD H'=>Q (.ref D) H') loop ?_;intro D C H' s' m' hn fC I' z;obtain⟨f0,f1,f2,f3,f4,f5⟩:=fC;exact⟨m',hn,λh' sb=>⟨.ref D,H',I'.turned (t':=s'.toks) (λb o hb e=>(sb.2 b hb).trans e) f0 f1 f3 f4 f5,rfl,z⟩⟩
def Qb{wi:TI}{i:Nat}{y:Str}{py spos:Pos}(hc:X.calm=true)(hN:X.N.Nodup)(hy:X.N[i]?=some y)(hl:X.env.scope.names.lookup y=some .local\/X.env.scope.names.lookup y=some .cell)(hi:PI X tg iter wi)(S:zm X.env.scope scope T F)(hjs:Paired (λx j=>X.N[j]?=some x) F js)(hg:∀ cl C fp s H,PG (x5 X (T++F) scope cl C fp s H) tg g)(hk:Z4 T.length g)(ht:∀ cl C fp s H,PIf (x5 X (T++F) scope cl C fp s H) ifs tc)(he:∀ cl C fp s H,PE (x5 X (T++F) scope cl C fp s H) elt te)(hsw:swapsWith (.ListComp elt [⟨tg,iter,ifs,0⟩] scope pos) (some (.Name y py)) spos.line X.env=pure true:=by rfl)(hs:∀ x,foldedSetIterable iter X.env x=pure x:=by intro _;rfl)(hfn:X.fn y=true\/X.env.scope.names.lookup y=some .local:=by first|exact .inl rfl|exact .inr rfl|assumption) :
  PS X (.Assign [.Name y py] (.ListComp elt [⟨tg,iter,ifs,0⟩] scope pos) spos) (λD σ H=>Ob wi T js g tc te σ H λv H1=>D.nx (σ.set i (some v)) H1):=by
 intro pn s σ H D I h;obtain⟨cl,hcl,p1,p2⟩:=Zx (b5 I S);rw[exec_Assign_Name_used _ _ _ _ hsw];refine zaa (wpAny_standAt (zaa ?_));show wpAny _ X.A (do let _ <- comprehension (.ListComp elt [⟨tg,iter,ifs,0⟩] scope pos) scope X.env _ (newList []) false (eval iter X.env) (some (assign (.Name y py) X.env))) _ _ s
 refine zaa (thn (wpAny_comprehension_free (use:=some (assign (.Name y py) X.env)) (Q:=λ_ s'=>SP X pn D .next s') rfl hs hcl S.kind S.loc (thn (hi pn s σ H _ I h) λv s1 h1=>thn h1 λitv s2 h2=>?_)) λ_ s' hq=>zab (zab hq));obtain⟨it,fp,tn,J,H2,e,I2,Tn,st2,f2,loop⟩:=h2;subst e;refine Zw (RR:=λacc C=>compPost (model X.prog X.w) X.A X.xe (some (assign (.Name y py) X.env)) (λ_ s'=>SP X pn D .next s') acc C) hc S hjs hg hk ht he p1 p2 I2 Tn st2 f2 (λD0 H'=>D.nx (σ.set i (some (.ref D0))) H') loop ?_;intro D0 C H' s' m' hn fC I' z;obtain⟨f0,f1,f2,f3,f4,f5⟩:=fC;show wpAny _ X.A (assign (.Name y py) X.env (.ref D0)) _ _ s';refine wpAny_assign_Name (Wb (v:=.ref D0) I' hN hy hl rfl (λs'' I'' ch=>?_) hfn);obtain⟨a,sb,ha⟩:=ch;have hCa:C≠a:=by
  rcases ha with rfl|ha
  ·exact f1
  ·exact λz=>f4 y a ha z.symm
 exact⟨m',hn.sameBut sb hCa,λh' sb'=>⟨_,H',I''.turned (t':=s''.toks) (λb o hb e=>(sb'.2 b hb).trans e) f0 f1 f3 f4 f5,z⟩⟩
end
def Itv(n:Nat)(val:Nat->V->Prop):It:=⟨λi _=>i<n,λi H x H'=>H'=H/\val i x,λi _=>i=n⟩
def Bt(x:Str)(i:Nat)(v:V):Prop:=∃c,x.cps[i]?=some c/\v=.str ⟨#[c]⟩
def Kl{P:Program}{w:World}{K:W.Frag}{tg:Expr}{it:Addr}{x:Str}{t:Tok}{T:String}(W:∀ A:Around,A.handled=none->Walks P w A it [it] [it] x.cps.size (SignAt x) (λi h=>h.IsStrIter it T x t i))(hs:∀ (A:Around) (i:Nat) (s:Shared) (Q:Value->Shared->Prop) (E:Value->Shared->Prop),s.heap.IsStrIter it T x t i->Q (.ref it) s->wpAny (model P w) A (pyIter (.ref it)) Q E s)(hT:["enumerate","zip","dict_itemiterator","dict_reverseitemiterator","odict_iterator","itertools.zip_longest","itertools.pairwise"].contains T=false) :
  Turn P w K tg (Itv x.cps.size (Bt x)) [it] it (λi h=>h.IsStrIter it T x t i) where
 mem:=by simp
 obj:=λi h st b hb=>by
  have e:b=it:=by simpa using hb
  subst e;obtain⟨o,e,c,d⟩:=st;exact⟨o,e,λv z=>by rw[d]at z;cases z⟩
 keep:=λi h h' st k=>let ⟨o,e,r⟩:=st;⟨o,k it (by simp) o e,r⟩
 item:=by
  intro X hP hw hK hc i pn s σ H E I hf st hg;subst hP hw hK;obtain⟨f0,f1,f2,f3,f4,f5⟩:=hf it (by simp)
  refine(W X.A (I.ok.hd hc)).item i s _ _ hg st λv h' tk hv st' kk=>?_;obtain⟨c,u,hx,rfl⟩:=hv;have I1:Inv X pn σ H {s with heap:=h',toks:=tk}:=I.turned (λb o hb e=>kk b o (by simpa using hb) e) f0 f1 f3 f4 f5
  obtain⟨o,e,c',d⟩:=id st';exact⟨_,rfl,Hk (s:={s with heap:=h',toks:=tk}) e c' d hT ⟨.str ⟨#[c]⟩,H,I1,⟨u,rfl⟩,⟨rfl,c,hx,rfl⟩,st',λb hb=>(hf b hb).1⟩⟩
 done:=by
  intro X hP hw hK hc i pn s σ H E I hf st hg;subst hP hw hK;obtain⟨f0,f1,f2,f3,f4,f5⟩:=hf it (by simp)
  have e:i=x.cps.size:=hg;subst e;exact(W X.A (I.ok.hd hc)).done s _ _ st λh' tk kk=>⟨rfl,I.turned (λb o hb e=>kk b o (by simpa using hb) e) f0 f1 f3 f4 f5⟩
 self:=λA i s Q E st h=>hs A i s Q E st h
def jw:V->Option Bool
 |.bl b=>some b
 |.int i=>some (i != 0)
 |.non=>some false
 |_=>none
def jx(ys:List V)(d:Bool)(i:Nat):Bool:=((ys[i]?).bind jw).getD d
def U9(ys:List V)(h:∀ y∈ys,(jw y).isSome=true):(List.range ys.length).all (jx ys true)=ys.all λy=>jw y==some true:=by
 rw[Bool.eq_iff_iff,List.all_eq_true,List.all_eq_true];constructor
 ·intro q y hy;obtain⟨i,hi,e⟩:=List.getElem_of_mem hy;have z:=q i (List.mem_range.mpr hi);unfold jx at z;rw[zaf hi,Option.bind_some,e]at z;obtain⟨b,hb⟩:=Option.isSome_iff_exists.mp (h y hy);rw[hb]at z ⊢;simpa using z
 ·intro q i hi;have hi':=List.mem_range.mp hi;have z:=q _ (List.getElem_mem hi');unfold jx;rw[zaf hi',Option.bind_some,eq_of_beq z];rfl
def U8(ys:List V)(h:∀ y∈ys,(jw y).isSome=true):(List.range ys.length).any (jx ys false)=ys.any λy=>jw y==some true:=by
 rw[Bool.eq_iff_iff,List.any_eq_true,List.any_eq_true];constructor
 ·rintro⟨i,hi,z⟩;have hi':=List.mem_range.mp hi;refine⟨_,List.getElem_mem hi',?_⟩;unfold jx at z;rw[zaf hi',Option.bind_some]at z;obtain⟨b,hb⟩:=Option.isSome_iff_exists.mp (h _ (List.getElem_mem hi'));rw[hb]at z ⊢;simpa using z
 ·rintro⟨y,hy,z⟩;obtain⟨i,hi,e⟩:=List.getElem_of_mem hy;refine⟨i,List.mem_range.mpr hi,?_⟩;unfold jx;rw[zaf hi,Option.bind_some,e,eq_of_beq z];rfl
def gh{P:Program}{w:World}{A:Around}{ys:List V}{its:List Value}(d:Bool)(r:Vals ys its)(h:∀ y∈ys,(jw y).isSome=true):TruthOf P w A (λi v=>its.toArray[i]?=some v) (jx ys d):=by
 intro i v s Q E hP hQ;obtain⟨y,hy,ry⟩:=ja r (show its[i]?=some v by simpa using hP)
 unfold jx at hQ;rw[hy,Option.bind_some]at hQ;have hs:=h y (zan hy);cases y with
 |bl b=>cases ry;exact wpAny_truthy_bool hQ
 |int k=>obtain⟨t,rfl⟩:=ry;exact PySem.P.truthy_int hQ
 |non=>cases ry;exact truthy_none hQ
 |_=>cases hs
def qx{s:Shared}{h':Heap}{o:Obj}(hk:∀ b x,b∉[s.heap.objs.size]->(s.heap.push o).get? b=some x->h'.get? b=some x):∀b x,s.heap.get? b=some x->h'.get? b=some x :=
 λb x e=>hk b x (by simpa using Nat.ne_of_lt (zae e)) (zac _ e)
def rAll(K:W.Frag)(f:List V->Bool):List V->Hp->VK->Prop:=λxs H Q=>∃p ys,xs=[.ref p]/\(SqL K H p ys\/SqT K H p ys)/\(∀y∈ys,(jw y).isSome=true)/\Q (.bl (f ys)) H
def Vz(hc:X.calm=true):vt X (.builtin "all") (rAll X.K λys=>ys.all λy=>jw y==some true):=by
 intro pn s σ H xs us Q I r h;obtain⟨p,ys,rfl,hq,ht,q⟩:=h;obtain⟨u,rfl,rx⟩:=uy r;cases rx;rcases hq with hq|hq
 ·obtain⟨its,rv,pl,hz⟩:=I.list hq;have hlt:p<s.heap.objs.size:=by obtain⟨_,e,_⟩:=pl.isList;exact zae e
  refine call_all_walk (wpAny_pyIter_list pl.isList ⟨s.heap.objs.size,[s.heap.objs.size,p],[s.heap.objs.size],its.toArray.size,_,_,jx ys true,rfl,Walks.list (A:=X.A.in1) (I.ok.hd hc) _ p (Nat.ne_of_lt hlt) its.toArray,
   ⟨⟨_,zad _ rfl,rfl,rfl⟩,pl.isList.push _⟩,gh true rv ht,λh' tk hk=>?_⟩)
  rw[zap,<- rv.length,U9 ys ht];exact⟨.bl _,H,I.kept (qx hk),rfl,q⟩
 ·obtain⟨its,rv,pl,hz⟩:=I.tuple hq;have hlt:p<s.heap.objs.size:=by obtain⟨_,e,_⟩:=pl;exact zae e
  have pl':s.heap.IsTuple p its.toArray:=pl;refine call_all_walk (wpAny_pyIter_tuple pl' ⟨s.heap.objs.size,[s.heap.objs.size,p],[s.heap.objs.size],its.toArray.size,_,_,jx ys true,rfl,Walks.tuple (A:=X.A.in1) (I.ok.hd hc) _ p (Nat.ne_of_lt hlt) its.toArray,
   ⟨⟨_,zad _ rfl,rfl,rfl⟩,pl'.at λo e=>zac _ e⟩,gh true rv ht,λh' tk hk=>?_⟩)
  rw[zap,<- rv.length,U9 ys ht];exact⟨.bl _,H,I.kept (qx hk),rfl,q⟩
def Vy(hc:X.calm=true):vt X (.builtin "any") (rAll X.K λys=>ys.any λy=>jw y==some true):=by
 intro pn s σ H xs us Q I r h;obtain⟨p,ys,rfl,hq,ht,q⟩:=h;obtain⟨u,rfl,rx⟩:=uy r;cases rx;rcases hq with hq|hq
 ·obtain⟨its,rv,pl,hz⟩:=I.list hq;have hlt:p<s.heap.objs.size:=by obtain⟨_,e,_⟩:=pl.isList;exact zae e
  refine call_any_walk (wpAny_pyIter_list pl.isList ⟨s.heap.objs.size,[s.heap.objs.size,p],[s.heap.objs.size],its.toArray.size,_,_,jx ys false,rfl,Walks.list (A:=X.A.in1) (I.ok.hd hc) _ p (Nat.ne_of_lt hlt) its.toArray,
   ⟨⟨_,zad _ rfl,rfl,rfl⟩,pl.isList.push _⟩,gh false rv ht,λh' tk hk=>?_⟩)
  rw[zap,<- rv.length,U8 ys ht];exact⟨.bl _,H,I.kept (qx hk),rfl,q⟩
 ·obtain⟨its,rv,pl,hz⟩:=I.tuple hq;have hlt:p<s.heap.objs.size:=by obtain⟨_,e,_⟩:=pl;exact zae e
  have pl':s.heap.IsTuple p its.toArray:=pl;refine call_any_walk (wpAny_pyIter_tuple pl' ⟨s.heap.objs.size,[s.heap.objs.size,p],[s.heap.objs.size],its.toArray.size,_,_,jx ys false,rfl,Walks.tuple (A:=X.A.in1) (I.ok.hd hc) _ p (Nat.ne_of_lt hlt) its.toArray,
   ⟨⟨_,zad _ rfl,rfl,rfl⟩,pl'.at λo e=>zac _ e⟩,gh false rv ht,λh' tk hk=>?_⟩)
  rw[zap,<- rv.length,U8 ys ht];exact⟨.bl _,H,I.kept (qx hk),rfl,q⟩
theorem nd1(t:Str):([t]++[]).Nodup:=by simp
inductive Cst where
 |int (i:Int)|str (x:Str)|tup (cs:List Cst)
mutual
def CRep(K:W.Frag):Cst->V->Prop
 |.int i,v=>v=.int i
 |.str x,v=>v=.str x
 |.tup cs,v=>∃(a:Addr)(o:Obj)(its:Array Value)(n:Nat)(xs:List V),v=.ref a/\K.lookup a=some o/\o.cls=.type "tuple"/\o.data=.seq its n/\its.size<=sizeLine/\Vals xs its.toList/\Uc K cs xs
def Uc(K:W.Frag):List Cst->List V->Prop
 |[],xs=>xs=[]
 |c::cs,xs=>∃v r,xs=v::r/\CRep K c v/\Uc K cs r
end
inductive D where
 |non|bl (b:Bool)|int (i:Int)|str (x:Str)|ty (n:String)
 |tup (ds:List D)|lst (ds:List D)|dk (ks:List Key) (ds:List D)
  |scr (ns:List Int)
   |fd (m:Int)
  |cn (c:Cst)
 def Scr (K:W.Frag) (H:Hp) (a:Addr) (ns:List Int):Prop :=
 (∃o,H a=some (.frz o (.lst (ns.map V.int)))) \/
  ∃(o:Obj)(its:Array Value)(n:Nat),K.lookup a=some o/\o.cls=.type "list"/\o.dict=none/\o.data=.seq its n/\its.size<=sizeLine/\Vals (ns.map V.int) its.toList
def Scr.seq{K:W.Frag}{H:Hp}{a:Addr}{ns:List Int}(h:Scr K H a ns):SqL K H a (ns.map V.int):=by
 rcases h with⟨o,h⟩|h
 ·exact .inl (.inr ⟨o,h⟩)
 ·exact .inr h
def SqR(K:W.Frag)(H:Hp)(a:Addr)(xs:List V):Prop:=SqT K H a xs/\H a=some (.tup xs)
def t6(a:Addr)(m:Int):HO:=.ext λh=>(0<=m/\∃(its:Array Value)(n:Nat),h.get? a=some {cls:=.type "list",dict:=none,data:=.seq its n,slots:=#[]}/\its.size<=1000/\(m<=0->1<=its.size)/\∀v∈its,∃(i:Int)(t:Tok),v=.int i t/\(0<m->0<=i/\i<m)) \/
 (m<0/\(a==sysModules)=false/\∃(o:Obj)(es:Array DictEntry)(ep:Nat),h.get? a=some o/\o.ExactDict/\o.data=.dict es ep/\(es.size:Int) =-m-1)
mutual
def Rep(K:W.Frag)(H:Hp)(O:List Addr):D->V->Prop
 |.non,v=>v=.non
 |.bl b,v=>v=.bl b
 |.int i,v=>v=.int i
 |.str x,v=>v=.str x
 |.ty n,v=>v=.ty n
 |.cn c,v=>CRep K c v
 |.tup ds,v=>∃a xs,v=.ref a/\SqR K H a xs/\Reps K H O ds xs
 |.lst ds,v=>∃a xs,v=.ref a/\H a=some (.lst xs)/\a∉O/\Reps K H O ds xs
 |.scr ns,v=>∃a,v=.ref a/\Scr K H a ns
 |.fd m,v=>∃a,v=.ref a/\H a=some (t6 a m)/\a∉O
 |.dk ks ds,v=>∃a xs,v=.ref a/\H a=some (.dK (ks.zip xs))/\a∉O/\ks.length=ds.length/\ks.Nodup/\Reps K H O ds xs
def Reps(K:W.Frag)(H:Hp)(O:List Addr):List D->List V->Prop
 |[],xs=>xs=[]
 |d::ds,xs=>∃v r,xs=v::r/\Rep K H O d v/\Reps K H O ds r
end
structure Grow(O O':List Addr)(H H':Hp):Prop where
 keep:∀b u,H b=some u->b∉O->H' b=some u/\b∉O'
 tups:∀b xs,H b=some (.tup xs)->H' b=some (.tup xs)
 frzs:∀b o u,H b=some (.frz o u)->H' b=some (.frz o u)
def Grow.same{O:List Addr}{H H':Hp}(s:Same H H'):Grow O O H H':=⟨λb u h n=>⟨s b u h,n⟩,λb xs h=>s b _ h,λb o u h=>s b _ h⟩
def Grow.refl{O:List Addr}{H:Hp}:Grow O O H H:=Grow.same (Same.refl H)
def Grow.trans{O O' O'':List Addr}{H H' H'':Hp}(a:Grow O O' H H')(b:Grow O' O'' H' H''):Grow O O'' H H'' :=
 ⟨λc u h n=>let ⟨h',n'⟩:=a.keep c u h n;b.keep c u h' n',λc xs h=>b.tups c xs (a.tups c xs h),λc o u h=>b.frzs c o u (a.frzs c o u h)⟩
def Yd{K:W.Frag}{O O':List Addr}{H H':Hp}{a:Addr}{xs:List V}(g:Grow O O' H H')(h:SqT K H a xs):SqT K H' a xs:=by
 rcases h with(h|⟨o,h⟩)|h
 ·exact .inl (.inl (g.tups _ _ h))
 ·exact .inl (.inr ⟨o,g.frzs _ _ _ h⟩)
 ·exact .inr h
def Sd{K:W.Frag}{O O':List Addr}{H H':Hp}{a:Addr}{xs:List V}(g:Grow O O' H H')(h:SqR K H a xs):SqR K H' a xs:=⟨Yd g h.1,g.tups _ _ h.2⟩
def gl{K:W.Frag}{O O':List Addr}{H H':Hp}{a:Addr}{ns:List Int}(g:Grow O O' H H')(h:Scr K H a ns):Scr K H' a ns:=by
 rcases h with⟨o,h⟩|h
 ·exact .inl ⟨o,g.frzs _ _ _ h⟩
 ·exact .inr h
mutual
def Rep.grow{K:W.Frag}{O O':List Addr}{H H':Hp}(g:Grow O O' H H'):∀(d:D)(v:V),Rep K H O d v->Rep K H' O' d v
 |.non,_,h=>h
 |.bl _,_,h=>h
 |.int _,_,h=>h
 |.str _,_,h=>h
 |.ty _,_,h=>h
 |.cn _,_,h=>h
 |.tup ds,v,h=>by
  obtain⟨a,xs,e,q,r⟩:=h;exact⟨a,xs,e,Sd g q,Reps.grow g ds xs r⟩
 |.lst ds,v,h=>by
  obtain⟨a,xs,e,q,n,r⟩:=h;exact⟨a,xs,e,(g.keep _ _ q n).1,(g.keep _ _ q n).2,Reps.grow g ds xs r⟩
 |.scr ns,v,h=>by
  obtain⟨a,e,q⟩:=h;exact⟨a,e,gl g q⟩
 |.fd m,v,h=>by
  obtain⟨a,e,q,n⟩:=h;exact⟨a,e,(g.keep _ _ q n).1,(g.keep _ _ q n).2⟩
 |.dk ks ds,v,h=>by
  obtain⟨a,xs,e,q,n,l,nd,r⟩:=h;exact⟨a,xs,e,(g.keep _ _ q n).1,(g.keep _ _ q n).2,l,nd,Reps.grow g ds xs r⟩
def Reps.grow{K:W.Frag}{O O':List Addr}{H H':Hp}(g:Grow O O' H H'):∀(ds:List D)(xs:List V),Reps K H O ds xs->Reps K H' O' ds xs
 |[],_,h=>h
 |d::ds,xs,h=>by
  obtain⟨v,r,e,q,t⟩:=h;exact⟨v,r,e,Rep.grow g d v q,Reps.grow g ds r t⟩
end
mutual
def Rep.sub{K:W.Frag}{O O':List Addr}{H:Hp}(g:∀ a∈O',a∈O):∀(d:D)(v:V),Rep K H O d v->Rep K H O' d v
 |.non,_,h=>h
 |.bl _,_,h=>h
 |.int _,_,h=>h
 |.str _,_,h=>h
 |.ty _,_,h=>h
 |.cn _,_,h=>h
 |.tup ds,v,h=>by
  obtain⟨a,xs,e,q,r⟩:=h;exact⟨a,xs,e,q,Reps.sub g ds xs r⟩
 |.lst ds,v,h=>by
  obtain⟨a,xs,e,q,n,r⟩:=h;exact⟨a,xs,e,q,λz=>n (g a z),Reps.sub g ds xs r⟩
 |.scr _,_,h=>h
 |.fd _,_,h=>by
  obtain⟨a,e,q,n⟩:=h;exact⟨a,e,q,λz=>n (g a z)⟩
 |.dk ks ds,v,h=>by
  obtain⟨a,xs,e,q,n,l,nd,r⟩:=h;exact⟨a,xs,e,q,λz=>n (g a z),l,nd,Reps.sub g ds xs r⟩
def Reps.sub{K:W.Frag}{O O':List Addr}{H:Hp}(g:∀ a∈O',a∈O):∀(ds:List D)(xs:List V),Reps K H O ds xs->Reps K H O' ds xs
 |[],_,h=>h
 |d::ds,xs,h=>by
  obtain⟨v,r,e,q,t⟩:=h;exact⟨v,r,e,Rep.sub g d v q,Reps.sub g ds r t⟩
end
mutual
def sw:D->Prop
 |.tup ds=>ve ds
 |.lst _=>False
 |.dk _ _=>False
 |.scr _=>True
 |.fd _=>False
 |.non=>True
 |.bl _=>True
 |.int _=>True
 |.str _=>True
 |.ty _=>True
 |.cn _=>True
def ve:List D->Prop
 |[]=>True
 |d::ds=>sw d/\ve ds
end
def yi:∀{ds:List D},ve ds ↔ ∀d∈ds,sw d
 |[]=>by simp[ve]
 |d::ds=>by
  rw[ve,yi];simp
mutual
def Rep.pure{K:W.Frag}{O O':List Addr}{H:Hp}:∀(d:D)(v:V),sw d->Rep K H O d v->Rep K H O' d v
 |.non,_,_,h=>h
 |.bl _,_,_,h=>h
 |.int _,_,_,h=>h
 |.str _,_,_,h=>h
 |.ty _,_,_,h=>h
 |.cn _,_,_,h=>h
 |.tup ds,v,p,h=>by
  obtain⟨a,xs,e,q,r⟩:=h;exact⟨a,xs,e,q,Reps.pure ds xs p r⟩
 |.scr _,_,_,h=>h
 |.fd _,_,p,_=>p.elim
 |.lst ds,v,p,h=>p.elim
 |.dk ks ds,v,p,h=>p.elim
def Reps.pure{K:W.Frag}{O O':List Addr}{H:Hp}:∀(ds:List D)(xs:List V),ve ds->Reps K H O ds xs->Reps K H O' ds xs
 |[],_,_,h=>h
 |d::ds,xs,p,h=>by
  obtain⟨v,r,e,q,t⟩:=h;exact⟨v,r,e,Rep.pure d v p.1 q,Reps.pure ds r p.2 t⟩
end
mutual
def RepN(K:W.Frag)(H:Hp)(P:Addr->Prop):D->V->Prop
 |.non,v=>v=.non
 |.bl b,v=>v=.bl b
 |.int i,v=>v=.int i
 |.str x,v=>v=.str x
 |.ty n,v=>v=.ty n
 |.cn c,v=>CRep K c v
 |.tup ds,v=>∃a xs,v=.ref a/\SqR K H a xs/\x6 K H P ds xs
 |.lst ds,v=>∃a xs,v=.ref a/\H a=some (.lst xs)/\P a/\x6 K H P ds xs
 |.scr ns,v=>∃a,v=.ref a/\Scr K H a ns
 |.fd m,v=>∃a,v=.ref a/\H a=some (t6 a m)/\P a
 |.dk ks ds,v=>∃a xs,v=.ref a/\H a=some (.dK (ks.zip xs))/\P a/\ks.length=ds.length/\ks.Nodup/\x6 K H P ds xs
def x6(K:W.Frag)(H:Hp)(P:Addr->Prop):List D->List V->Prop
 |[],xs=>xs=[]
 |d::ds,xs=>∃v r,xs=v::r/\RepN K H P d v/\x6 K H P ds r
end
mutual
def RepN.to{K:W.Frag}{P P':Addr->Prop}{H H':Hp}(s:Same H H')(g:∀ a,P a->P' a):∀(d:D)(v:V),RepN K H P d v->RepN K H' P' d v
 |.non,_,h=>h
 |.bl _,_,h=>h
 |.int _,_,h=>h
 |.str _,_,h=>h
 |.ty _,_,h=>h
 |.cn _,_,h=>h
 |.tup ds,v,h=>by
  obtain⟨a,xs,e,q,r⟩:=h;exact⟨a,xs,e,Sd (Grow.same (O:=[]) s) q,x6.to s g ds xs r⟩
 |.lst ds,v,h=>by
  obtain⟨a,xs,e,q,n,r⟩:=h;exact⟨a,xs,e,s _ _ q,g a n,x6.to s g ds xs r⟩
 |.scr ns,v,h=>by
  obtain⟨a,e,q⟩:=h;exact⟨a,e,gl (Grow.same (O:=[]) s) q⟩
 |.fd m,v,h=>by
  obtain⟨a,e,q,n⟩:=h;exact⟨a,e,s _ _ q,g a n⟩
 |.dk ks ds,v,h=>by
  obtain⟨a,xs,e,q,n,l,nd,r⟩:=h;exact⟨a,xs,e,s _ _ q,g a n,l,nd,x6.to s g ds xs r⟩
def x6.to{K:W.Frag}{P P':Addr->Prop}{H H':Hp}(s:Same H H')(g:∀ a,P a->P' a):∀(ds:List D)(xs:List V),x6 K H P ds xs->x6 K H' P' ds xs
 |[],_,h=>h
 |d::ds,xs,h=>by
  obtain⟨v,r,e,q,t⟩:=h;exact⟨v,r,e,RepN.to s g d v q,x6.to s g ds r t⟩
end
mutual
def RepN.rep{K:W.Frag}{P:Addr->Prop}{H:Hp}{O:List Addr}(g:∀ a,P a->a∉O):∀(d:D)(v:V),RepN K H P d v->Rep K H O d v
 |.non,_,h=>h
 |.bl _,_,h=>h
 |.int _,_,h=>h
 |.str _,_,h=>h
 |.ty _,_,h=>h
 |.cn _,_,h=>h
 |.tup ds,v,h=>by
  obtain⟨a,xs,e,q,r⟩:=h;exact⟨a,xs,e,q,x6.reps g ds xs r⟩
 |.lst ds,v,h=>by
  obtain⟨a,xs,e,q,n,r⟩:=h;exact⟨a,xs,e,q,g a n,x6.reps g ds xs r⟩
 |.scr _,_,h=>h
 |.fd m,v,h=>by
  obtain⟨a,e,q,n⟩:=h;exact⟨a,e,q,g a n⟩
 |.dk ks ds,v,h=>by
  obtain⟨a,xs,e,q,n,l,nd,r⟩:=h;exact⟨a,xs,e,q,g a n,l,nd,x6.reps g ds xs r⟩
def x6.reps{K:W.Frag}{P:Addr->Prop}{H:Hp}{O:List Addr}(g:∀ a,P a->a∉O):∀(ds:List D)(xs:List V),x6 K H P ds xs->Reps K H O ds xs
 |[],_,h=>h
 |d::ds,xs,h=>by
  obtain⟨v,r,e,q,t⟩:=h;exact⟨v,r,e,RepN.rep g d v q,x6.reps g ds r t⟩
end
mutual
def Rep.toN{K:W.Frag}{P:Addr->Prop}{O:List Addr}{H:Hp}:∀(d:D)(v:V),sw d->Rep K H O d v->RepN K H P d v
 |.non,_,_,h=>h
 |.bl _,_,_,h=>h
 |.int _,_,_,h=>h
 |.str _,_,_,h=>h
 |.ty _,_,_,h=>h
 |.cn _,_,_,h=>h
 |.tup ds,v,p,h=>by
  obtain⟨a,xs,e,q,r⟩:=h;exact⟨a,xs,e,q,Reps.toN ds xs p r⟩
 |.scr _,_,_,h=>h
 |.fd _,_,p,_=>p.elim
 |.lst ds,v,p,h=>p.elim
 |.dk ks ds,v,p,h=>p.elim
def Reps.toN{K:W.Frag}{P:Addr->Prop}{O:List Addr}{H:Hp}:∀(ds:List D)(xs:List V),ve ds->Reps K H O ds xs->x6 K H P ds xs
 |[],_,_,h=>h
 |d::ds,xs,p,h=>by
  obtain⟨v,r,e,q,t⟩:=h;exact⟨v,r,e,Rep.toN d v p.1 q,Reps.toN ds r p.2 t⟩
end
def x6.append{K:W.Frag}{P:Addr->Prop}{H:Hp}:∀{ds es:List D}{xs ys:List V},x6 K H P ds xs->x6 K H P es ys->x6 K H P (ds++es) (xs++ys)
 |[],es,xs,ys,h,h'=>by cases h;exact h'
 |d::ds,es,xs,ys,h,h'=>by
  obtain⟨v,r,rfl,q,t⟩:=h;exact⟨v,r++ys,rfl,q,x6.append t h'⟩
def x6.length{K:W.Frag}{P:Addr->Prop}{H:Hp}{ds:List D}{xs:List V}(h:x6 K H P ds xs):xs.length=ds.length:=by
 induction ds generalizing xs with
 |nil=>cases (show xs=[] from h);rfl
 |cons d ds ih =>
  obtain⟨v,r,rfl,_,t⟩:=h;simp[ih t]
variable{O:List Addr}
def Reps.length:∀{ds:List D}{xs:List V},Reps K H O ds xs->xs.length=ds.length
 |[],_,h=>by cases h;rfl
 |d::ds,xs,h=>by
  obtain⟨v,r,e,_,t⟩:=h;subst e;simp[Reps.length t]
def Reps.get:∀{ds:List D}{xs:List V}{i:Nat}{d:D},Reps K H O ds xs->ds[i]?=some d->∃v,xs[i]?=some v/\Rep K H O d v
 |[],_,_,_,_,e=>by simp at e
 |d::ds,xs,0,d',h,e=>by
  obtain⟨v,r,rfl,q,_⟩:=h;simp at e;subst e;exact⟨v,rfl,q⟩
 |d::ds,xs,i+1,d',h,e=>by
  obtain⟨v,r,rfl,_,t⟩:=h;obtain⟨v',e',q'⟩:=Reps.get (i:=i) t (by simpa using e)
  exact⟨v',by simpa using e',q'⟩
def Reps.append:∀{ds es:List D}{xs ys:List V},Reps K H O ds xs->Reps K H O es ys->Reps K H O (ds++es) (xs++ys)
 |[],es,xs,ys,h,h'=>by cases h;exact h'
 |d::ds,es,xs,ys,h,h'=>by
  obtain⟨v,r,rfl,q,t⟩:=h;exact⟨v,r++ys,rfl,q,Reps.append t h'⟩
def Reps.one{d:D}{v:V}(h:Rep K H O d v):Reps K H O [d] [v]:=⟨v,[],rfl,h,rfl⟩
def Reps.take:∀{ds:List D}{xs:List V}(n:Nat),Reps K H O ds xs->Reps K H O (ds.take n) (xs.take n)
 |_,_,0,_=>rfl
 |[],_,n+1,h=>by cases h;rfl
 |d::ds,xs,n+1,h=>by
  obtain⟨v,r,rfl,q,t⟩:=h;exact⟨v,r.take n,rfl,q,Reps.take n t⟩
def Reps.drop:∀{ds:List D}{xs:List V}(n:Nat),Reps K H O ds xs->Reps K H O (ds.drop n) (xs.drop n)
 |_,_,0,h=>h
 |[],_,n+1,h=>by cases h;rfl
 |d::ds,xs,n+1,h=>by
  obtain⟨v,r,rfl,q,t⟩:=h;exact Reps.drop n t
def Reps.ints:∀(ns:List Int),Reps K H O (ns.map D.int) (ns.map V.int)
 |[]=>rfl
 |n::ns=>⟨_,_,rfl,rfl,Reps.ints ns⟩
def Reps.dropLast{ds:List D}{xs:List V}(h:Reps K H O ds xs):Reps K H O ds.dropLast xs.dropLast:=by
 rw[List.dropLast_eq_take,List.dropLast_eq_take,h.length];exact h.take _
def Reps.rep{ds:List D}{xs:List V}(h:Reps K H O ds xs):∀k:Nat,Reps K H O (List.replicate k ds).flatten (List.replicate k xs).flatten
 |0=>rfl
 |k+1=>by
  rw[List.replicate_succ,List.replicate_succ,List.flatten_cons,List.flatten_cons];exact h.append (Reps.rep h k)
def View(K:W.Frag)(H:Hp)(O:List Addr)(d:D)(v:V):Prop:=match d with
 |.lst ds=>∃a xs,v=.ref a/\H a=some (.lst xs)/\Reps K H O ds xs
 |.dk ks ds=>∃a xs,v=.ref a/\H a=some (.dK (ks.zip xs))/\ks.length=ds.length/\ks.Nodup/\Reps K H O ds xs
 |.fd m=>∃a,v=.ref a/\H a=some (t6 a m)
 |d=>Rep K H O d v
def Con1(K:W.Frag)(H:Hp)(O:List Addr)(d:D)(a:Addr):Prop:=match d with
 |.lst ds=>∃xs,H a=some (.lst xs)/\Reps K H O ds xs
 |.dk ks ds=>∃xs,H a=some (.dK (ks.zip xs))/\ks.length=ds.length/\ks.Nodup/\Reps K H O ds xs
 |.fd m=>H a=some (t6 a m)
 |_=>False
def Rep.view{K:W.Frag}{H:Hp}{O:List Addr}{d:D}{v:V}(h:Rep K H O d v):View K H O d v:=by
 cases d with
 |lst ds=>obtain⟨a,xs,e,q,_,r⟩:=h;exact⟨a,xs,e,q,r⟩
 |dk ks ds=>obtain⟨a,xs,e,q,_,r⟩:=h;exact⟨a,xs,e,q,r⟩
 |fd m=>obtain⟨a,e,q,_⟩:=h;exact⟨a,e,q⟩
 |_=>exact h
def Con1.view{K:W.Frag}{H:Hp}{O:List Addr}{d:D}{a:Addr}(h:Con1 K H O d a):View K H O d (.ref a):=by
 cases d with
 |lst ds=>obtain⟨xs,q,r⟩:=h;exact⟨a,xs,rfl,q,r⟩
 |dk ks ds=>obtain⟨xs,q,r⟩:=h;exact⟨a,xs,rfl,q,r⟩
 |fd m=>exact⟨a,rfl,h⟩
 |_=>exact h.elim
def Con1.rep{K:W.Frag}{H:Hp}{O:List Addr}{d:D}{a:Addr}(h:Con1 K H O d a)(n:a∉O):Rep K H O d (.ref a):=by
 cases d with
 |lst ds=>obtain⟨xs,q,r⟩:=h;exact⟨a,xs,rfl,q,n,r⟩
 |dk ks ds=>obtain⟨xs,q,r⟩:=h;exact⟨a,xs,rfl,q,n,r⟩
 |fd m=>exact⟨a,rfl,h,n⟩
 |_=>exact h.elim
def Con1.same{K:W.Frag}{H H':Hp}{O:List Addr}{d:D}{a:Addr}(h:Con1 K H O d a)(s:Same H H'):Con1 K H' O d a:=by
 cases d with
 |lst ds=>obtain⟨xs,q,r⟩:=h;exact⟨xs,s _ _ q,Reps.grow (Grow.same s) _ _ r⟩
 |dk ks ds=>obtain⟨xs,q,l,n,r⟩:=h;exact⟨xs,s _ _ q,l,n,Reps.grow (Grow.same s) _ _ r⟩
 |fd m=>exact s _ _ h
 |_=>exact h.elim
def Con1.sub{K:W.Frag}{H:Hp}{O O':List Addr}{d:D}{a:Addr}(h:Con1 K H O d a)(g:∀ a∈O',a∈O):Con1 K H O' d a:=by
 cases d with
 |lst ds=>obtain⟨xs,q,r⟩:=h;exact⟨xs,q,Reps.sub g _ _ r⟩
 |dk ks ds=>obtain⟨xs,q,l,n,r⟩:=h;exact⟨xs,q,l,n,Reps.sub g _ _ r⟩
 |fd m=>exact h
 |_=>exact h.elim
def View.sub{K:W.Frag}{H:Hp}{O O':List Addr}{d:D}{v:V}(h:View K H O d v)(g:∀ a∈O',a∈O):View K H O' d v:=by
 cases d with
 |lst ds=>obtain⟨a,xs,e,q,r⟩:=h;exact⟨a,xs,e,q,Reps.sub g _ _ r⟩
 |dk ks ds=>obtain⟨a,xs,e,q,l,n,r⟩:=h;exact⟨a,xs,e,q,l,n,Reps.sub g _ _ r⟩
 |fd m=>exact h
 |_=>exact Rep.sub g _ _ h
def View.rep0{K:W.Frag}{H:Hp}{O:List Addr}{d:D}{v:V}(h:View K H O d v):Rep K H [] d v:=by
 have h:=h.sub (O':=[]) (λ_ z=>nomatch z);cases d with
 |lst ds=>obtain⟨a,xs,e,q,r⟩:=h;exact⟨a,xs,e,q,by simp,r⟩
 |dk ks ds=>obtain⟨a,xs,e,q,l,n,r⟩:=h;exact⟨a,xs,e,q,by simp,l,n,r⟩
 |fd m=>obtain⟨a,e,q⟩:=h;exact⟨a,e,q,by simp⟩
 |_=>exact h
inductive Kd where|val|own|fre|new
 deriving DecidableEq
structure EV where
 k:Kd
 d:D
abbrev DE:=List (Option EV)
abbrev dv(d:D):EV:=⟨.val,d⟩
abbrev df(d:D):EV:=⟨.fre,d⟩
abbrev dO(d:D):EV:=⟨.own,d⟩
abbrev q_(d:D):Option EV:=some (dv d)
abbrev Q_(d:D):Option EV:=some (dO d)
def RV(K:W.Frag)(H0 H:Hp)(O:List Addr)(r:EV)(v:V):Prop:=match r.k with
 |.val=>Rep K H O r.d v
 |.own=>∃a,v=.ref a/\a∈O/\Con1 K H O r.d a
 |.fre=>∃a,v=.ref a/\H0 a=none/\a∉O/\Con1 K H (a::O) r.d a
 |.new=>RepN K H (λa=>a∉O/\H0 a=none) r.d v
variable{H0 H1:Hp}{r:EV}{v:V}
def RV.val{d:D}(h:Rep K H O d v):RV K H0 H O (dv d) v:=h
def RV.same(h:RV K H0 H O r v)(s:Same H H'):RV K H0 H' O r v:=by
 obtain⟨k,d⟩:=r;cases k with
 |val=>exact Rep.grow (Grow.same s) _ _ h
 |own=>obtain⟨a,e,m,c⟩:=h;exact⟨a,e,m,c.same s⟩
 |fre=>obtain⟨a,e,m,n,c⟩:=h;exact⟨a,e,m,n,c.same s⟩
 |new=>exact RepN.to s (λ_ z=>z) _ _ h
def RV.start(h:RV K H0 H O r v)(s:Same H1 H0):RV K H1 H O r v:=by
 obtain⟨k,d⟩:=r;cases k with
 |val=>exact h
 |own=>exact h
 |fre=>obtain⟨a,e,m,n,c⟩:=h;exact⟨a,e,s.free m,n,c⟩
 |new=>exact RepN.to (Same.refl H) (λa z=>⟨z.1,s.free z.2⟩) _ _ h
def RV.view(h:RV K H0 H O r v):View K H O r.d v:=by
 obtain⟨k,d⟩:=r;cases k with
 |val=>exact Rep.view h
 |own=>obtain⟨a,e,m,c⟩:=h;subst e;exact c.view
 |fre=>obtain⟨a,e,m,n,c⟩:=h;subst e;exact(c.sub λb hb=>zal _ hb).view
 |new=>exact(RepN.rep (λa z=>z.1) _ _ h).view
def RV.solid(h:RV K H0 H O r v)(hk:r.k≠.own):Rep K H O r.d v:=by
 obtain⟨k,d⟩:=r;cases k with
 |val=>exact h
 |own=>exact absurd rfl hk
 |fre=>obtain⟨a,e,m,n,c⟩:=h;subst e;exact(c.sub λb hb=>zal _ hb).rep n
 |new=>exact RepN.rep (λa z=>z.1) _ _ h
structure REnv(K:W.Frag)(H₀ H:Hp)(σ:St)(ρ:DE)(o:List (Nat×Addr)):Prop where
 same:Same H₀ H
 fresh:∀p∈o,H₀ p.2=none
 trk:∀p∈o,∃u,H p.2=some u
 mtb:∀p∈o,(∀xs,H p.2≠some (.tup xs))/\∀ob u,H p.2≠some (.frz ob u)
 nda:(o.map Prod.snd).Nodup
 slots:∀i r,ρ[i]?=some (some r)->∃v,σ[i]?=some (some v)/\((r.k=.val/\Rep K H (o.map Prod.snd) r.d v)\/(r.k=.own/\∃a,v=.ref a/\(i,a)∈o/\Con1 K H (o.map Prod.snd) r.d a))
 len:σ.length=ρ.length
variable{H₀:Hp}{ρ:DE}{o:List (Nat×Addr)}
def REnv.to(R:REnv K H₀ H σ ρ o)(s:Same H H'):REnv K H₀ H' σ ρ o where
 same:=R.same.trans s
 fresh:=R.fresh
 trk:=λp hp=>let ⟨u,e⟩:=R.trk p hp;⟨u,s _ _ e⟩
 mtb:=λp hp=>by
  obtain⟨u,e⟩:=R.trk p hp;obtain⟨m1,m2⟩:=R.mtb p hp;refine⟨λxs z=>?_,λob w z=>?_⟩
  ·rw[s _ _ e]at z;rw[<- e]at z;exact m1 xs z
  ·rw[s _ _ e]at z;rw[<- e]at z;exact m2 ob w z
 nda:=R.nda
 slots:=λi r e=>by
  obtain⟨v,ev,h⟩:=R.slots i r e;refine⟨v,ev,?_⟩;rcases h with⟨k,h⟩|⟨k,a,e1,m,c⟩
  ·exact .inl ⟨k,Rep.grow (Grow.same s) _ _ h⟩
  ·exact .inr ⟨k,a,e1,m,c.same s⟩
 len:=R.len
def REnv.ofree(R:REnv K H₀ H σ ρ o){a:Addr}(h:H a=none):a∉o.map Prod.snd:=λz=>by
 obtain⟨p,hp,e⟩:=zah.mp z;obtain⟨u,q⟩:=R.trk p hp;rw[e,h]at q;cases q
abbrev TD:=DE->(EV->Prop)->Prop
abbrev TDb:=DE->(Bool->Prop)->Prop
abbrev TDs:=DE->(List EV->Prop)->Prop
structure DZ where
 nx:DE->Prop
 rt:EV->Prop
 bk:DE->Prop:=λ_=>False
 ct:DE->Prop:=λ_=>False
abbrev TDS:=DE->DZ->Prop
def RVs(K:W.Frag)(H0 H:Hp)(O:List Addr):List EV->List V->Prop
 |[],vs=>vs=[]
 |r::rs,vs=>∃v ws,vs=v::ws/\RV K H0 H O r v/\RVs K H0 H O rs ws
def RVs.same{K:W.Frag}{H0 H H':Hp}{O:List Addr}(s:Same H H'):∀{rs:List EV}{vs:List V},RVs K H0 H O rs vs->RVs K H0 H' O rs vs
 |[],_,h=>h
 |r::rs,vs,h=>by
  obtain⟨v,ws,e,q,t⟩:=h;exact⟨v,ws,e,q.same s,t.same s⟩
def RVs.start{K:W.Frag}{H0 H1 H:Hp}{O:List Addr}(s:Same H1 H0):∀{rs:List EV}{vs:List V},RVs K H0 H O rs vs->RVs K H1 H O rs vs
 |[],_,h=>h
 |r::rs,vs,h=>by
  obtain⟨v,ws,e,q,t⟩:=h;exact⟨v,ws,e,q.start s,t.start s⟩
def RVs.reps{K:W.Frag}{H0 H:Hp}{O:List Addr}:∀{rs:List EV}{vs:List V},RVs K H0 H O rs vs->(∀r∈rs,r.k≠.own)->Reps K H O (rs.map EV.d) vs
 |[],_,h,_=>h
 |r::rs,vs,h,n=>by
  obtain⟨v,ws,e,q,t⟩:=h;exact⟨v,ws,e,q.solid (n r (zao ..)),t.reps λr' h'=>n r' (zal _ h')⟩
def RVs.reps0{K:W.Frag}{H0 H:Hp}{O:List Addr}:∀{rs:List EV}{vs:List V},RVs K H0 H O rs vs->Reps K H [] (rs.map EV.d) vs
 |[],_,h=>h
 |r::rs,vs,h=>by
  obtain⟨v,ws,e,q,t⟩:=h;exact⟨v,ws,e,q.view.rep0,t.reps0⟩
def vq(K:W.Frag)(H₀:Hp)(t:TD):TE:=λσ H Q=>∃ρ o,REnv K H₀ H σ ρ o/\∃φ,t ρ φ/\∀v r H',Same H H'->RV K H H' (o.map Prod.snd) r v->φ r->Q v H'
def dt(K:W.Frag)(H₀:Hp)(t:TDb):TT:=λσ H Q=>∃ρ o,REnv K H₀ H σ ρ o/\∃φ,t ρ φ/\∀b H',Same H H'->φ b->Q b H'
def Cf(K:W.Frag)(H₀:Hp)(t:TDs):TA:=λσ H Q=>∃ρ o,REnv K H₀ H σ ρ o/\∃φ,t ρ φ/\∀vs rs H',Same H H'->RVs K H H' (o.map Prod.snd) rs vs->φ rs->Q vs H'
def Ux(K:W.Frag)(H₀:Hp)(t:TDS):TS:=λD σ H=>∃ρ o,REnv K H₀ H σ ρ o/\∃Z,t ρ Z /\
 (∀ρ' σ' H' o',Grow (o.map Prod.snd) (o'.map Prod.snd) H H'->REnv K H₀ H' σ' ρ' o'->Z.nx ρ'->D.nx σ' H') /\
 (∀ρ' σ' H' o',Grow (o.map Prod.snd) (o'.map Prod.snd) H H'->REnv K H₀ H' σ' ρ' o'->Z.bk ρ'->D.bk σ' H') /\
 (∀ρ' σ' H' o',Grow (o.map Prod.snd) (o'.map Prod.snd) H H'->REnv K H₀ H' σ' ρ' o'->Z.ct ρ'->D.ct σ' H') /\
 (∀v r H',Same H₀ H'->RV K H₀ H' [] r v->Z.rt r->D.rt v H')
def ED(G:Hp->Prop)(X:Cx)(e:Expr)(t:TD):Prop:=∀H₀:{H:Hp // G H},PE X e (vq X.K H₀.1 t)
def ET(G:Hp->Prop)(X:Cx)(e:Expr)(t:TDb):Prop:=∀H₀:{H:Hp // G H},PT X e (dt X.K H₀.1 t)
def EW(G:Hp->Prop)(X:Cx)(e:Expr)(t:TDb):Prop:=∀H₀:{H:Hp // G H},PW X e (dt X.K H₀.1 t)
def EA(G:Hp->Prop)(X:Cx)(es:List Expr)(t:TDs):Prop:=∀H₀:{H:Hp // G H},PA X es (Cf X.K H₀.1 t)
def SD(G:Hp->Prop)(X:Cx)(st:Stmt)(t:TDS):Prop:=∀H₀:{H:Hp // G H},PS X st (Ux X.K H₀.1 t)
def SDs(G:Hp->Prop)(X:Cx)(st:List Stmt)(t:TDS):Prop:=∀H₀:{H:Hp // G H},PSs X st (Ux X.K H₀.1 t)
def impE{X:Cx}{e:Expr}{t t':TE}(h:PE X e t)(i:∀ σ H Q,t' σ H Q->t σ H Q):PE X e t':=λpn s σ H Q I q=>h pn s σ H Q I (i σ H Q q)
def impT{X:Cx}{e:Expr}{t t':TT}(h:PT X e t)(i:∀ σ H Q,t' σ H Q->t σ H Q):PT X e t':=λpn s σ H Q I q=>h pn s σ H Q I (i σ H Q q)
def impW{X:Cx}{e:Expr}{t t':TT}(h:PW X e t)(i:∀ σ H Q,t' σ H Q->t σ H Q):PW X e t':=λwh pn s σ H Q I q=>h wh pn s σ H Q I (i σ H Q q)
def impA{X:Cx}{es:List Expr}{t t':TA}(h:PA X es t)(i:∀ σ H Q,t' σ H Q->t σ H Q):PA X es t':=λpos pn s σ H Q I q=>h pos pn s σ H Q I (i σ H Q q)
def impS{X:Cx}{st:Stmt}{t t':TS}(h:PS X st t)(i:∀ D σ H,t' D σ H->t D σ H):PS X st t':=λpn s σ H D I q=>h pn s σ H D I (i D σ H q)
def z1z{X:Cx}{st:List Stmt}{t t':TS}(h:PSs X st t)(i:∀ D σ H,t' D σ H->t D σ H):PSs X st t':=λpn s σ H D I q=>h pn s σ H D I (i D σ H q)
variable{Γ:Hp->Prop}
def slot:DE->Nat->Option EV
 |[],_=>none
 |x::_,0=>x
 |_::r,i+1=>slot r i
def vv:∀{ρ:DE}{i:Nat}{r:EV},slot ρ i=some r->ρ[i]?=some (some r)
 |[],_,_,h=>by cases h
 |x::_,0,_,h=>by cases h;rfl
 |_::l,i+1,r,h=>by rw[List.getElem?_cons_succ];exact vv (ρ:=l) h
def G5(i:Nat):TD:=λρ φ=>match slot ρ i with
 |some r=>φ r
 |none=>False
def dC(d:D):TD:=λ_ φ=>φ (dv d)
variable{c e:Expr}{ta tb:TD}
def za(i:Nat){x:Str}(hN:X.N[i]?=some x:=by rfl)(hv:Vis X.env.scope x:=by walk_at "o")(hd:(x==("__debug__" : Str))=false:=by decide)(hcd:(x==("__classdict__" : Str))=false:=by decide):ED Γ X (.Name x pos) (G5 i):=λH₀=>impE (tj hN hv hd hcd) λσ H Q h=>by
 obtain⟨ρ,o,R,φ,hφ,k⟩:=h;cases e:slot ρ i with
 |none =>
  simp only[G5,e]at hφ
 |some r =>
  simp only[G5,e]at hφ;obtain⟨v,ev,h⟩:=R.slots i r (vv e);refine⟨v,ev,k v r H (Same.refl H) ?_ hφ⟩;obtain⟨kd,d⟩:=r;rcases h with⟨rfl,h⟩|⟨rfl,a,e1,m,c⟩
  ·exact h
  ·exact⟨a,e1,zah.mpr ⟨_,m,rfl⟩,c⟩
def ed_c{x:Expr}{v:V}{d:D}(h:PE X x (tC v))(hr:∀ H O,Rep X.K H O d v):ED Γ X x (dC d):=λH₀=>impE h λσ H Q h=>by
 obtain⟨ρ,o,R,φ,hφ,k⟩:=h;exact k v (dv d) H (Same.refl H) (hr H _) hφ
def zc{i:Int} {j pos}:ED Γ X (.Constant (.int i) j pos) (dC (.int i)):=ed_c tm λ_ _=>rfl
def sx{b:Bool} {j pos}:ED Γ X (.Constant (.bool b) j pos) (dC (.bl b)):=ed_c z3o λ_ _=>rfl
def Vr {j pos}:ED Γ X (.Constant .none j pos) (dC .non):=ed_c z0q λ_ _=>rfl
def zh{x:Str} {j pos}:ED Γ X (.Constant (.str x) j pos) (dC (.str x)):=ed_c Nj λ_ _=>rfl
structure GC(K:W.Frag)(mg:Str->Option Value)(x:Str)(d:D):Prop where
 ex:∃u v,mg x=some u/\RelV v u/\∀H O,Rep K H O d v
def cm{x:Str}{d:D}(G:GC X.K X.mg x d)(hg:Gl X x:=by rfl)(hd:(x==("__debug__" : Str))=false:=by decide):ED Γ X (.Name x pos) (dC d):=by
 obtain⟨u,v,hm,r,h⟩:=G.ex;exact ed_c (Yu hg hm r hd) h
def ga{x:Str}{n:String}(hm:X.mg x=none)(hv:bootBuiltins x=some (.type n))(hg:Gl X x:=by rfl)(hn:x≠"__name__":=by decide)(hd:(x==("__debug__" : Str))=false:=by decide):ED Γ X (.Name x pos) (dC (.ty n)) :=
 ed_c (Dz hg hm hv (v:=.ty n) rfl hn hd) λ_ _=>rfl
def qh(K:W.Frag)(rr:R2)(s:D->D->(EV->Prop)->Prop):Prop :=
 ∀(H:Hp)(O:List Addr)(x y:D)(vx vy:V)(φ:EV->Prop)(Q:VK),(∀a,H a=none->a∉O)->View K H O x vx->View K H O y vy->s x y φ ->
  (∀v r H',Same H H'->RV K H H' O r v->φ r->Q v H')->rr vx vy H Q
def d2(s:D->D->(EV->Prop)->Prop)(ta tb:TD):TD:=λρ φ=>ta ρ λx=>tb ρ λy=>s x.d y.d φ
def Md{rr:R2}{s:D->D->(EV->Prop)->Prop}{H₀:Hp}(hl:qh X.K rr s):∀σ H Q,vq X.K H₀ (d2 s ta tb) σ H Q->tOp rr (vq X.K H₀ ta) (vq X.K H₀ tb) σ H Q:=λσ H Q h=>by
 obtain⟨ρ,o,R,φ,hφ,k⟩:=h;refine⟨ρ,o,R,_,hφ,λv1 r1 H1 s1 rv1 h1=>⟨ρ,o,R.to s1,_,h1,λv2 r2 H2 s2 rv2 h2=>?_⟩⟩;exact hl H2 _ r1.d r2.d v1 v2 φ Q (λa e=>R.ofree ((s1.trans s2).free e)) (rv1.same s2).view rv2.view h2 λv r H' s3 rv h=>k v r H' (s1.trans (s2.trans s3)) (rv.start (s1.trans s2)) h
def Zv{op:Operator}{rr:R2}{s:D->D->(EV->Prop)->Prop}(ho:OpR X (binaryOp op) rr)(hl:qh X.K rr s)(ha:ED Γ X a ta)(hb:ED Γ X b tb):ED Γ X (.BinOp a op b pos) (d2 s ta tb):=λH₀ =>
 impE (z0n ho (ha H₀) (hb H₀)) (Md hl)
def cq{op:CmpOp}{rr:R2}{s:D->D->(EV->Prop)->Prop}(ho:OpR X (compareOp op) rr)(hl:qh X.K rr s)(ha:ED Γ X a ta)(hb:ED Γ X b tb)(hm:behindInMarks op b=false):ED Γ X (.Compare a [op] [b] pos) (d2 s ta tb):=λH₀ =>
 impE (Dy ho (ha H₀) (hb H₀) hm) (Md hl)
def C2:OpR X (binaryOp .Mult) (rI IntMulOk λi j=>.int (i*j)):=opI λ_ _ _ _ _ _ _ hc q=>PyProof.Rows.mul_int q hc
def FdOk(i j:Int):Prop:=j≠0/\j.natAbs.log2<9000
def Jl:OpR X (binaryOp .FloorDiv) (rI FdOk λi j=>.int (i.fdiv j)):=opI λ_ _ _ _ _ _ _ hc q=>floordiv_int hc.1 q (.inl (PyProof.noPylong_of_log2 hc.2))
def sI(C:Int->Int->Prop)(g:Int->Int->D):D->D->(EV->Prop)->Prop:=λx y φ=>match x,y with
 |.int i,.int j=>C i j/\φ (dv (g i j))
 |_,_=>False
def M7{K:W.Frag}{C:Int->Int->Prop}{g:Int->Int->D}{gv:Int->Int->V}(hg:∀ i j H O,Rep K H O (g i j) (gv i j)):qh K (rI C gv) (sI C g):=by
 intro H O x y vx vy φ Q ho hx hy h k;unfold sI at h;split at h
 ·exact⟨_,_,hx,hy,h.1,k _ _ H (Same.refl H) (by exact hg _ _ H O) h.2⟩
 ·exact h.elim
def sI0(g:Int->Int->D):D->D->(EV->Prop)->Prop:=λx y φ=>match x,y with
 |.int i,.int j=>φ (dv (g i j))
 |_,_=>False
def dq{K:W.Frag}{g:Int->Int->D}{gv:Int->Int->V}(hg:∀ i j H O,Rep K H O (g i j) (gv i j)):qh K (rI0 gv) (sI0 g):=by
 intro H O x y vx vy φ Q ho hx hy h k;unfold sI0 at h;split at h
 ·exact⟨_,_,hx,hy,k _ _ H (Same.refl H) (by exact hg _ _ H O) h⟩
 ·exact h.elim
abbrev sSub:=sI0 λi j=>.int (i-j)
abbrev sFd:=sI FdOk λi j=>.int (i.fdiv j)
abbrev sMod:=sI (λ_ j=>j≠0) λi j=>.int (i.fmod j)
abbrev sPow:=sI CPow λi j=>.int (i ^ j.toNat)
abbrev sLt:=sI0 λi j=>.bl (decide (i<j))
abbrev sGt:=sI0 λi j=>.bl (decide (j<i))
abbrev sGe:=sI0 λi j=>.bl (decide (j<=i))
def uw(ha:ED Γ X a ta)(hb:ED Γ X b tb):ED Γ X (.BinOp a .Sub b pos) (d2 sSub ta tb):=Zv z0v (dq λ_ _ _ _=>rfl) ha hb
def vj(ha:ED Γ X a ta)(hb:ED Γ X b tb):ED Γ X (.BinOp a .FloorDiv b pos) (d2 sFd ta tb):=Zv Jl (M7 λ_ _ _ _=>rfl) ha hb
def yt(ha:ED Γ X a ta)(hb:ED Γ X b tb):ED Γ X (.BinOp a .Mod b pos) (d2 sMod ta tb):=Zv C3 (M7 λ_ _ _ _=>rfl) ha hb
def Ro(ha:ED Γ X a ta)(hb:ED Γ X b tb):ED Γ X (.BinOp a .Pow b pos) (d2 sPow ta tb):=Zv z0x (M7 λ_ _ _ _=>rfl) ha hb
def z4l(ha:ED Γ X a ta)(hb:ED Γ X b tb):ED Γ X (.Compare a [.Gt] [b] pos) (d2 sGt ta tb):=cq Jk (dq λ_ _ _ _=>rfl) ha hb (qu _)
def z4m(ha:ED Γ X a ta)(hb:ED Γ X b tb):ED Γ X (.Compare a [.GtE] [b] pos) (d2 sGe ta tb):=cq z3s (dq λ_ _ _ _=>rfl) ha hb (qu _)
def sAdd:D->D->(EV->Prop)->Prop:=λx y φ=>match x,y with
 |.int i,.int j=>φ (dv (.int (i+j)))
 |.str p,.str q=>p.length+q.length<=sizeLine/\φ (dv (.str (p++q)))
 |.lst p,.lst q=>p.length+q.length<=sizeLine/\φ (df (.lst (p++q)))
 |.tup p,.tup q=>p≠[]/\q≠[]/\p.length+q.length<=sizeLine/\φ (dv (.tup (p++q)))
 |_,_=>False
def yd{H:Hp}{p:Addr}(h:H p=none)(o:HO):Same H (upd H p o):=λb u q=>by rw[zy (zx q h)];exact q
def Ja{K:W.Frag}{H:Hp}{O:List Addr}{p:Addr}{o:HO}{ds:List D}{xs:List V}(hp:H p=none)(r:Reps K H O ds xs):Reps K (upd H p o) O ds xs:=Reps.grow (Grow.same (yd hp o)) _ _ r
def gx{H:Hp}{O:List Addr}{p:Addr}{o:HO}(hp:H p=none):Grow O (p::O) H (upd H p o) :=
 ⟨λb u h n=>⟨yd hp o b u h,λz=>(zam.mp z).elim (λe=>zx h hp e) n⟩,λb xs h=>yd hp o b _ h,λb ob u h=>yd hp o b _ h⟩
def fq{K:W.Frag}{H:Hp}{O:List Addr}{p:Addr}{ds:List D}{xs:List V}(ho:∀ a,H a=none->a∉O)(hp:H p=none)(r:Reps K H O ds xs):RV K H (upd H p (.lst xs)) O (df (.lst ds)) (.ref p) :=
 ⟨p,rfl,hp,ho p hp,xs,zu,Reps.grow (gx hp) _ _ r⟩
def Sj{K:W.Frag}{H:Hp}{O:List Addr}{p:Addr}{ds:List D}{xs:List V}(hp:H p=none)(r:Reps K H O ds xs):RV K H (upd H p (.tup xs)) O (dv (.tup ds)) (.ref p) :=
 ⟨p,xs,rfl,⟨SqT.of zu,zu⟩,Ja hp r⟩
def Jw:qh X.K (λx y H Q=>rI0 (λi j=>.int (i+j)) x y H Q\/(∃i j,x=.str i/\y=.str j/\i.length+j.length<=sizeLine/\Q (.str (i++j)) H)\/rCat x y H Q\/Ax X.K x y H Q) sAdd:=by
 intro H O x y vx vy φ Q ho hx hy h k;unfold sAdd at h;split at h
 ·exact .inl ⟨_,_,hx,hy,k _ _ H (Same.refl H) (by exact rfl) h⟩
 ·exact .inr (.inl ⟨_,_,hx,hy,h.1,k _ _ H (Same.refl H) (by exact rfl) h.2⟩)
 ·obtain⟨a1,xs,rfl,q1,r1⟩:=hx;obtain⟨a2,ys,rfl,q2,r2⟩:=hy;refine .inr (.inr (.inl ⟨a1,a2,xs,ys,rfl,rfl,q1,q2,by rw[r1.length,r2.length];exact h.1,λp hp=>?_⟩))
  exact k _ _ _ (yd hp _) (fq ho hp (r1.append r2)) h.2
 ·obtain⟨n1,n2,hz,hp⟩:=h;obtain⟨a1,xs,rfl,q1,r1⟩:=hx;obtain⟨a2,ys,rfl,q2,r2⟩:=hy;refine .inr (.inr (.inr ⟨a1,a2,xs,ys,rfl,rfl,q1.1,q2.1,?_,by rw[r1.length,r2.length];exact hz,λz=>?_,λ_ p hpn=>?_⟩))
  ·intro z;have e:=r1.length;rw[z]at e;exact n1 (List.eq_nil_of_length_eq_zero e.symm)
  ·exfalso;have e:=r2.length;rw[z]at e;exact n2 (List.eq_nil_of_length_eq_zero e.symm)
  ·exact k _ _ _ (yd hpn _) (Sj hpn (r1.append r2)) hp
 ·exact h.elim
def y8(ha:ED Γ X a ta)(hb:ED Γ X b tb):ED Γ X (.BinOp a .Add b pos) (d2 sAdd ta tb):=Zv (z1c.or (Qh.or (z1b.or Nm))) Jw ha hb
def sMul:D->D->(EV->Prop)->Prop:=λx y φ=>match x,y with
 |.int i,.int j=>IntMulOk i j/\φ (dv (.int (i*j)))
 |.lst p,.int k=>-(2 ^ 63)<=k/\k<2 ^ 63/\p.length*k.toNat<=sizeLine/\φ (df (.lst (List.replicate k.toNat p).flatten))
 |_,_=>False
mutual
def eqD:D->D->Bool
 |.non,.non=>true
 |.bl a,.bl b=>a==b
 |.bl a,.int b=>(if a then 1 else 0)==b
 |.int a,.bl b=>a==(if b then 1 else 0)
 |.int a,.int b=>a==b
 |.str a,.str b=>a==b
 |.tup a,.tup b=>eqDs a b
 |.lst a,.lst b=>eqDs a b
 |_,_=>false
def eqDs:List D->List D->Bool
 |[],[]=>true
 |a::as,b::bs=>eqD a b&&eqDs as bs
 |_,_=>false
end
def okD:Nat->D->Prop
 |0,d=>match d with
  |.non=>True
  |.bl _=>True
  |.int _=>True
  |.str _=>True
  |_=>False
 |n+1,d=>match d with
  |.non=>True
  |.bl _=>True
  |.int _=>True
  |.str _=>True
  |.tup ds=>∀x∈ds,okD n x
  |.lst ds=>∀x∈ds,okD n x
  |_=>False
theorem kh:∀{ds es:List D},eqDs ds es=true ↔ ds.length=es.length/\∀(j:Nat)(x y:D),ds[j]?=some x->es[j]?=some y->eqD x y=true
 |[],[]=>by simp[eqDs]
 |[],y::es=>by simp[eqDs]
 |x::ds,[]=>by simp[eqDs]
 |x::ds,y::es=>by
  rw[eqDs,Bool.and_eq_true,kh];constructor
  ·rintro⟨h,hl,q⟩;refine⟨by simp[hl],λj a b ha hb=>?_⟩
   cases j with
   |zero=>simp at ha hb;subst ha hb;exact h
   |succ j=>exact q j a b (by simpa using ha) (by simpa using hb)
  ·rintro⟨hl,q⟩;exact⟨q 0 x y rfl rfl,by simpa using hl,λj a b ha hb=>q (j+1) a b (by simpa using ha) (by simpa using hb)⟩
def jf(ds es:List D):eqDs ds es=((List.range (min ds.length es.length)).all (λj=>eqD (ds.getD j .non) (es.getD j .non))&&ds.length==es.length):=by
 rw[Bool.eq_iff_iff,kh,Bool.and_eq_true,List.all_eq_true];constructor
 ·rintro⟨hl,q⟩;refine⟨λj hj=>?_,by simp[hl]⟩
  have hj':=List.mem_range.mp hj;have h1:j<ds.length:=by omega
  have h2:j<es.length:=by omega
  have e1:ds[j]?=some ds[j]:=by simp[h1]
  have e2:es[j]?=some es[j]:=by simp[h2]
  have:=q j _ _ e1 e2;simpa [List.getD,e1,e2] using this
 ·rintro⟨q,hl⟩;have hl':ds.length=es.length:=by simpa using hl
  refine⟨hl',λj x y hx hy=>?_⟩;have h1:=(zag.mp hx).1;have:=q j (List.mem_range.mpr (by omega))
  simpa [List.getD,hx,hy] using this
def Xo:∀(n:Nat)(d:D),okD n d->eqD d d=true:=by
 intro n
 induction n with
 |zero=>intro d h;cases d <;> first|exact h.elim|simp[eqD]
 |succ n ih =>
  intro d h;cases d with
  |tup ds =>
   show eqDs ds ds=true;refine kh.mpr ⟨rfl,λj x y hx hy=>?_⟩;rw[hx]at hy;cases hy;exact ih x (h x (zan hx))
  |lst ds =>
   show eqDs ds ds=true;refine kh.mpr ⟨rfl,λj x y hx hy=>?_⟩;rw[hx]at hy;cases hy;exact ih x (h x (zan hx))
  |dk _ _=>exact h.elim
  |ty _=>exact h.elim
  |cn _=>exact h.elim
  |scr _=>exact h.elim
  |fd _=>exact h.elim
  |_=>simp[eqD]
def Rep.inj(I:Inv X pn σ H s):∀(n:Nat)(d e:D)(v:V),okD n d->okD n e->Rep X.K H [] d v->Rep X.K H [] e v->d=e:=by
 intro n
 induction n with
 |zero =>
  intro d e v hd he h1 h2;cases d <;> first|exact hd.elim|(cases e <;> first|exact he.elim|(have z:=(show v=_ from h1).symm.trans (show v=_ from h2);first|rfl|(injection z with z;rw[z])|cases z))
 |succ n ih =>
  have lists:∀(ds es:List D)(xs:List V),(∀x∈ds,okD n x)->(∀x∈es,okD n x)->Reps X.K H [] ds xs->Reps X.K H [] es xs->ds=es:=by
   intro ds
   induction ds with
   |nil =>
    intro es xs _ _ r1 r2;have:=r1.length;have h2:=r2.length;rw[this]at h2;exact(List.eq_nil_of_length_eq_zero h2.symm).symm
   |cons d ds ih2 =>
    intro es xs h1 h2 r1 r2;obtain⟨v,r,rfl,q,t⟩:=r1;cases es with
    |nil=>cases r2
    |cons e es =>
     obtain⟨v',r',e1,q',t'⟩:=r2;cases e1;rw[ih d e v (h1 d (zao ..)) (h2 e (zao ..)) q q',ih2 es r (λx hx=>h1 x (zal _ hx)) (λx hx=>h2 x (zal _ hx)) t t']
  intro d e v hd he h1 h2;have noTL:∀(a:Addr)(xs ys:List V),SqT X.K H a xs->H a=some (.lst ys)->False:=λa xs ys q1 q2=>by
   obtain⟨its,_,p1,_⟩:=I.tuple q1;obtain⟨its2,_,p2,_⟩:=I.list (SqL.of q2);exact SeqAt.ne_of_list_tuple p2.isList (show s.heap.IsTuple a its.toArray from p1) rfl
  cases d with
  |tup ds =>
   obtain⟨a,xs,rfl,q1,r1⟩:=h1;cases e with
   |tup es =>
    obtain⟨a',ys,e1,q2,r2⟩:=h2;cases e1;have:=I.tuple_inj q1.1 q2.1;subst this;rw[lists ds es xs hd he r1 r2]
   |lst es =>
    obtain⟨a',ys,e1,q2,_,r2⟩:=h2;cases e1;exact(noTL _ _ _ q1.1 q2).elim
   |dk _ _=>exact he.elim
   |scr _=>exact he.elim
   |fd _=>exact he.elim
   |ty _=>exact he.elim
   |cn _=>exact he.elim
   |_=>cases (show V.ref a=_ from h2)
  |lst ds =>
   obtain⟨a,xs,rfl,q1,_,r1⟩:=h1;cases e with
   |tup es =>
    obtain⟨a',ys,e1,q2,r2⟩:=h2;cases e1;exact(noTL _ _ _ q2.1 q1).elim
   |lst es =>
    obtain⟨a',ys,e1,q2,_,r2⟩:=h2;cases e1;have:=I.list_inj (SqL.of q1) (SqL.of q2);subst this;rw[lists ds es xs hd he r1 r2]
   |dk _ _=>exact he.elim
   |scr _=>exact he.elim
   |fd _=>exact he.elim
   |ty _=>exact he.elim
   |cn _=>exact he.elim
   |_=>cases (show V.ref a=_ from h2)
  |dk _ _=>exact hd.elim
  |scr _=>exact hd.elim
  |fd _=>exact hd.elim
  |ty _=>exact hd.elim
  |cn _=>exact hd.elim
  |non =>
   cases e with
   |tup es=>obtain⟨a',ys,e1,_⟩:=h2;cases (show v=_ from h1);cases e1
   |lst es=>obtain⟨a',ys,e1,_⟩:=h2;cases (show v=_ from h1);cases e1
   |dk _ _=>exact he.elim
   |scr _=>exact he.elim
   |fd _=>exact he.elim
   |ty _=>exact he.elim
   |cn _=>exact he.elim
   |non=>rfl
   |_=>cases (show v=_ from h1);cases (show V.non=_ from h2)
  |bl b =>
   cases e with
   |tup es=>obtain⟨a',ys,e1,_⟩:=h2;cases (show v=_ from h1);cases e1
   |lst es=>obtain⟨a',ys,e1,_⟩:=h2;cases (show v=_ from h1);cases e1
   |dk _ _=>exact he.elim
   |scr _=>exact he.elim
   |fd _=>exact he.elim
   |ty _=>exact he.elim
   |cn _=>exact he.elim
   |_=>cases (show v=_ from h1);cases (show V.bl b=_ from h2) <;> rfl
  |int b =>
   cases e with
   |tup es=>obtain⟨a',ys,e1,_⟩:=h2;cases (show v=_ from h1);cases e1
   |lst es=>obtain⟨a',ys,e1,_⟩:=h2;cases (show v=_ from h1);cases e1
   |dk _ _=>exact he.elim
   |scr _=>exact he.elim
   |fd _=>exact he.elim
   |ty _=>exact he.elim
   |cn _=>exact he.elim
   |_=>cases (show v=_ from h1);cases (show V.int b=_ from h2) <;> rfl
  |str b =>
   cases e with
   |tup es=>obtain⟨a',ys,e1,_⟩:=h2;cases (show v=_ from h1);cases e1
   |lst es=>obtain⟨a',ys,e1,_⟩:=h2;cases (show v=_ from h1);cases e1
   |dk _ _=>exact he.elim
   |scr _=>exact he.elim
   |fd _=>exact he.elim
   |ty _=>exact he.elim
   |cn _=>exact he.elim
   |_=>cases (show v=_ from h1);cases (show V.str b=_ from h2) <;> rfl
inductive Sh(K:W.Frag)(H:Hp)(s:Shared):D->Value->Prop where
 |non:Sh K H s .non .none
 |bl (b:Bool):Sh K H s (.bl b) (.bool b)
 |int (i:Int) (t:Tok):Sh K H s (.int i) (.int i t)
 |str (x:Str) (t:Tok):Sh K H s (.str x) (.str x t)
 |tup {a:Addr} {ds:List D} {xs:List V} {its:List Value} (p:s.heap.IsTuple a its.toArray) (r:Vals xs its) (q:Reps K H [] ds xs):Sh K H s (.tup ds) (.ref a)
 |lst {a:Addr} {ds:List D} {xs:List V} {its:List Value} (p:s.heap.IsList a its.toArray) (r:Vals xs its) (q:Reps K H [] ds xs):Sh K H s (.lst ds) (.ref a)
def jz(I:Inv X pn σ H s){n:Nat}{d:D}{x:V}{u:Value}(hd:okD n d)(h:Rep X.K H [] d x)(r:RelV x u):Sh X.K H s d u:=by
 cases d with
 |non=>cases (show x=_ from h);cases r;exact .non
 |bl b=>cases (show x=_ from h);cases r;exact .bl b
 |int b=>cases (show x=_ from h);obtain⟨t,rfl⟩:=r;exact .int b t
 |str b=>cases (show x=_ from h);obtain⟨t,rfl⟩:=r;exact .str b t
 |ty _=>cases n <;> exact hd.elim
 |cn _=>cases n <;> exact hd.elim
 |dk _ _=>cases n <;> exact hd.elim
 |scr _=>cases n <;> exact hd.elim
 |fd _=>cases n <;> exact hd.elim
 |tup ds =>
  obtain⟨a,xs,rfl,q,t⟩:=h;cases r;obtain⟨its,rv,p,_⟩:=I.tuple q.1;exact .tup (show s.heap.IsTuple a its.toArray from p) rv t
 |lst ds =>
  obtain⟨a,xs,rfl,q,_,t⟩:=h;cases r;obtain⟨its,rv,p,_⟩:=I.list (SqL.of q);exact .lst p.isList rv t
def L8(I:Inv X pn σ H s):∀(n:Nat)(d e:D)(x y:V)(u v:Value)(A:Around),okD n d->okD n e->Rep X.K H [] d x->Rep X.K H [] e y->RelV x u->RelV y v->A.units+n<cLine ->
  SeqAt.RcAt A s u v (eqD d e)/\SeqAt.RcNeAt A s u v (!eqD d e)/\SeqAt.EqAt A s u v (eqD d e):=by
 intro n
 induction n with
 |zero =>
  intro d e x y u v A hd he h1 h2 r1 r2 hu;have hu':A.units<cLine:=by omega
  cases jz I hd h1 r1 with
  |tup=>exact hd.elim
  |lst=>exact hd.elim
  |non =>
   cases jz I he h2 r2 with
   |non=>exact⟨SeqAt.RcAt.none_none,SeqAt.RcNeAt.none_none,SeqAt.EqAt.same _⟩
   |bl b=>exact⟨SeqAt.RcAt.none_bool b,SeqAt.RcNeAt.none_bool b,SeqAt.EqAt.none_bool b⟩
   |int i t=>exact⟨SeqAt.RcAt.none_int i t,SeqAt.RcNeAt.none_int i t,SeqAt.EqAt.none_int i t⟩
   |str i t=>exact⟨SeqAt.RcAt.none_str i t,SeqAt.RcNeAt.none_str i t,SeqAt.EqAt.none_str i t⟩
   |tup=>exact he.elim
   |lst=>exact he.elim
  |bl a =>
   cases jz I he h2 r2 with
   |non=>exact⟨SeqAt.RcAt.bool_none a,SeqAt.RcNeAt.bool_none a,SeqAt.EqAt.bool_none a⟩
   |bl b=>exact⟨SeqAt.RcAt.bool_bool a b,SeqAt.RcNeAt.bool_bool a b,SeqAt.EqAt.bool_bool a b⟩
   |int i t=>exact⟨SeqAt.RcAt.bool_int a i t,SeqAt.RcNeAt.bool_int a i t,SeqAt.EqAt.bool_int a i t⟩
   |str i t=>exact⟨SeqAt.RcAt.bool_str a i t,SeqAt.RcNeAt.bool_str a i t,SeqAt.EqAt.bool_str a i t⟩
   |tup=>exact he.elim
   |lst=>exact he.elim
  |int a t =>
   cases jz I he h2 r2 with
   |non=>exact⟨SeqAt.RcAt.int_none a t,SeqAt.RcNeAt.int_none a t,SeqAt.EqAt.int_none a t⟩
   |bl b=>exact⟨SeqAt.RcAt.int_bool a t b,SeqAt.RcNeAt.int_bool a t b,SeqAt.EqAt.int_bool a t b⟩
   |int i t'=>exact⟨SeqAt.RcAt.int_int a t i t',SeqAt.RcNeAt.int_int a t i t',SeqAt.EqAt.int_int a t i t'⟩
   |str i t'=>exact⟨SeqAt.RcAt.int_str a t i t',SeqAt.RcNeAt.int_str a t i t',SeqAt.EqAt.int_str a t i t'⟩
   |tup=>exact he.elim
   |lst=>exact he.elim
  |str a t =>
   cases jz I he h2 r2 with
   |non=>exact⟨SeqAt.RcAt.str_none a t,SeqAt.RcNeAt.str_none a t,SeqAt.EqAt.str_none a t⟩
   |bl b=>exact⟨SeqAt.RcAt.str_bool a t b,SeqAt.RcNeAt.str_bool a t b,SeqAt.EqAt.str_bool a t b⟩
   |int i t'=>exact⟨SeqAt.RcAt.str_int a t i t',SeqAt.RcNeAt.str_int a t i t',SeqAt.EqAt.str_int a t i t'⟩
   |str i t'=>exact⟨SeqAt.RcAt.str_str a t i t',SeqAt.RcNeAt.str_str a t i t',SeqAt.EqAt.str_str a t i t'⟩
   |tup=>exact he.elim
   |lst=>exact he.elim
 |succ n ih =>
  intro d e x y u v A hd he h1 h2 r1 r2 hu;have hu':A.units<cLine:=by omega
  have hin:A.in1.units+n<cLine:=by
   have:A.in1.units=A.units+1:=rfl;omega
  have refs:∀{l b:Addr}{k:Bool},u=.ref l->v=.ref b->k=eqD d e->SeqAt.RcAt A s (.ref l) (.ref b) k->SeqAt.EqAt A s (.ref l) (.ref b) k:=λ{l b k} e1 e2 ek h=>by
   by_cases hlb:l=b
   ·subst hlb;have hv:x=y:=by
     have z1:x=.ref l:=by
      cases x <;> subst e1 <;> first|(have:=(show Value.ref l=Value.ref _ from r1);cases this;rfl)|(obtain⟨t,z⟩:=r1;cases z)|cases r1
     have z2:y=.ref l:=by
      cases y <;> subst e2 <;> first|(have:=(show Value.ref l=Value.ref _ from r2);cases this;rfl)|(obtain⟨t,z⟩:=r2;cases z)|cases r2
     rw[z1,z2]
    subst hv;have hde:=Rep.inj I (n+1) d e x hd he h1 h2;subst hde;rw[ek,Xo (n+1) d hd];exact SeqAt.EqAt.same _
   ·exact SeqAt.EqAt.of_refs hlb h
  have items:∀{ds es:List D}{xs ys:List V}{its its2:List Value},(∀z∈ds,okD n z)->(∀z∈es,okD n z)->Reps X.K H [] ds xs->Reps X.K H [] es ys->Vals xs its->Vals ys its2 ->
    ∀j (h1:j<its.toArray.size) (h2:j<its2.toArray.size),SeqAt.EqAt A.in1 s its.toArray[j] its2.toArray[j] (eqD (ds.getD j .non) (es.getD j .non)):=λ{ds es xs ys its its2} o1 o2 q1 q2 w1 w2 j h1 h2=>by
   have l1:=w1.length;have l2:=w2.length;have k1:=q1.length;have k2:=q2.length;have g1:j<ds.length:=by simp at h1;omega
   have g2:j<es.length:=by simp at h2;omega
   have e1:ds[j]?=some ds[j]:=by simp[g1]
   have e2:es[j]?=some es[j]:=by simp[g2]
   obtain⟨x',ex,rx⟩:=q1.get e1;obtain⟨y',ey,ry⟩:=q2.get e2;obtain⟨u',eu,ru⟩:=w1.get ex;obtain⟨v',ev,rv⟩:=w2.get ey;have f1:its.toArray[j]=u':=by
    have:=(zag.mp eu).2;simpa using this
   have f2:its2.toArray[j]=v':=by
    have:=(zag.mp ev).2;simpa using this
   rw[f1,f2,show ds.getD j .non=ds[j] by simp[List.getD,e1],show es.getD j .non=es[j] by simp[List.getD,e2]]
   exact(ih ds[j] es[j] x' y' u' v' A.in1 (o1 _ (List.getElem_mem g1)) (o2 _ (List.getElem_mem g2)) rx ry ru rv hin).2.2
  cases jz I hd h1 r1 with
  |non =>
   cases jz I he h2 r2 with
   |non=>exact⟨SeqAt.RcAt.none_none,SeqAt.RcNeAt.none_none,SeqAt.EqAt.same _⟩
   |bl b=>exact⟨SeqAt.RcAt.none_bool b,SeqAt.RcNeAt.none_bool b,SeqAt.EqAt.none_bool b⟩
   |int i t=>exact⟨SeqAt.RcAt.none_int i t,SeqAt.RcNeAt.none_int i t,SeqAt.EqAt.none_int i t⟩
   |str i t=>exact⟨SeqAt.RcAt.none_str i t,SeqAt.RcNeAt.none_str i t,SeqAt.EqAt.none_str i t⟩
   |tup p _ _=>exact⟨SeqAt.RcAt.none_tuple p hu',SeqAt.RcNeAt.none_tuple p hu',SeqAt.EqAt.none_tuple p hu'⟩
   |lst p _ _=>exact⟨SeqAt.RcAt.none_list p hu',SeqAt.RcNeAt.none_list p hu',SeqAt.EqAt.none_list p hu'⟩
  |bl a =>
   cases jz I he h2 r2 with
   |non=>exact⟨SeqAt.RcAt.bool_none a,SeqAt.RcNeAt.bool_none a,SeqAt.EqAt.bool_none a⟩
   |bl b=>exact⟨SeqAt.RcAt.bool_bool a b,SeqAt.RcNeAt.bool_bool a b,SeqAt.EqAt.bool_bool a b⟩
   |int i t=>exact⟨SeqAt.RcAt.bool_int a i t,SeqAt.RcNeAt.bool_int a i t,SeqAt.EqAt.bool_int a i t⟩
   |str i t=>exact⟨SeqAt.RcAt.bool_str a i t,SeqAt.RcNeAt.bool_str a i t,SeqAt.EqAt.bool_str a i t⟩
   |tup p _ _=>exact⟨SeqAt.RcAt.bool_tuple a p hu',SeqAt.RcNeAt.bool_tuple a p hu',SeqAt.EqAt.bool_tuple a p hu'⟩
   |lst p _ _=>exact⟨SeqAt.RcAt.bool_list a p hu',SeqAt.RcNeAt.bool_list a p hu',SeqAt.EqAt.bool_list a p hu'⟩
  |int a t =>
   cases jz I he h2 r2 with
   |non=>exact⟨SeqAt.RcAt.int_none a t,SeqAt.RcNeAt.int_none a t,SeqAt.EqAt.int_none a t⟩
   |bl b=>exact⟨SeqAt.RcAt.int_bool a t b,SeqAt.RcNeAt.int_bool a t b,SeqAt.EqAt.int_bool a t b⟩
   |int i t'=>exact⟨SeqAt.RcAt.int_int a t i t',SeqAt.RcNeAt.int_int a t i t',SeqAt.EqAt.int_int a t i t'⟩
   |str i t'=>exact⟨SeqAt.RcAt.int_str a t i t',SeqAt.RcNeAt.int_str a t i t',SeqAt.EqAt.int_str a t i t'⟩
   |tup p _ _=>exact⟨SeqAt.RcAt.int_tuple a t p hu',SeqAt.RcNeAt.int_tuple a t p hu',SeqAt.EqAt.int_tuple a t p hu'⟩
   |lst p _ _=>exact⟨SeqAt.RcAt.int_list a t p hu',SeqAt.RcNeAt.int_list a t p hu',SeqAt.EqAt.int_list a t p hu'⟩
  |str a t =>
   cases jz I he h2 r2 with
   |non=>exact⟨SeqAt.RcAt.str_none a t,SeqAt.RcNeAt.str_none a t,SeqAt.EqAt.str_none a t⟩
   |bl b=>exact⟨SeqAt.RcAt.str_bool a t b,SeqAt.RcNeAt.str_bool a t b,SeqAt.EqAt.str_bool a t b⟩
   |int i t'=>exact⟨SeqAt.RcAt.str_int a t i t',SeqAt.RcNeAt.str_int a t i t',SeqAt.EqAt.str_int a t i t'⟩
   |str i t'=>exact⟨SeqAt.RcAt.str_str a t i t',SeqAt.RcNeAt.str_str a t i t',SeqAt.EqAt.str_str a t i t'⟩
   |tup p _ _=>exact⟨SeqAt.RcAt.str_tuple a t p hu',SeqAt.RcNeAt.str_tuple a t p hu',SeqAt.EqAt.str_tuple a t p hu'⟩
   |lst p _ _=>exact⟨SeqAt.RcAt.str_list a t p hu',SeqAt.RcNeAt.str_list a t p hu',SeqAt.EqAt.str_list a t p hu'⟩
  |@tup l ds xs its p r q =>
   cases jz I he h2 r2 with
   |non=>exact⟨SeqAt.RcAt.tuple_none p hu',SeqAt.RcNeAt.tuple_none p hu',SeqAt.EqAt.tuple_none p hu'⟩
   |bl b=>exact⟨SeqAt.RcAt.tuple_bool b p hu',SeqAt.RcNeAt.tuple_bool b p hu',SeqAt.EqAt.tuple_bool b p hu'⟩
   |int i t=>exact⟨SeqAt.RcAt.tuple_int i t p hu',SeqAt.RcNeAt.tuple_int i t p hu',SeqAt.EqAt.tuple_int i t p hu'⟩
   |str i t=>exact⟨SeqAt.RcAt.tuple_str i t p hu',SeqAt.RcNeAt.tuple_str i t p hu',SeqAt.EqAt.tuple_str i t p hu'⟩
   |lst p2 _ _=>exact⟨SeqAt.RcAt.tuple_list p p2 hu',SeqAt.RcNeAt.tuple_list p p2 hu',SeqAt.EqAt.tuple_list p p2 hu'⟩
   |@tup b es ys its2 p2 r' q' =>
    have e1:its.toArray.size=ds.length:=by rw[zap,<- r.length,q.length]
    have e2:its2.toArray.size=es.length:=by rw[zap,<- r'.length,q'.length]
    have ek:eqD (.tup ds) (.tup es)=((List.range (min its.toArray.size its2.toArray.size)).all (λj=>eqD (ds.getD j .non) (es.getD j .non))&&its.toArray.size==its2.toArray.size):=by
     rw[e1,e2];exact jf ds es
    rw[ek];have hrc:=SeqAt.RcAt.tuples p p2 hu' (items hd he q q' r r');exact⟨hrc,SeqAt.RcNeAt.tuples p p2 hu' (items hd he q q' r r'),refs rfl rfl ek.symm hrc⟩
  |@lst l ds xs its p r q =>
   cases jz I he h2 r2 with
   |non=>exact⟨SeqAt.RcAt.list_none p hu',SeqAt.RcNeAt.list_none p hu',SeqAt.EqAt.list_none p hu'⟩
   |bl b=>exact⟨SeqAt.RcAt.list_bool b p hu',SeqAt.RcNeAt.list_bool b p hu',SeqAt.EqAt.list_bool b p hu'⟩
   |int i t=>exact⟨SeqAt.RcAt.list_int i t p hu',SeqAt.RcNeAt.list_int i t p hu',SeqAt.EqAt.list_int i t p hu'⟩
   |str i t=>exact⟨SeqAt.RcAt.list_str i t p hu',SeqAt.RcNeAt.list_str i t p hu',SeqAt.EqAt.list_str i t p hu'⟩
   |tup p2 _ _=>exact⟨SeqAt.RcAt.list_tuple p p2 hu',SeqAt.RcNeAt.list_tuple p p2 hu',SeqAt.EqAt.list_tuple p p2 hu'⟩
   |@lst b es ys its2 p2 r' q' =>
    have e1:its.toArray.size=ds.length:=by rw[zap,<- r.length,q.length]
    have e2:its2.toArray.size=es.length:=by rw[zap,<- r'.length,q'.length]
    by_cases hsz:its.toArray.size=its2.toArray.size
    ·have ek:eqD (.lst ds) (.lst es)=(List.range its.toArray.size).all (λj=>eqD (ds.getD j .non) (es.getD j .non)):=by
      show eqDs ds es=_;rw[jf,<- e1,<- e2,<- hsz];simp
     rw[ek];have hrc:=SeqAt.RcAt.lists p p2 hsz hu' (items hd he q q' r r');exact⟨hrc,SeqAt.RcNeAt.lists p p2 hsz hu' (items hd he q q' r r'),refs rfl rfl ek.symm hrc⟩
    ·have ek:eqD (.lst ds) (.lst es)=false:=by
      show eqDs ds es=_;have hb:(its.toArray.size==its2.toArray.size)=false:=beq_eq_false_iff_ne.mpr hsz;rw[jf,<- e1,<- e2,hb,Bool.and_false]
     rw[ek];have hne:(its.toArray.size != its2.toArray.size)=true:=by simpa using hsz
     have hrc:=SeqAt.RcAt.lists_lengths p p2 hne hu';exact⟨hrc,SeqAt.RcNeAt.lists_lengths p p2 hne hu',refs rfl rfl ek.symm hrc⟩
def rEqD(K:W.Frag)(neg:Bool):R2:=λx y H Q=>∃d e,Rep K H [] d x/\Rep K H [] e y/\okD 40 d/\okD 40 e/\Q (.bl (if neg then !eqD d e else eqD d e)) H
def Fg(hu:X.A.units+64<cLine):OpR X (compareOp .Eq) (rEqD X.K false):=by
 intro pn s σ H x y v u Q I rx ry h;obtain⟨d,e,h1,h2,o1,o2,q⟩:=h;exact(L8 I 40 d e x y v u X.A o1 o2 h1 h2 rx ry (by omega)).1 X.prog X.w X.xe _ ⟨.bl _,H,I,rfl,q⟩
def z0y(hu:X.A.units+64<cLine):OpR X (compareOp .NotEq) (rEqD X.K true):=by
 intro pn s σ H x y v u Q I rx ry h;obtain⟨d,e,h1,h2,o1,o2,q⟩:=h;exact(L8 I 40 d e x y v u X.A o1 o2 h1 h2 rx ry (by omega)).2.1 X.prog X.w X.xe _ ⟨.bl _,H,I,rfl,q⟩
def sEq:D->D->(EV->Prop)->Prop:=λx y φ=>okD 40 x/\okD 40 y/\φ (dv (.bl (eqD x y)))
def sNe:D->D->(EV->Prop)->Prop:=λx y φ=>okD 40 x/\okD 40 y/\φ (dv (.bl (!eqD x y)))
def Xq(hu:X.A.units+64<cLine)(ha:ED Γ X a ta)(hb:ED Γ X b tb):ED Γ X (.Compare a [.Eq] [b] pos) (d2 sEq ta tb) :=
 cq (Fg hu) (λH O x y vx vy φ Q ho hx hy h k=>⟨x,y,hx.rep0,hy.rep0,h.1,h.2.1,k _ _ H (Same.refl H) (by exact rfl) h.2.2⟩) ha hb (qu _)
section
variable{es:List Expr}{te:TD}{t:TDs}
def Jr:qh X.K (λx y H Q=>rI IntMulOk (λi j=>.int (i*j)) x y H Q\/rRep x y H Q) sMul:=by
 intro H O x y vx vy φ Q ho hx hy h k;unfold sMul at h;split at h
 ·exact .inl ⟨_,_,hx,hy,h.1,k _ _ H (Same.refl H) (by exact rfl) h.2⟩
 ·obtain⟨h1,h2,h3,h4⟩:=h;obtain⟨a1,xs,rfl,q1,r1⟩:=hx;refine .inr ⟨a1,_,xs,rfl,hy,q1,h1,h2,by rw[r1.length];exact h3,λp hp=>?_⟩
  exact k _ _ _ (yd hp _) (fq ho hp (r1.rep _)) h4
 ·exact h.elim
def ck(ha:ED Γ X a ta)(hb:ED Γ X b tb):ED Γ X (.BinOp a .Mult b pos) (d2 sMul ta tb):=Zv (C2.or z0w) Jr ha hb
def sNeg:D->(EV->Prop)->Prop:=λx φ=>match x with
 |.int i=>φ (dv (.int (-i)))
 |_=>False
def d1(s:D->(EV->Prop)->Prop)(ta:TD):TD:=λρ φ=>ta ρ λx=>s x.d φ
def Vs(ha:ED Γ X a ta):ED Γ X (.UnaryOp .USub a pos) (d1 sNeg ta):=λH₀=>impE (Dw Pw (ha H₀)) λσ H Q h=>by
 obtain⟨ρ,o,R,φ,hφ,k⟩:=h;refine⟨ρ,o,R,_,hφ,λv1 r1 H1 s1 rv1 h1=>?_⟩;obtain⟨kd,d⟩:=r1;have hv:=rv1.view;cases d with
 |int i=>exact⟨i,hv,k _ _ H1 s1 (by exact rfl) h1⟩
 |_=>exact h1.elim
def truD:D->Option Bool
 |.non=>some false
 |.bl b=>some b
 |.int i=>some (i != 0)
 |.str x=>if x.length<=sizeLine then some ((x.length:Int) != 0) else none
 |.lst ds=>some (!ds.isEmpty)
 |.scr ns=>some (!ns.isEmpty)
 |.tup ds=>some (!ds.isEmpty)
 |.dk _ ds=>some (!ds.isEmpty)
 |.ty _=>none
 |.cn _=>none
 |.fd _=>none
def jv{K:W.Frag}{H:Hp}{O:List Addr}{ds:List D}{xs:List V}(r:Reps K H O ds xs):xs.isEmpty=ds.isEmpty:=by
 have:=r.length;cases xs <;> cases ds <;> simp_all
def Km{K:W.Frag}{H:Hp}{O:List Addr}{d:D}{v:V}{b:Bool}(h:View K H O d v)(e:truD d=some b):TruV K v H b:=by
 cases d with
 |non=>cases (show v=_ from h);cases e;rfl
 |bl i=>cases (show v=_ from h);cases e;rfl
 |int i=>cases (show v=_ from h);cases e;rfl
 |str x =>
  cases (show v=_ from h)
  have e':(if x.length<=sizeLine then some ((x.length:Int) != 0) else none)=some b:=e
  split at e'
  ·rename_i hz;cases e';exact⟨hz,rfl⟩
  ·cases e'
 |ty _=>cases e
 |cn _=>cases e
 |fd _=>cases e
 |lst ds =>
  obtain⟨a,xs,rfl,q,r⟩:=h;cases e;exact .inl ⟨xs,SqL.of q,by rw[jv r]⟩
 |scr ns =>
  obtain⟨a,rfl,q⟩:=h;cases e;exact .inl ⟨_,q.seq,by cases ns <;> rfl⟩
 |tup ds =>
  obtain⟨a,xs,rfl,q,r⟩:=h;cases e;exact .inr (.inl ⟨xs,q.1,by rw[jv r]⟩)
 |dk ks ds =>
  obtain⟨a,xs,rfl,q,l,_,r⟩:=h;cases e;refine .inr (.inr ⟨_,q,?_⟩);have:=r.length;cases ks <;> cases ds <;> cases xs <;> simp_all
def tTru(t:TD):TDb:=λρ φ=>t ρ λr=>match truD r.d with
 |some b=>φ b
 |none=>False
def xm(h:ED Γ X a ta)(he:∀ whole,isTrue a X.env whole=(do let v <- whole;standAt a.pos;holding [v] (truthy v)):=by intro _;rfl):ET Γ X a (tTru ta):=λH₀=>impT (Jb (h H₀) he) λσ H Q q=>by
 obtain⟨ρ,o,R,φ,hφ,k⟩:=q;refine⟨ρ,o,R,_,hφ,λv1 r1 H1 s1 rv1 h1=>?_⟩;cases e:truD r1.d with
 |none=>simp only[e]at h1
 |some b =>
  simp only[e]at h1;exact⟨b,Km rv1.view e,k b H1 s1 h1⟩
def tBo(t:TD):TDb:=λρ φ=>t ρ λr=>match r.d with
 |.bl b=>φ b
 |_=>False
def k9{op:CmpOp}{rr:R2}{s:D->D->(EV->Prop)->Prop}(ho:OpR X (compareOp op) rr)(hl:qh X.K rr s)(ha:ED Γ X a ta)(hb:ED Γ X b tb)(hm:behindInMarks op b=false):ET Γ X (.Compare a [op] [b] pos) (tBo (d2 s ta tb)):=λH₀ =>
 impT (rq ho (ha H₀) (hb H₀) hm) λσ H Q h=>by
  obtain⟨ρ,o,R,φ,hφ,k⟩:=h;refine Md (ta:=ta) (tb:=tb) (H₀:=H₀.1) hl σ H _ ⟨ρ,o,R,_,hφ,λv r H' s1 rv h1=>?_⟩;obtain⟨kd,d⟩:=r;cases d with
  |bl b=>exact⟨b,rv.view,k b H' s1 h1⟩
  |_=>exact h1.elim
def Xm(ha:ED Γ X a ta)(hb:ED Γ X b tb):ET Γ X (.Compare a [.Lt] [b] pos) (tBo (d2 sLt ta tb)):=k9 z3r (dq λ_ _ _ _=>rfl) ha hb (qu _)
def L7(ha:ED Γ X a ta)(hb:ED Γ X b tb):ET Γ X (.Compare a [.Gt] [b] pos) (tBo (d2 sGt ta tb)):=k9 Jk (dq λ_ _ _ _=>rfl) ha hb (qu _)
def xr(hu:X.A.units+64<cLine)(ha:ED Γ X a ta)(hb:ED Γ X b tb):ET Γ X (.Compare a [.Eq] [b] pos) (tBo (d2 sEq ta tb)) :=
 k9 (Fg hu) (λH O x y vx vy φ Q ho hx hy h k=>⟨x,y,hx.rep0,hy.rep0,h.1,h.2.1,k _ _ H (Same.refl H) (by exact rfl) h.2.2⟩) ha hb (qu _)
def qf(hu:X.A.units+64<cLine)(ha:ED Γ X a ta)(hb:ED Γ X b tb):ET Γ X (.Compare a [.NotEq] [b] pos) (tBo (d2 sNe ta tb)) :=
 k9 (z0y hu) (λH O x y vx vy φ Q ho hx hy h k=>⟨x,y,hx.rep0,hy.rep0,h.1,h.2.1,k _ _ H (Same.refl H) (by exact rfl) h.2.2⟩) ha hb (qu _)
def Cp:D->Bool
 |.non=>true
 |_=>false
def Sg:D->D->(EV->Prop)->Prop:=λx y φ=>match y with
 |.non=>φ (dv (.bl (!Cp x)))
 |_=>False
def Ki{K:W.Frag}{H:Hp}{O:List Addr}{d:D}{v:V}(h:View K H O d v):decide (v=.non)=Cp d:=by
 cases d with
 |tup ds=>obtain⟨a,xs,rfl,_⟩:=h;rfl
 |lst ds=>obtain⟨a,xs,rfl,_⟩:=h;rfl
 |scr ns=>obtain⟨a,rfl,_⟩:=h;rfl
 |fd _=>obtain⟨a,rfl,_⟩:=h;rfl
 |dk ks ds=>obtain⟨a,xs,rfl,_⟩:=h;rfl
 |cn c =>
  cases c with
  |int i=>cases (show v=_ from h);rfl
  |str x=>cases (show v=_ from h);rfl
  |tup cs=>obtain⟨a,o,its,n,xs,rfl,_⟩:=(show CRep K (.tup cs) v from h);rfl
 |_=>cases (show v=_ from h);rfl
def Qo{K:W.Frag}:qh K (λx y H Q=>y=.non/\Q (.bl (!decide (x=.non))) H) Sg:=by
 intro H O x y vx vy φ Q ho hx hy h k;unfold Sg at h;split at h
 ·refine⟨hy,?_⟩;rw[Ki hx];exact k _ _ H (Same.refl H) (by exact rfl) h
 ·exact h.elim
def Hx(ha:ED Γ X a ta)(hb:ED Γ X b tb):ED Γ X (.Compare a [.IsNot] [b] pos) (d2 Sg ta tb):=cq C0 Qo ha hb (qu _)
variable{tA tB':TDb}
def bAnd(t u:TDb):TDb:=λρ φ=>t ρ λc=>(c=true->u ρ φ)/\(c=false->φ false)
def bOr(t u:TDb):TDb:=λρ φ=>t ρ λc=>(c=true->φ true)/\(c=false->u ρ φ)
def bNot(t:TDb):TDb:=λρ φ=>t ρ λc=>φ (!c)
def qe(ha:ET Γ X a tA):EW Γ X (.BoolOp .And [a] pos) tA:=λH₀=>De (ha H₀)
def um(ha:ET Γ X a tA):EW Γ X (.BoolOp .Or [a] pos) tA:=λH₀=>Ay (ha H₀)
def rf(ha:ET Γ X a tA)(hb:EW Γ X (.BoolOp .And (b::rest) pos) tB'):EW Γ X (.BoolOp .And (a::b::rest) pos) (bAnd tA tB'):=λH₀=>impW (Az (ha H₀) (hb H₀)) λσ H Q h=>by
 obtain⟨ρ,o,R,φ,hφ,k⟩:=h;refine⟨ρ,o,R,_,hφ,λc H1 s1 h1=>?_⟩;cases c with
 |true=>exact iteT ⟨ρ,o,R.to s1,φ,h1.1 rfl,λb H2 s2 q=>k b H2 (s1.trans s2) q⟩
 |false=>exact iteF (k false H1 s1 (h1.2 rfl))
def tz(ha:ET Γ X a tA)(hb:EW Γ X (.BoolOp .Or (b::rest) pos) tB'):EW Γ X (.BoolOp .Or (a::b::rest) pos) (bOr tA tB'):=λH₀=>impW (z3l (ha H₀) (hb H₀)) λσ H Q h=>by
 obtain⟨ρ,o,R,φ,hφ,k⟩:=h;refine⟨ρ,o,R,_,hφ,λc H1 s1 h1=>?_⟩;cases c with
 |true=>exact iteT (k true H1 s1 (h1.1 rfl))
 |false=>exact iteF ⟨ρ,o,R.to s1,φ,h1.2 rfl,λb H2 s2 q=>k b H2 (s1.trans s2) q⟩
def EW.et(h:EW Γ X a tA):ET Γ X a tA:=λH₀=>PW.pt (h H₀)
def xw(ha:ET Γ X a tA):ET Γ X (.UnaryOp .Not a pos) (bNot tA):=λH₀=>impT (z0c (ha H₀)) λσ H Q h=>by
 obtain⟨ρ,o,R,φ,hφ,k⟩:=h;exact⟨ρ,o,R,_,hφ,λc H1 s1 h1=>k _ H1 s1 h1⟩
def vAnd(ta tb:TD):TD:=λρ φ=>ta ρ λx=>match x.d with
 |.bl c=>(c=true->tb ρ φ)/\(c=false->φ (dv (.bl false)))
 |_=>False
def vOr(ta tb:TD):TD:=λρ φ=>ta ρ λx=>match x.d with
 |.bl c=>(c=true->φ (dv (.bl true)))/\(c=false->tb ρ φ)
 |_=>False
def vNot(ta:TD):TD:=λρ φ=>ta ρ λx=>match x.d with
 |.bl c=>φ (dv (.bl (!c)))
 |_=>False
def cj {op} (h:ED Γ X a ta):ED Γ X (.BoolOp op [a] pos) ta:=λH₀=>z0o (h H₀)
def cu(ha:ED Γ X a ta)(hb:ED Γ X (.BoolOp .And (b::rest) pos) tb):ED Γ X (.BoolOp .And (a::b::rest) pos) (vAnd ta tb):=λH₀=>impE (z0s (ha H₀) (hb H₀)) λσ H Q h=>by
 obtain⟨ρ,o,R,φ,hφ,k⟩:=h;refine⟨ρ,o,R,_,hφ,λv r H1 s1 rv h1=>?_⟩;obtain⟨kd,d⟩:=r;cases d with
 |bl c =>
  refine⟨c,rv.view,?_⟩;cases c with
  |true=>exact iteT ⟨ρ,o,R.to s1,φ,h1.1 rfl,λv2 r2 H2 s2 rv2 q=>k v2 r2 H2 (s1.trans s2) (rv2.start s1) q⟩
  |false=>exact iteF (k _ _ H1 s1 (by exact rfl) (h1.2 rfl))
 |_=>exact h1.elim
def z4k(ha:ED Γ X a ta)(hb:ED Γ X (.BoolOp .Or (b::rest) pos) tb):ED Γ X (.BoolOp .Or (a::b::rest) pos) (vOr ta tb):=λH₀=>impE (z3n (ha H₀) (hb H₀)) λσ H Q h=>by
 obtain⟨ρ,o,R,φ,hφ,k⟩:=h;refine⟨ρ,o,R,_,hφ,λv r H1 s1 rv h1=>?_⟩;obtain⟨kd,d⟩:=r;cases d with
 |bl c =>
  refine⟨c,rv.view,?_⟩;cases c with
  |true=>exact iteT (k _ _ H1 s1 (by exact rfl) (h1.1 rfl))
  |false=>exact iteF ⟨ρ,o,R.to s1,φ,h1.2 rfl,λv2 r2 H2 s2 rv2 q=>k v2 r2 H2 (s1.trans s2) (rv2.start s1) q⟩
 |_=>exact h1.elim
def Lb(ha:ED Γ X a ta):ED Γ X (.UnaryOp .Not a pos) (vNot ta):=λH₀=>impE (z0p (ha H₀)) λσ H Q h=>by
 obtain⟨ρ,o,R,φ,hφ,k⟩:=h;refine⟨ρ,o,R,_,hφ,λv r H1 s1 rv h1=>?_⟩;obtain⟨kd,d⟩:=r;cases d with
 |bl c=>exact⟨c,rv.view,k _ _ H1 s1 (by exact rfl) h1⟩
 |_=>exact h1.elim
def vIf(t:TDb)(ta tb:TD):TD:=λρ φ=>t ρ λc=>(c=true->ta ρ φ)/\(c=false->tb ρ φ)
def Rq(hc:ET Γ X c tA)(ha:ED Γ X a ta)(hb:ED Γ X b tb):ED Γ X (.IfExp c a b pos) (vIf tA ta tb):=λH₀=>impE (Ji (hc H₀) (ha H₀) (hb H₀)) λσ H Q h=>by
 obtain⟨ρ,o,R,φ,hφ,k⟩:=h;refine⟨ρ,o,R,_,hφ,λc H1 s1 h1=>?_⟩;cases c with
 |true=>exact iteT ⟨ρ,o,R.to s1,φ,h1.1 rfl,λv2 r2 H2 s2 rv2 q=>k v2 r2 H2 (s1.trans s2) (rv2.start s1) q⟩
 |false=>exact iteF ⟨ρ,o,R.to s1,φ,h1.2 rfl,λv2 r2 H2 s2 rv2 q=>k v2 r2 H2 (s1.trans s2) (rv2.start s1) q⟩
def aNil:TDs:=λ_ φ=>φ []
def z2w(te:TD)(t:TDs):TDs:=λρ φ=>te ρ λr=>t ρ λrs=>φ (r::rs)
def zb:EA Γ X [] aNil:=λH₀=>impA vb λσ H Q h=>by
 obtain⟨ρ,o,R,φ,hφ,k⟩:=h;exact k [] [] H (Same.refl H) (by exact rfl) hφ
def z9(ha:ED Γ X e te)(hr:EA Γ X es t)(hs:starEach (e::es) X.env=(false,eval e X.env)::starEach es X.env:=by rfl):EA Γ X (e::es) (z2w te t):=λH₀=>impA (xx (ha H₀) (hr H₀) hs) λσ H Q h=>by
 obtain⟨ρ,o,R,φ,hφ,k⟩:=h;refine⟨ρ,o,R,_,hφ,λv r H1 s1 rv h1=>⟨ρ,o,R.to s1,_,h1,λvs rs H2 s2 rvs h2=>?_⟩⟩;exact k (v::vs) (r::rs) H2 (s1.trans s2) ⟨v,vs,rfl,rv.same s2,rvs.start s1⟩ h2
def Ze:List EV->Bool
 |[]=>true
 |r::rs=>(match r.k with|.own=>false|_=>true)&&Ze rs
def j4:∀{rs:List EV},Ze rs=true->∀r∈rs,r.k≠.own
 |[],_=>λr h=>nomatch h
 |⟨k,d⟩::rs,h=>λr hr=>by
  rw[Ze,Bool.and_eq_true]at h;rcases zam.mp hr with rfl|hr
  ·intro z;have z':k=.own:=z;subst z';exact absurd h.1 (by simp)
  ·exact j4 h.2 r hr
def dTup(t:TDs):TD:=λρ φ=>t ρ λrs=>Ze rs=true/\Nat.ble rs.length 1000=true/\φ (dv (.tup (rs.map EV.d)))
def dLst(t:TDs):TD:=λρ φ=>t ρ λrs=>Ze rs=true/\Nat.ble rs.length 1000=true/\φ (df (.lst (rs.map EV.d)))
def dw{n:Nat}(h:Nat.ble n 1000=true):n<=sizeLine:=zak (Nat.le_of_ble_eq_true h) (by decide)
def RVs.length{K:W.Frag}{H0 H:Hp}{O:List Addr}:∀{rs:List EV}{vs:List V},RVs K H0 H O rs vs->vs.length=rs.length
 |[],_,h=>by cases h;rfl
 |r::rs,vs,h=>by
  obtain⟨v,ws,rfl,_,t⟩:=h;simp[RVs.length t]
def w8 {x1} (h:EA Γ X es t):ED Γ X (.Tuple es x1 pos) (dTup t):=λH₀=>impE (Ni (h H₀)) λσ H Q q=>by
 obtain⟨ρ,o,R,φ,hφ,k⟩:=q;refine⟨ρ,o,R,_,hφ,λvs rs H1 s1 rvs h1=>⟨by rw[rvs.length];exact dw h1.2.1,λp hp=>?_⟩⟩
 exact k _ _ _ (s1.trans (yd hp _)) (RV.start (Sj hp (rvs.reps (j4 h1.1))) s1) h1.2.2
def y4(h:EA Γ X es t):ED Γ X (.List es pos) (dLst t):=λH₀=>impE (Wi (h H₀)) λσ H Q q=>by
 obtain⟨ρ,o,R,φ,hφ,k⟩:=q;refine⟨ρ,o,R,_,hφ,λvs rs H1 s1 rvs h1=>⟨by rw[rvs.length];exact dw h1.2.1,λp hp=>?_⟩⟩
 exact k _ _ _ (s1.trans (yd hp _)) (RV.start (fq (λa e=>R.ofree (s1.free e)) hp (rvs.reps (j4 h1.1))) s1) h1.2.2
def sIx1:D->D->(EV->Prop)->Prop:=λx y φ=>match x,y with
 |.lst ds,.int i=>match atI ds i with
  |some d=>φ (dv d)
  |none=>False
 |.tup ds,.int i=>match atI ds i with
  |some d=>φ (dv d)
  |none=>False
 |.scr ns,.int i=>match atI ns i with
  |some n=>φ (dv (.int n))
  |none=>False
 |.str z,.int i=>z.length<=sizeLine/\match atI z.cps.toList i with
  |some c=>φ (dv (.str ⟨#[c]⟩))
  |none=>False
 |_,_=>False
def Q1{K:W.Frag}{H:Hp}{O:List Addr}{ds:List D}{xs:List V}{i:Int}{d:D}(r:Reps K H O ds xs)(h:atI ds i=some d):∃v,atI xs i=some v/\Rep K H O d v:=by
 unfold atI at h ⊢;rw[r.length];cases e:ixN ds.length i with
 |none=>rw[e]at h;cases h
 |some j =>
  rw[e]at h;exact r.get h
def Ce:qh X.K (rIx X.K) sIx1:=by
 intro H O x y vx vy φ Q ho hx hy h k;unfold sIx1 at h;split at h
 ·obtain⟨a,xs,rfl,q,r⟩:=hx;split at h
  ·rename_i d e;obtain⟨v,ev,rv⟩:=Q1 r e;exact .inl ⟨a,xs,_,v,rfl,hy,SqL.of q,ev,k _ _ H (Same.refl H) (RV.val rv) h⟩
  ·exact h.elim
 ·obtain⟨a,xs,rfl,q,r⟩:=hx;split at h
  ·rename_i d e;obtain⟨v,ev,rv⟩:=Q1 r e;exact .inr (.inl ⟨a,xs,_,v,rfl,hy,q.1,ev,k _ _ H (Same.refl H) (RV.val rv) h⟩)
  ·exact h.elim
 ·obtain⟨a,rfl,q⟩:=hx;split at h
  ·rename_i n e;refine .inl ⟨a,_,_,.int n,rfl,hy,q.seq,?_,k _ _ H (Same.refl H) (by exact rfl) h⟩
   unfold atI at e ⊢;rw[zLm];cases e2:ixN _ _ with
   |none=>rw[e2]at e;cases e
   |some j =>
    rw[e2]at e;exact(zai ..).trans (congrArg (Option.map V.int) e)
  ·exact h.elim
 ·obtain⟨hz,h⟩:=h;split at h
  ·rename_i c e;exact .inr (.inr ⟨_,_,c,hx,hy,hz,e,k _ _ H (Same.refl H) (by exact rfl) h⟩)
  ·exact h.elim
 ·exact h.elim
abbrev TDo:=DE->(Option Int->Prop)->Prop
def z3t(K:W.Frag)(H₀:Hp)(t:TDo):TO:=λσ H Q=>∃ρ o,REnv K H₀ H σ ρ o/\∃φ,t ρ φ/\∀b H',Same H H'->φ b->Q b H'
def EO(G:Hp->Prop)(X:Cx)(e:Option Expr)(t:TDo):Prop:=∀H₀:{H:Hp // G H},PO X e (z3t X.K H₀.1 t)
def z1g:TDo:=λ_ φ=>φ none
def z1f(t:TD):TDo:=λρ φ=>t ρ λr=>match r.d with
 |.int i=>φ (some i)
 |_=>False
def impO{e:Option Expr}{t t':TO}(h:PO X e t)(i:∀ σ H Q,t' σ H Q->t σ H Q):PO X e t':=λpn s σ H Q I q=>h pn s σ H Q I (i σ H Q q)
def vi:EO Γ X none z1g:=λH₀=>impO Dn λσ H Q h=>by
 obtain⟨ρ,o,R,φ,hφ,k⟩:=h;exact k none H (Same.refl H) hφ
def x8(h:ED Γ X e te):EO Γ X (some e) (z1f te):=λH₀=>impO (Dm (h H₀)) λσ H Q q=>by
 obtain⟨ρ,o,R,φ,hφ,k⟩:=q;refine⟨ρ,o,R,_,hφ,λv r H1 s1 rv h1=>?_⟩;obtain⟨kd,d⟩:=r;cases d with
 |int i=>exact⟨i,rv.view,k _ H1 s1 h1⟩
 |_=>exact h1.elim
def cutD(xs:List D)(lo hi:Option Int):List D:=(xs.drop (ZZ.sIx xs.length 0 lo)).take (ZZ.sIx xs.length xs.length hi-ZZ.sIx xs.length 0 lo)
def Ym{K:W.Frag}{H:Hp}{O:List Addr}{ds:List D}{xs:List V}(r:Reps K H O ds xs)(lo hi:Option Int):Reps K H O (cutD ds lo hi) (cutV xs lo hi):=by
 unfold cutD cutV;rw[r.length];exact(r.drop _).take _
def sSl:D->Option Int->Option Int->(EV->Prop)->Prop:=λx lo hi φ=>match x with
 |.lst ds=>φ (df (.lst (cutD ds lo hi)))
 |.scr ns=>φ (df (.lst (cutD (ns.map D.int) lo hi)))
 |.tup ds=>¬ (ZZ.sIx ds.length 0 lo=0/\ZZ.sIx ds.length ds.length hi=ds.length)/\φ (dv (.tup (cutD ds lo hi)))
 |_=>False
def dSl(te:TD)(tl th:TDo):TD:=λρ φ=>te ρ λx=>tl ρ λl=>th ρ λu=>sSl x.d l u φ
def xf{lo hi:Option Expr}{tl th:TDo}{p2:Pos}(he:ED Γ X e te)(hl:EO Γ X lo tl)(hu:EO Γ X hi th):ED Γ X (.Subscript e (.Slice lo hi none p2) pos) (dSl te tl th):=λH₀ =>
 impE (Su (Et.or Ah) (he H₀) (hl H₀) (hu H₀)) λσ H Q q=>by
  obtain⟨ρ,o,R,φ,hφ,k⟩:=q;refine⟨ρ,o,R,_,hφ,λv r H1 s1 rv h1=>⟨ρ,o,R.to s1,_,h1,λl H2 s2 h2=>⟨ρ,o,R.to (s1.trans s2),_,h2,λu H3 s3 h3=>?_⟩⟩⟩;have s12:=s1.trans s2;have s13:=s12.trans s3;have vw:=(rv.same (s2.trans s3)).view;obtain⟨kd,d⟩:=r;cases d with
  |lst ds =>
   obtain⟨a,xs,rfl,q,r⟩:=vw;refine .inl ⟨a,xs,rfl,SqL.of q,λp hp=>?_⟩;exact k _ _ _ (s13.trans (yd hp _)) (RV.start (fq (λa e=>R.ofree (s13.free e)) hp (Ym r l u)) s13) h3
  |scr ns =>
   obtain⟨a,rfl,q⟩:=vw;refine .inl ⟨a,_,rfl,q.seq,λp hp=>?_⟩;exact k _ _ _ (s13.trans (yd hp _)) (RV.start (fq (λa e=>R.ofree (s13.free e)) hp (Ym (Reps.ints ns) l u)) s13) h3
  |tup ds =>
   obtain⟨a,xs,rfl,q,r⟩:=vw;refine .inr ⟨a,xs,rfl,q.1,by rw[r.length];exact h3.1,λp hp=>?_⟩
   exact k _ _ _ (s13.trans (yd hp _)) (RV.start (Sj hp (Ym r l u)) s13) h3.2
  |_=>exact h3.elim
end
def u5(r:EV):Prop:=match r.k with
 |.val=>sw r.d
 |.own=>False
 |.fre=>match r.d with
  |.lst ds=>ve ds
  |.dk _ ds=>ve ds
  |_=>False
 |.new=>True
def RV.lift{K:W.Frag}{H0 H:Hp}{O:List Addr}{r:EV}{v:V}(h:RV K H0 H [] r v)(p:u5 r)(ho:∀ a,H0 a=none->a∉O):RV K H0 H O r v:=by
 obtain⟨k,d⟩:=r;cases k with
 |val=>exact Rep.pure _ _ p h
 |own=>exact p.elim
 |fre =>
  obtain⟨a,e,m,n,c⟩:=h;refine⟨a,e,m,ho a m,?_⟩;cases d with
  |lst ds=>obtain⟨xs,q,r⟩:=c;exact⟨xs,q,Reps.pure _ _ p r⟩
  |dk ks ds=>obtain⟨xs,q,l,nd,r⟩:=c;exact⟨xs,q,l,nd,Reps.pure _ _ p r⟩
  |fd m=>exact c
  |_=>exact c.elim
 |new=>exact RepN.to (Same.refl H) (λa z=>⟨ho a z.2,z.2⟩) _ _ h
abbrev FT:=List D->(EV->Prop)->Prop
def spD(K:W.Frag)(n:Nat)(T:FT):Sp:=λvs H Q _=>∃ds φ,ds.length=n/\Reps K H [] ds vs/\T ds φ/\∀v r H',Same H H'->RV K H H' [] r v->u5 r->φ r->Q v H'
structure FD(P:Program)(w:World)(K:W.Frag)(mg:Str->Option Value)(base:Heap)(k:Nat)(x:Str)(ps:List Str)(T:FT):Prop where
 ex:∃f fd,FnOk P w K mg base CX0 k f fd ps (spD K ps.length T)/\Z5 K fd ps []/\W.keepIn K (.ref f)=true/\mg x=some (.ref f)
def Bg(n:Nat)(T:FT)(t:TDs):TD:=λρ φ=>t ρ λrs=>Nat.beq rs.length n=true/\T (rs.map EV.d) φ
section
variable{x:Str}{ps:List Str}{T:FT}{k:Nat}{es:List Expr}{t:TDs}{p:Pos}
def Mc{H₀:Hp}:∀σ H Q,vq X.K H₀ (Bg ps.length T t) σ H Q->Ac (spD X.K ps.length T) [] E0 (Cf X.K H₀ t) σ H Q:=λσ H Q q=>by
 obtain⟨ρ,o,R,φ,hφ,kk⟩:=q;refine⟨ρ,o,R,_,hφ,λvs rs H1 s1 rvs h1=>?_⟩;show spD X.K ps.length T (vs++[]) H1 Q E0;rw[List.append_nil];refine⟨rs.map EV.d,φ,by rw[zLm];exact Nat.eq_of_beq_eq_true h1.1,rvs.reps0,h1.2,λv r H2 s2 rv pr h2=>?_⟩
 exact kk v r H2 (s1.trans s2) (RV.start (rv.lift pr λa e=>R.ofree (s1.free e)) s1) h2
def zg(F:FD X.prog X.w X.K X.mg X.base k x ps T)(hr:Room k X.A)(ha:EA Γ X (e::es) t)(hg:Gl X x:=by rfl)(hdb:(x==("__debug__" : Str))=false:=by decide)(he:starEach (e::es) X.env=(false,eval e X.env)::starEach es X.env:=by rfl)(hpl:(backTo pos (starEach es X.env)).any (·.1)=false:=by rfl):ED Γ X (.Call (.Name x p) (e::es) [] pos) (Bg ps.length T t):=λH₀=>by
 obtain⟨f,fd,ok,b,kp,m⟩:=F.ex;exact impE (Nk ok hr hg m kp b .nil z0t (ha H₀) hdb he hpl) Mc
def Bs(K:W.Frag)(H:Hp)(O:List Addr):List D->List V->Prop
 |[],vs=>vs=[]
 |d::ds,vs=>∃v ws,vs=v::ws/\View K H O d v/\Bs K H O ds ws
def RVs.views{K:W.Frag}{H0 H:Hp}{O:List Addr}:∀{rs:List EV}{vs:List V},RVs K H0 H O rs vs->Bs K H O (rs.map EV.d) vs
 |[],_,h=>h
 |r::rs,vs,h=>by
  obtain⟨v,ws,e,q,t⟩:=h;exact⟨v,ws,e,q.view,t.views⟩
def K8(K:W.Frag)(r:List V->Hp->VK->Prop)(s:FT):Prop :=
 ∀(H:Hp)(O:List Addr)(ds:List D)(vs:List V)(φ:EV->Prop)(Q:VK),(∀a,H a=none->a∉O)->Bs K H O ds vs->s ds φ->(∀v r H',Same H H'->RV K H H' O r v->φ r->Q v H')->r vs H Q
def dCB(s:FT)(t:TDs):TD:=λρ φ=>t ρ λrs=>s (rs.map EV.d) φ
def Mb{r:List V->Hp->VK->Prop}{s:FT}(hl:K8 X.K r s){H₀:Hp}:∀σ H Q,vq X.K H₀ (dCB s t) σ H Q->tCB r (Cf X.K H₀ t) σ H Q:=λσ H Q q=>by
 obtain⟨ρ,o,R,φ,hφ,kk⟩:=q;refine⟨ρ,o,R,_,hφ,λvs rs H1 s1 rvs h1=>?_⟩;exact hl H1 _ _ vs φ Q (λa e=>R.ofree (s1.free e)) rvs.views h1 λv r H2 s2 rv h2=>kk v r H2 (s1.trans s2) (rv.start s1) h2
def kj{id:String}{r:List V->Hp->VK->Prop}{s:FT}(hc:vt X (.builtin id) r)(hl:K8 X.K r s)(hm:X.mg x=none)(hv:bootBuiltins x=some (.builtin id))(ha:EA Γ X (e::es) t)(hg:Gl X x:=by rfl)(hn:x≠"__name__":=by decide)(hdb:(x==("__debug__" : Str))=false:=by decide)(he:starEach (e::es) X.env=(false,eval e X.env)::starEach es X.env:=by rfl)(hpl:(backTo pos (starEach es X.env)).any (·.1)=false:=by rfl):ED Γ X (.Call (.Name x p) (e::es) [] pos) (dCB s t):=λH₀ =>
 impE (qq hc hg hm hv (ha H₀) hn hdb he hpl) (Mb hl)
def vg{T:String}{r:List V->Hp->VK->Prop}{s:FT}(hc:vt X (.type T) r)(hl:K8 X.K r s)(hm:X.mg x=none)(hv:bootBuiltins x=some (.type T))(ha:EA Γ X (e::es) t)(hg:Gl X x:=by rfl)(hn:x≠"__name__":=by decide)(hdb:(x==("__debug__" : Str))=false:=by decide)(he:starEach (e::es) X.env=(false,eval e X.env)::starEach es X.env:=by rfl)(hpl:(backTo pos (starEach es X.env)).any (·.1)=false:=by rfl):ED Γ X (.Call (.Name x p) (e::es) [] pos) (dCB s t):=λH₀ =>
 impE (Wk hc hg hm hv (ha H₀) hn hdb he hpl) (Mb hl)
def sLen:FT:=λds φ=>match ds with
 |[.lst l]=>φ (dv (.int l.length))
 |[.tup l]=>φ (dv (.int l.length))
 |[.scr l]=>φ (dv (.int l.length))
 |[.str z]=>z.length<=sizeLine/\φ (dv (.int z.length))
 |_=>False
def Js:K8 X.K (λxs H Q=>(∃p ys,xs=[.ref p]/\(SqL X.K H p ys\/SqT X.K H p ys)/\Q (.int ys.length) H)\/∃z,xs=[.str z]/\z.length<=sizeLine/\Q (.int z.length) H) sLen:=by
 intro H O ds vs φ Q ho hv h k;unfold sLen at h;split at h
 ·obtain⟨v,ws,rfl,⟨a,xs,rfl,q,r⟩,rfl⟩:=hv;refine .inl ⟨a,xs,rfl,.inl (SqL.of q),?_⟩;rw[r.length];exact k _ _ H (Same.refl H) (by exact rfl) h
 ·obtain⟨v,ws,rfl,⟨a,xs,rfl,q,r⟩,rfl⟩:=hv;refine .inl ⟨a,xs,rfl,.inr q.1,?_⟩;rw[r.length];exact k _ _ H (Same.refl H) (by exact rfl) h
 ·obtain⟨v,ws,rfl,⟨a,rfl,q⟩,rfl⟩:=hv;refine .inl ⟨a,_,rfl,.inl q.seq,?_⟩;rw[zLm];exact k _ _ H (Same.refl H) (by exact rfl) h
 ·obtain⟨v,ws,rfl,hz,rfl⟩:=hv;cases (show v=_ from hz);exact .inr ⟨_,rfl,h.1,k _ _ H (Same.refl H) (by exact rfl) h.2⟩
 ·exact h.elim
def xt(hm:X.mg "len" = none)(ha:EA Γ X (e::es) t)(hg:Gl X "len":=by rfl)(he:starEach (e::es) X.env=(false,eval e X.env)::starEach es X.env:=by rfl)(hpl:(backTo pos (starEach es X.env)).any (·.1)=false:=by rfl):ED Γ X (.Call (.Name "len" p) (e::es) [] pos) (dCB sLen t) :=
 kj (u9.or Vx) Js hm PySem.boot_len ha hg (by decide) (by decide) he hpl
end
def EV.sto(r:EV):EV:=⟨match r.k with
 |.fre=>.own
 |.new=>.val
 | k=>k,r.d⟩
def EV.ret(r:EV):EV:=⟨match r.k with
 |.own=>.fre
 | k=>k,r.d⟩
def setS:DE->Nat->EV->DE
 |[],_,_=>[]
 |_::r,0,v=>some v::r
 |x::r,i+1,v=>x::setS r i v
def uq:∀(ρ:DE)(i:Nat)(v:EV),setS ρ i v=ρ.set i (some v)
 |[],_,_=>rfl
 |_::_,0,_=>rfl
 |x::r,i+1,v=>by rw[setS,uq r i v,List.set_cons_succ]
def Con1.grow{K:W.Frag}{H H':Hp}{O O':List Addr}{d:D}{a:Addr}(h:Con1 K H O d a)(s:∀ u,H a=some u->H' a=some u)(g:Grow O O' H H'):Con1 K H' O' d a:=by
 cases d with
 |lst ds=>obtain⟨xs,q,r⟩:=h;exact⟨xs,s _ q,Reps.grow g _ _ r⟩
 |dk ks ds=>obtain⟨xs,q,l,n,r⟩:=h;exact⟨xs,s _ q,l,n,Reps.grow g _ _ r⟩
 |fd m=>exact s _ h
 |_=>exact h.elim
def Con1.mtb{K:W.Frag}{H:Hp}{O:List Addr}{d:D}{a:Addr}(h:Con1 K H O d a):(∃u,H a=some u)/\(∀xs,H a≠some (.tup xs))/\∀ob u,H a≠some (.frz ob u):=by
 cases d with
 |lst ds=>obtain⟨xs,q,r⟩:=h;exact⟨⟨_,q⟩,(λxs z=>by rw[q]at z;cases z),(λob u z=>by rw[q]at z;cases z)⟩
 |dk ks ds=>obtain⟨xs,q,r⟩:=h;exact⟨⟨_,q⟩,(λxs z=>by rw[q]at z;cases z),(λob u z=>by rw[q]at z;cases z)⟩
 |fd m=>have q:H a=some (t6 a m):=h;exact⟨⟨_,q⟩,(λxs z=>by rw[q]at z;cases z),(λob u z=>by rw[q]at z;cases z)⟩
 |_=>exact h.elim
def REnv.setV(R:REnv K H₀ H σ ρ o)(i:Nat){d:D}{v:V}(h:Rep K H (o.map Prod.snd) d v):REnv K H₀ H (σ.set i (some v)) (setS ρ i (dv d)) o where
 same:=R.same
 fresh:=R.fresh
 trk:=R.trk
 mtb:=R.mtb
 nda:=R.nda
 len:=by rw[uq,List.length_set,List.length_set];exact R.len
 slots:=λj r e=>by
  rw[uq]at e;by_cases hj:j=i
  ·subst hj;have hl:j<ρ.length:=by
    rcases Nat.lt_or_ge j ρ.length with z|z
    ·exact z
    ·rw[List.getElem?_eq_none (by rw[List.length_set];exact z)]at e
     cases e
   rw[List.getElem?_set_self hl]at e;cases e;exact⟨v,List.getElem?_set_self (by rw[R.len];exact hl),.inl ⟨rfl,h⟩⟩
  ·rw[List.getElem?_set_ne (Ne.symm hj)]at e;obtain⟨w,ew,q⟩:=R.slots j r e;exact⟨w,by rw[List.getElem?_set_ne (Ne.symm hj)];exact ew,q⟩
def REnv.setO(R:REnv K H₀ H σ ρ o)(s:Same H H')(i:Nat){d:D}{a:Addr}(ha:H a=none)(c:Con1 K H' (a::o.map Prod.snd) d a) :
  REnv K H₀ H' (σ.set i (some (.ref a))) (setS ρ i (dO d)) ((i,a)::o)/\Grow (o.map Prod.snd) (((i,a)::o).map Prod.snd) H H':=by
 have g:Grow (o.map Prod.snd) (((i,a)::o).map Prod.snd) H H':=by
  refine⟨λb u h n=>⟨s b u h,λz=>?_⟩,λb xs h=>s b _ h,λb ob u h=>s b _ h⟩;rw[List.map_cons]at z;rcases zam.mp z with z|z
  ·exact zx h ha z
  ·exact n z
 refine⟨?_,g⟩;have R':=R.to s;exact {
  same:=R'.same
  fresh:=λp hp=>by
   rcases zam.mp hp with rfl|hp
   ·exact R.same.free ha
   ·exact R.fresh p hp
  trk:=λp hp=>by
   rcases zam.mp hp with rfl|hp
   ·exact c.mtb.1
   ·exact R'.trk p hp
  mtb:=λp hp=>by
   rcases zam.mp hp with rfl|hp
   ·exact c.mtb.2
   ·exact R'.mtb p hp
  nda:=by
   rw[List.map_cons,List.nodup_cons];exact⟨λz=>R.ofree ha z,R.nda⟩
  len:=by rw[uq,List.length_set,List.length_set];exact R.len
  slots:=λj r e=>by
   rw[uq]at e;by_cases hj:j=i
   ·subst hj;have hl:j<ρ.length:=by
     rcases Nat.lt_or_ge j ρ.length with z|z
     ·exact z
     ·rw[List.getElem?_eq_none (by rw[List.length_set];exact z)]at e
      cases e
    rw[List.getElem?_set_self hl]at e;cases e;exact⟨_,List.getElem?_set_self (by rw[R.len];exact hl),.inr ⟨rfl,a,rfl,zao ..,c⟩⟩
   ·rw[List.getElem?_set_ne (Ne.symm hj)]at e;obtain⟨w,ew,q⟩:=R.slots j r e;refine⟨w,by rw[List.getElem?_set_ne (Ne.symm hj)];exact ew,?_⟩
    rcases q with⟨k,q⟩|⟨k,a',e1,m,c'⟩
    ·exact .inl ⟨k,Rep.grow g _ _ q⟩
    ·exact .inr ⟨k,a',e1,zal _ m,c'.grow (λu q=>s _ _ q) g⟩}
def REnv.put(R:REnv K H₀ H σ ρ o)(s:Same H H')(i:Nat){r:EV}{v:V}(h:RV K H H' (o.map Prod.snd) r v)(hk:r.k≠.own) :
  ∃o',REnv K H₀ H' (σ.set i (some v)) (setS ρ i r.sto) o'/\Grow (o.map Prod.snd) (o'.map Prod.snd) H H':=by
 obtain⟨k,d⟩:=r;cases k with
 |val=>exact⟨_,(R.to s).setV i h,Grow.same s⟩
 |own=>exact absurd rfl hk
 |fre =>
  obtain⟨a,rfl,m,n,c⟩:=h;exact⟨_,R.setO s i m c⟩
 |new=>exact⟨_,(R.to s).setV i (RepN.rep (λa z=>z.1) _ _ h),Grow.same s⟩
def X6:∀{o:List (Nat×Addr)},(o.map Prod.snd).Nodup->∀{p q:Nat×Addr},p∈o->q∈o->p.2=q.2->p=q
 |[],_,_,_,h,_,_=>nomatch h
 |x::o,nd,p,q,hp,hq,e=>by
  rw[List.map_cons,List.nodup_cons]at nd;rcases zam.mp hp with h1|hp
  ·rcases zam.mp hq with h2|hq
   ·rw[h1,h2]
   ·exact absurd (zah.mpr ⟨q,hq,by rw[<- e,h1]⟩) nd.1
  ·rcases zam.mp hq with h2|hq
   ·exact absurd (zah.mpr ⟨p,hp,by rw[e,h2]⟩) nd.1
   ·exact X6 nd.2 hp hq e
def REnv.chg(R:REnv K H₀ H σ ρ o){i:Nat}{a:Addr}{d d':D}{ho:HO}(hs:ρ[i]?=some (some (dO d)))(hσ:σ[i]?=some (some (.ref a)))(hm:(i,a)∈o)(hho:(∀ xs,ho≠.tup xs)/\∀ ob u,ho≠.frz ob u)(c:(∀ ds xs,Reps K H (o.map Prod.snd) ds xs->Reps K (upd H a ho) (o.map Prod.snd) ds xs)->Con1 K (upd H a ho) (o.map Prod.snd) d' a) :
  REnv K H₀ (upd H a ho) σ (setS ρ i (dO d')) o/\Grow (o.map Prod.snd) (o.map Prod.snd) H (upd H a ho):=by
 have ha:a∈o.map Prod.snd:=zah.mpr ⟨_,hm,rfl⟩;obtain⟨m1,m2⟩:=R.mtb _ hm;have g:Grow (o.map Prod.snd) (o.map Prod.snd) H (upd H a ho) :=
  ⟨λb u h n=>⟨by rw[zy (show b≠a from λz=>n (by rw[z];exact ha))];exact h,n⟩,λb xs h=>by rw[zy (show b≠a from λz=>m1 xs (by rw[<- z];exact h))];exact h,λb ob u h=>by rw[zy (show b≠a from λz=>m2 ob u (by rw[<- z];exact h))];exact h⟩
 refine⟨?_,g⟩;exact {
  same:=λb u h=>by
   have:b≠a:=λz=>by
    have:=R.fresh _ hm;rw[<- z,h]at this;cases this
   rw[zy this];exact R.same b u h
  fresh:=R.fresh
  trk:=λp hp=>by
   by_cases e:p.2=a
   ·exact⟨ho,by rw[e];exact zu⟩
   ·rw[zy e];exact R.trk p hp
  mtb:=λp hp=>by
   by_cases e:p.2=a
   ·rw[e,zu];exact⟨λxs z=>hho.1 xs (Option.some.inj z),λob u z=>hho.2 ob u (Option.some.inj z)⟩
   ·rw[zy e];exact R.mtb p hp
  nda:=R.nda
  len:=by rw[uq,List.length_set];exact R.len
  slots:=λj r e=>by
   rw[uq]at e;by_cases hj:j=i
   ·subst hj;have hl:j<ρ.length:=(zag.mp hs).1;rw[List.getElem?_set_self hl]at e;cases e;obtain⟨v,ev,q⟩:=R.slots j _ hs;rcases q with⟨k,_⟩|⟨_,a',e1,m',_⟩
    ·cases k
    ·have haa:a'=a:=by
      rw[hσ]at ev;cases ev;cases e1;rfl
     subst haa;exact⟨v,ev,.inr ⟨rfl,a',e1,hm,c λds xs q=>Reps.grow g _ _ q⟩⟩
   ·rw[List.getElem?_set_ne (Ne.symm hj)]at e;obtain⟨w,ew,q⟩:=R.slots j r e;refine⟨w,ew,?_⟩;rcases q with⟨k,q⟩|⟨k,a',e1,m',c'⟩
    ·exact .inl ⟨k,Rep.grow g _ _ q⟩
    ·refine .inr ⟨k,a',e1,m',c'.grow (λu q=>?_) g⟩;have hne:a'≠a:=λz=>by
      exact hj (congrArg Prod.fst (X6 R.nda m' hm z))
     rw[zy hne];exact q}
section
variable{st:Stmt}{rest:List Stmt}{t u:TDS}{te:TD}{tc:TDb}
def sNil:TDS:=λρ Z=>Z.nx ρ
def sSeq(t u:TDS):TDS:=λρ Z=>t ρ {Z with nx:=λρ'=>u ρ' Z}
def y7:SDs Γ X [] sNil:=λH₀=>z1z Ys λD σ H h=>by
 obtain⟨ρ,o,R,Z,hZ,k1,_⟩:=h;exact k1 ρ σ H o Grow.refl R hZ
def ze(h1:SD Γ X st t)(h2:SDs Γ X rest u):SDs Γ X (st::rest) (sSeq t u):=λH₀=>z1z (ut (h1 H₀) (h2 H₀)) λD σ H h=>by
 obtain⟨ρ,o,R,Z,hZ,k1,k2,k3,k4⟩:=h;refine⟨ρ,o,R,_,hZ,λρ' σ' H' o' g R' q=>?_,k2,k3,k4⟩;exact⟨ρ',o',R',Z,q,λρ2 σ2 H2 o2 g2 R2 q2=>k1 ρ2 σ2 H2 o2 (g.trans g2) R2 q2,λρ2 σ2 H2 o2 g2 R2 q2=>k2 ρ2 σ2 H2 o2 (g.trans g2) R2 q2,λρ2 σ2 H2 o2 g2 R2 q2=>k3 ρ2 σ2 H2 o2 (g.trans g2) R2 q2,k4⟩
def zi(h1:SD Γ X st t):SDs Γ X [st] t:=λH₀=>vz (h1 H₀)
def vp:SD Γ X st (λ_ _=>False):=λH₀=>impS Je λD σ H h=>by
 obtain⟨_,_,_,_,hZ,_⟩:=h;exact hZ.elim
def sRet(te:TD):TDS:=λρ Z=>te ρ λr=>Z.rt r.ret
def RV.ret{K:W.Frag}{H₀ H H':Hp}{σ:St}{ρ:DE}{o:List (Nat×Addr)}(R:REnv K H₀ H σ ρ o){r:EV}{v:V}(h:RV K H H' (o.map Prod.snd) r v):RV K H₀ H' [] r.ret v:=by
 obtain⟨k,d⟩:=r;cases k with
 |val=>exact Rep.sub (O':=[]) (λ_ z=>absurd z (by simp)) _ _ h
 |own =>
  obtain⟨a,e,m,c⟩:=h;obtain⟨p,hp,ep⟩:=zah.mp m;subst ep;exact⟨p.2,e,R.fresh p hp,by simp,c.sub λb hb=>by
   have:b=p.2:=by simpa using hb
   rw[this];exact m⟩
 |fre =>
  obtain⟨a,e,m,n,c⟩:=h;exact⟨a,e,R.same.free m,by simp,c.sub λb hb=>by
   have:b=a:=by simpa using hb
   rw[this];exact zao ..⟩
 |new=>exact RepN.to (Same.refl H') (λa z=>⟨by simp,R.same.free z.2⟩) _ _ h
def zp(he:ED Γ X e te):SD Γ X (.Return (some e) pos) (sRet te):=λH₀=>impS (Zm (he H₀)) λD σ H h=>by
 obtain⟨ρ,o,R,Z,hZ,k1,k2,k3,k4⟩:=h;refine⟨ρ,o,R,_,hZ,λv r H1 s1 rv h1=>?_⟩;exact k4 v r.ret H1 (R.same.trans s1) (RV.ret R rv) h1
def sIf(tc:TDb)(t u:TDS):TDS:=λρ Z=>tc ρ λc=>(c=true->t ρ Z)/\(c=false->u ρ Z)
def yh{c:Expr}{a b:List Stmt}(hc:ET Γ X c tc)(ha:SDs Γ X a t)(hb:SDs Γ X b u):SD Γ X (.If c a b pos) (sIf tc t u):=λH₀=>impS (Ul (hc H₀) (ha H₀) (hb H₀)) λD σ H h=>by
 obtain⟨ρ,o,R,Z,hZ,k1,k2,k3,k4⟩:=h;refine⟨ρ,o,R,_,hZ,λc H1 s1 h1=>?_⟩;have g:Grow (o.map Prod.snd) (o.map Prod.snd) H H1:=Grow.same s1;have kk:∀{v:TDS},v ρ Z->Ux X.K H₀.1 v D σ H1:=λhv=>⟨ρ,o,R.to s1,Z,hv,λρ2 σ2 H2 o2 g2 R2 q2=>k1 ρ2 σ2 H2 o2 (g.trans g2) R2 q2,λρ2 σ2 H2 o2 g2 R2 q2=>k2 ρ2 σ2 H2 o2 (g.trans g2) R2 q2,λρ2 σ2 H2 o2 g2 R2 q2=>k3 ρ2 σ2 H2 o2 (g.trans g2) R2 q2,k4⟩;cases c with
 |true=>exact iteT (kk (h1.1 rfl))
 |false=>exact iteF (kk (h1.2 rfl))
def sCut(t:TDS):TDS:=λρ Z=>∃J:DE->Prop,t ρ {Z with nx:=J}/\∀ρ',J ρ'->Z.nx ρ'
def zj(h:SD Γ X st t):SD Γ X st (sCut t):=λH₀=>impS (h H₀) λD σ H h=>by
 obtain⟨ρ,o,R,Z,⟨J,hZ,hJ⟩,k1,k2,k3,k4⟩:=h;exact⟨ρ,o,R,_,hZ,λρ2 σ2 H2 o2 g2 R2 q2=>k1 ρ2 σ2 H2 o2 g2 R2 (hJ ρ2 q2),k2,k3,k4⟩
def Ao(te:TD):TDS:=λρ Z=>te ρ λ_=>Z.nx ρ
def Ot(he:ED Γ X e te)(hs:swapsWith e none pos.line X.env=pure false:=by rfl):SD Γ X (.Expr e pos) (Ao te):=λH₀=>impS (rz (he H₀) hs) λD σ H h=>by
 obtain⟨ρ,o,R,Z,hZ,k1,k2,k3,k4⟩:=h;exact⟨ρ,o,R,_,hZ,λv r H1 s1 rv h1=>k1 ρ σ H1 o (Grow.same s1) (R.to s1) h1⟩
def sSet(i:Nat)(te:TD):TDS:=λρ Z=>te ρ λr=>(match r.k with|.own=>False|_=>True)/\Z.nx (setS ρ i r.sto)
def re{r:EV}(h:match r.k with|.own=>False|_=>True):r.k≠.own:=by
 obtain⟨k,d⟩:=r;cases k with
 |own=>exact h.elim
 |val=>exact λz=>nomatch z
 |fre=>exact λz=>nomatch z
 |new=>exact λz=>nomatch z
def zt(i:Nat){x:Str}{pos':Pos}(hN:X.N.Nodup)(he:ED Γ X e te)(hi:X.N[i]?=some x:=by rfl)(hx:Loc X.env.scope x:=by first|exact Or.inl rfl|exact Or.inr rfl)(hs:swapsWith e (some (.Name x pos')) pos.line X.env=pure false:=by rfl)(hf:X.fn x=true\/X.env.scope.names.lookup x=some .local:=by first|exact .inl rfl|exact .inr rfl|assumption):SD Γ X (.Assign [.Name x pos'] e pos) (sSet i te):=λH₀=>impS (Sq hN hi hx (he H₀) hs hf) λD σ H h=>by
 obtain⟨ρ,o,R,Z,hZ,k1,k2,k3,k4⟩:=h;refine⟨ρ,o,R,_,hZ,λv r H1 s1 rv h1=>?_⟩;obtain⟨o',R',g⟩:=R.put s1 i rv (re h1.1);exact k1 _ _ H1 o' g R' h1.2
abbrev TGD:=D->DE->(DE->Prop)->Prop
def bu(K:W.Frag)(g2:TG)(g:TGD):Prop:=∀(H₀ H:Hp)(σ:St)(ρ:DE)(o:List (Nat×Addr))(d:D)(v:V)(ψ:DE->Prop)(Q:St->Hp->Prop),REnv K H₀ H σ ρ o->Rep K H (o.map Prod.snd) d v->g d ρ ψ ->
 (∀ρ' σ',REnv K H₀ H σ' ρ' o->ψ ρ'->Q σ' H)->g2 v σ H Q
def gN(i:Nat):TGD:=λd ρ ψ=>ψ (setS ρ i (dv d))
def yc{K:W.Frag}(i:Nat):bu K (k5 i) (gN i):=λH₀ H σ ρ o d v ψ Q R h hg k=>k _ _ (R.setV i h) hg
def gT2(i j:Nat):TGD:=λd ρ ψ=>match d with
 |.tup [a,b]=>ψ (setS (setS ρ i (dv a)) j (dv b))
 |_=>False
def v5{K:W.Frag}(i j:Nat):bu K (gTup K 2 (bw (k5 i) (bw (k5 j) gNil))) (gT2 i j):=λH₀ H σ ρ o d v ψ Q R h hg k=>by
 unfold gT2 at hg;split at hg
 ·rename_i a b;obtain⟨p,xs,rfl,q,r⟩:=h;obtain⟨v1,r1,rfl,h1,v2,r2,rfl,h2,rfl⟩:=r;refine⟨p,_,rfl,q.1,rfl,v1,_,rfl,v2,_,rfl,rfl,?_⟩;have R1:=R.setV i h1;have R2:=R1.setV j h2;exact k _ _ R2 hg
 ·exact hg.elim
def gT4(i j l m:Nat):TGD:=λd ρ ψ=>match d with
 |.tup [a,b,c,e]=>ψ (setS (setS (setS (setS ρ i (dv a)) j (dv b)) l (dv c)) m (dv e))
 |_=>False
def sWh(tc:TDb)(tb:TDS):TDS:=λρ Z=>∃(P:DE->Prop)(μ:DE->Nat),P ρ/\∀ρ,P ρ->tc ρ λc =>
 (c=true->tb ρ {Z with nx:=λρ'=>P ρ'/\μ ρ'<μ ρ,ct:=λρ'=>P ρ'/\μ ρ'<μ ρ,bk:=Z.nx})/\(c=false->Z.nx ρ)
def J5{c:Expr}{body:List Stmt}{tb:TDS}(hc:ET Γ X c tc)(hb:SDs Γ X body tb)(hp:PassesOwn (model X.prog X.w) X.A X.env X.xe:=by exact PassesOwn.never):SD Γ X (.While c body [] pos) (sWh tc tb):=λH₀=>impS (Jd hp (hc H₀) (hb H₀)) λD σ H h=>by
 obtain⟨ρ,o,R,Z,⟨P,μ,hP,turn⟩,k1,k2,k3,k4⟩:=h;refine⟨λm σ' H'=>∃ρ' o',Grow (o.map Prod.snd) (o'.map Prod.snd) H H'/\REnv X.K H₀ H' σ' ρ' o'/\P ρ'/\μ ρ'=m,⟨_,ρ,o,Grow.refl,R,hP,rfl⟩,?_⟩;rintro m σ1 H1 ⟨ρ1,o1,g1,R1,p1,rfl⟩;refine⟨ρ1,o1,R1,_,turn ρ1 p1,λc H2 s2 h2=>?_⟩;have g2:=g1.trans (Grow.same (O:=o1.map Prod.snd) s2);cases c with
 |true =>
  refine iteT ⟨λσ' H'=>∃ρ' o',Grow (o.map Prod.snd) (o'.map Prod.snd) H H'/\REnv X.K H₀ H' σ' ρ' o'/\P ρ'/\μ ρ'<μ ρ1,λσ' H' ⟨ρ',o',g,R',p,l⟩=>⟨_,l,ρ',o',g,R',p,rfl⟩,?_⟩;exact⟨ρ1,o1,R1.to s2,_,h2.1 rfl,λρ' σ' H' o' g R' q=>⟨ρ',o',g2.trans g,R',q.1,q.2⟩,λρ' σ' H' o' g R' q=>k1 ρ' σ' H' o' (g2.trans g) R' q,λρ' σ' H' o' g R' q=>⟨ρ',o',g2.trans g,R',q.1,q.2⟩,k4⟩
 |false=>exact iteF (k1 ρ1 σ1 H2 o1 g2 (R1.to s2) (h2.2 rfl))
structure ItD(K:W.Frag)(J:It)(ds:List D)(P:Hp->List Addr->Prop):Prop where
 go:∀(H:Hp)(O:List Addr)(i:Nat)(d:D),P H O->ds[i]?=some d->J.go i H/\∀x H',J.yld i H x H'->Same H H'/\Rep K H' O d x
 stop:∀(H:Hp)(O:List Addr),P H O->J.stop ds.length H
 keep:∀(O O':List Addr)(H H':Hp),P H O->Grow O O' H H'->P H' O'
abbrev TID:=DE->(List D->Prop)->Prop
def Jy(K:W.Frag)(H₀:Hp)(t:TID):TI:=λσ H R=>∃ρ o,REnv K H₀ H σ ρ o/\∃φ,t ρ φ/\∀J ds P H',Same H H'->ItD K J ds P->P H' (o.map Prod.snd)->φ ds->R J H'
def EI(G:Hp->Prop)(X:Cx)(tg iter:Expr)(t:TID):Prop:=∀H₀:{H:Hp // G H},PI X tg iter (Jy X.K H₀.1 t)
def sFor(ti:TID)(g:TGD)(tb:TDS):TDS:=λρ Z=>ti ρ λds=>∃P:Nat->DE->Prop,P 0 ρ/\(∀i d ρ,ds[i]?=some d->P i ρ->g d ρ λρ'=>tb ρ' {Z with nx:=P (i+1),ct:=P (i+1),bk:=Z.nx})/\∀ρ,P ds.length ρ->Z.nx ρ
def fk{tg iter:Expr}{body:List Stmt}{ti:TID}{g2:TG}{g:TGD}{tb:TDS}(hi:EI Γ X tg iter ti)(hg:PG X tg g2)(hl:bu X.K g2 g)(hb:SDs Γ X body tb)(hc:X.calm=true:=by rfl)(hp:PassesOwn (model X.prog X.w) X.A X.env X.xe:=by exact PassesOwn.never)(hs:∀ x,foldedSetIterable iter X.env x=pure x:=by intro _;rfl):SD Γ X (.For tg iter body [] pos) (sFor ti g tb):=λH₀=>impS (Fc hp hc (hi H₀) hg (hb H₀) hs) λD σ H h=>by
 obtain⟨ρ,o,R,Z,hZ,k1,k2,k3,k4⟩:=h;refine⟨ρ,o,R,_,hZ,λJ ds PJ H1 s1 I hP ⟨P,p0,turn,fin⟩=>?_⟩;refine⟨λi m σ' H'=>m=ds.length-i/\i<=ds.length/\∃ρ' o',Grow (o.map Prod.snd) (o'.map Prod.snd) H1 H'/\REnv X.K H₀ H' σ' ρ' o'/\P i ρ',⟨_,rfl,Nat.zero_le _,ρ,o,Grow.refl,R.to s1,p0⟩,?_⟩;rintro i m σ' H' ⟨rfl,hi',ρ',o',g',R',p'⟩;have hP':=I.keep _ _ _ _ hP g';have gg:Grow (o.map Prod.snd) (o'.map Prod.snd) H H':=(Grow.same s1).trans g';by_cases hlt:i<ds.length
 ·have ed:ds[i]?=some ds[i]:=by simp[hlt]
  obtain⟨j1,j2⟩:=I.go H' _ i _ hP' ed;refine .inr ⟨j1,λσ2 H2=>∃ρ2 o2,Grow (o.map Prod.snd) (o2.map Prod.snd) H1 H2/\REnv X.K H₀ H2 σ2 ρ2 o2/\P (i+1) ρ2,λσ2 H2 ⟨ρ2,o2,g2,R2,p2⟩=>⟨_,(by omega:ds.length-(i+1)<ds.length-i),rfl,hlt,ρ2,o2,g2,R2,p2⟩,λx H2 y=>?_⟩
  obtain⟨s2,rp⟩:=j2 x H2 y;refine hl H₀.1 H2 σ' ρ' o' _ x _ _ (R'.to s2) rp (turn i _ ρ' ed p') λρ3 σ3 R3 q3=>?_;have g13:Grow (o.map Prod.snd) (o'.map Prod.snd) H1 H2:=g'.trans (Grow.same s2);have gg3:Grow (o.map Prod.snd) (o'.map Prod.snd) H H2:=gg.trans (Grow.same s2);exact⟨ρ3,o',R3,_,q3,λρ4 σ4 H4 o4 g4 R4 q4=>⟨ρ4,o4,g13.trans g4,R4,q4⟩,λρ4 σ4 H4 o4 g4 R4 q4=>k1 ρ4 σ4 H4 o4 (gg3.trans g4) R4 q4,λρ4 σ4 H4 o4 g4 R4 q4=>⟨ρ4,o4,g13.trans g4,R4,q4⟩,k4⟩
 ·have e:i=ds.length:=by omega
  subst e;exact .inl ⟨I.stop H' _ hP',k1 ρ' σ' H' o' gg R' (fin ρ' p')⟩
end
section
variable{te:TD}{t:TDs}
def impI{iter:Expr}{t t':TI}(h:PI X tg iter t)(i:∀ σ H R,t' σ H R->t σ H R):PI X tg iter t':=λpn s σ H R I q=>h pn s σ H R I (i σ H R q)
def PV(X:Cx)(tg:Expr)(r:V->Hp->(It->Hp->Prop)->Prop):Prop :=
 ∀(pn:List (Addr×Obj))(s:Shared)(σ:St)(H:Hp)(x:V)(v:Value)(R:It->Hp->Prop),Inv X pn σ H s->RelV x v->r x H R->wpAny (model X.prog X.w) X.A (pyIter v) (PIE X pn σ tg R) X.xe s
def z3m{l:Expr}{tl:TE}{r:V->Hp->(It->Hp->Prop)->Prop}(hl:PE X l tl)(hv:PV X tg r):PI X tg l (λσ H R=>tl σ H λx H1=>r x H1 R):=λpn s σ H R I h =>
 thn (hl pn s σ H _ I h) λv s1 ⟨x,H1,I1,r1,q1⟩=>hv pn s1 σ H1 x v R I1 r1 q1
def Df:PV X tg (λx H R=>∃a,x=.ref a/\(∃xs,SqL X.K H a xs)/\R (Itl X.K a) H):=by
 intro pn s1 σ H1 x v R I1 r1 q1;obtain⟨a,e,⟨xs,hq⟩,q⟩:=q1;subst e;cases r1;obtain⟨its,rv,p,hz⟩:=I1.list hq;refine wpAny_pyIter_list p.isList ?_;refine⟨s1.heap.objs.size,[s1.heap.objs.size],_,_,H1,rfl,I1.kept (t':=s1.toks) λb o e=>zac _ e,W6 a _,⟨_,zad _ rfl,rfl,rfl⟩,λb hb=>?_,q⟩;have e:b=s1.heap.objs.size:=by simpa using hb
 subst e;exact I1.fpOk (zaj _) (I1.hok.fresh (zaj _))
def z0a:PV X tg (λx H R=>∃a,x=.ref a/\(∃xs,SqT X.K H a xs)/\R (Itt X.K a) H):=by
 intro pn s1 σ H1 x v R I1 r1 q1;obtain⟨a,e,⟨xs,hq⟩,q⟩:=q1;subst e;cases r1;obtain⟨its,rv,p,hz⟩:=I1.tuple hq;refine wpAny_pyIter_tuple (show s1.heap.IsTuple a its.toArray from p) ?_;refine⟨s1.heap.objs.size,[s1.heap.objs.size],_,_,H1,rfl,I1.kept (t':=s1.toks) λb o e=>zac _ e,Q7 a _,⟨_,zad _ rfl,rfl,rfl⟩,λb hb=>?_,q⟩;have e:b=s1.heap.objs.size:=by simpa using hb
 subst e;exact I1.fpOk (zaj _) (I1.hok.fresh (zaj _))
def z0b:PV X tg (λx H R=>∃z,x=.str z/\R (Itv z.cps.size (Bt z)) H):=by
 intro pn s1 σ H1 x v R I1 r1 q1;obtain⟨z,e,q⟩:=q1;subst e;obtain⟨t,rfl⟩:=r1;have lay:∀(T:String),(∀A:Around,A.handled=none->Walks X.prog X.w A s1.heap.objs.size [s1.heap.objs.size] [s1.heap.objs.size] z.cps.size (SignAt z) (λi h=>h.IsStrIter s1.heap.objs.size T z t i)) ->
   (∀(A:Around)(i:Nat)(s:Shared)(Q:Value->Shared->Prop)(E:Value->Shared->Prop),s.heap.IsStrIter s1.heap.objs.size T z t i->Q (.ref s1.heap.objs.size) s->wpAny (model X.prog X.w) A (pyIter (.ref s1.heap.objs.size)) Q E s) ->
   ["enumerate","zip","dict_itemiterator","dict_reverseitemiterator","odict_iterator","itertools.zip_longest","itertools.pairwise"].contains T=false ->
   PIE X pn σ tg R (.ref s1.heap.objs.size) {s1 with heap:=s1.heap.push {cls:=.type T,data:=.fields #[.str z t,.int 0 0]}}:=λT W hs hT=>by
  have I2:Inv X pn σ H1 {s1 with heap:=s1.heap.push {cls:=.type T,data:=.fields #[.str z t,.int 0 0]}}:=I1.kept (t':=s1.toks) λb u e=>zac _ e;refine⟨s1.heap.objs.size,[s1.heap.objs.size],_,_,H1,rfl,I2,Kl W hs hT,⟨_,zad _ rfl,rfl,rfl⟩,λb hb=>?_,q⟩;have e:b=s1.heap.objs.size:=by simpa using hb
  subst e;exact I1.fpOk (zaj _) I1.fresh
 cases ha:z.cps.all (·<128)
 ·exact wpAny_pyIter_wide ha (lay "str_iterator" (λA hA=>Walks.strWide hA _ z t) (λA i s Q E st q=>wpAny_pyIter_striter_wide st q) (by decide))
 ·exact wpAny_pyIter_ascii ha (lay "str_ascii_iterator" (λA hA=>Walks.strAscii hA _ z t) (λA i s Q E st q=>wpAny_pyIter_striter_ascii st q) (by decide))
def Fo:D->Option (List D)
 |.lst ds=>some ds
 |.tup ds=>some ds
 |.scr ns=>some (ns.map D.int)
 |.str z=>some (z.cps.toList.map λc=>D.str ⟨#[c]⟩)
 |_=>none
def iSeq(te:TD):TID:=λρ φ=>te ρ λr=>(match r.k with|.own=>False|_=>True)/\match Fo r.d with
 |some ds=>φ ds
 |none=>False
def z1w{K:W.Frag}{a:Addr}{ds:List D}:ItD K (Itl K a) ds (λH O=>∃xs,H a=some (.lst xs)/\a∉O/\Reps K H O ds xs) where
 go:=λH O i d ⟨xs,q,n,r⟩ e=>by
  obtain⟨v,ev,rv⟩:=r.get e;refine⟨⟨xs,v,SqL.of q,ev⟩,λx H' y=>?_⟩;obtain⟨e1,y⟩:=y;subst e1;have:=y xs (SqL.of q);rw[ev]at this;cases this;exact⟨Same.refl _,rv⟩
 stop:=λH O ⟨xs,q,n,r⟩=>⟨xs,SqL.of q,by rw[r.length];exact zaj _⟩
 keep:=λO O' H H' ⟨xs,q,n,r⟩ g=>⟨xs,(g.keep _ _ q n).1,(g.keep _ _ q n).2,Reps.grow g _ _ r⟩
def z1t{K:W.Frag}{a:Addr}{ds:List D}:ItD K (Itt K a) ds (λH O=>∃xs,SqT K H a xs/\Reps K H O ds xs) where
 go:=λH O i d ⟨xs,q,r⟩ e=>by
  obtain⟨v,ev,rv⟩:=r.get e;refine⟨⟨xs,v,q,ev⟩,λx H' y=>?_⟩;obtain⟨e1,y⟩:=y;subst e1;have:=y xs q;rw[ev]at this;cases this;exact⟨Same.refl _,rv⟩
 stop:=λH O ⟨xs,q,r⟩=>⟨xs,q,by rw[r.length];exact zaj _⟩
 keep:=λO O' H H' ⟨xs,q,r⟩ g=>⟨xs,Yd g q,Reps.grow g _ _ r⟩
def z1v{K:W.Frag}{a:Addr}{ns:List Int}:ItD K (Itl K a) (ns.map D.int) (λH _=>Scr K H a ns) where
 go:=λH O i d q e=>by
  rw[zai]at e;cases en:ns[i]? with
  |none=>rw[en]at e;cases e
  |some n =>
   rw[en]at e;cases e;have ev:(ns.map V.int)[i]?=some (.int n):=by rw[zai,en];rfl
   refine⟨⟨_,_,q.seq,ev⟩,λx H' y=>?_⟩;obtain⟨e1,y⟩:=y;subst e1;have:=y _ q.seq;rw[ev]at this;cases this;exact⟨Same.refl _,rfl⟩
 stop:=λH O q=>⟨_,q.seq,by rw[zLm,zLm];exact zaj _⟩
 keep:=λO O' H H' q g=>gl g q
def z1u{K:W.Frag}{z:Str}:ItD K (Itv z.cps.size (Bt z)) (z.cps.toList.map λc=>D.str ⟨#[c]⟩) (λ_ _=>True) where
 go:=λH O i d _ e=>by
  rw[zai]at e;cases en:z.cps.toList[i]? with
  |none=>rw[en]at e;cases e
  |some n =>
   rw[en]at e;cases e;have hl:=(zag.mp en).1;refine⟨(show i<z.cps.size by simpa using hl),λx H' y=>?_⟩
   obtain⟨e1,c,hc,ex⟩:=y;subst e1 ex;have:z.cps.toList[i]?=some c:=by rw[Array.getElem?_toList];exact hc
   rw[en]at this;cases this;exact⟨Same.refl _,rfl⟩
 stop:=λH O _=>by show _=_;simp
 keep:=λ_ _ _ _ _ _=>trivial
def rngD(lo:Int)(n:Nat):List D:=(List.range n).map λ(i:Nat)=>D.int (lo+(i:Int))
def Fp{K:W.Frag}{lo:Int}{n:Nat}:ItD K (Itr lo n) (rngD lo n) (λ_ _=>True) where
 go:=λH O i d _ e=>by
  unfold rngD at e;rw[zai]at e;cases en:(List.range n)[i]? with
  |none=>rw[en]at e;cases e
  |some m =>
   rw[en]at e;cases e;have hl:=(zag.mp en).1;rw[List.length_range]at hl;have:m=i:=by
    rw[List.getElem?_range hl]at en;exact(Option.some.inj en).symm
   subst this;refine⟨hl,λx H' y=>?_⟩;obtain⟨e1,ex⟩:=y;subst e1 ex;exact⟨Same.refl _,rfl⟩
 stop:=λH O _=>by show n<=_;unfold rngD;simp
 keep:=λ_ _ _ _ _ _=>trivial
def PV.or{r r':V->Hp->(It->Hp->Prop)->Prop}(h:PV X tg r)(h':PV X tg r'):PV X tg (λx H R=>r x H R\/r' x H R):=λpn s σ H x v R I rx q=>q.elim (h pn s σ H x v R I rx) (h' pn s σ H x v R I rx)
def yj(he:ED Γ X e te):EI Γ X tg e (iSeq te):=λH₀=>impI (z3m (he H₀) (Df.or (z0a.or z0b))) λσ H R q=>by
 obtain⟨ρ,o,RE,φ,hφ,k⟩:=q;refine⟨ρ,o,RE,_,hφ,λv r H1 s1 rv h1=>?_⟩;obtain⟨h0,h1⟩:=h1;have rp:=rv.solid (re h0);obtain⟨kd,d⟩:=r;cases d with
 |lst ds =>
  obtain⟨a,xs,rfl,q,n,r⟩:=rp;exact .inl ⟨a,rfl,⟨xs,SqL.of q⟩,k _ _ _ H1 s1 z1w ⟨xs,q,n,r⟩ h1⟩
 |tup ds =>
  obtain⟨a,xs,rfl,q,r⟩:=rp;exact .inr (.inl ⟨a,rfl,⟨xs,q.1⟩,k _ _ _ H1 s1 z1t ⟨xs,q.1,r⟩ h1⟩)
 |scr ns =>
  obtain⟨a,rfl,q⟩:=rp;exact .inl ⟨a,rfl,⟨_,q.seq⟩,k _ _ _ H1 s1 z1v q h1⟩
 |str z =>
  cases (show v=_ from rp)
  exact .inr (.inr ⟨z,rfl,k _ _ _ H1 s1 z1u trivial h1⟩)
 |_=>exact h1.elim
def iR1(t:TDs):TID:=λρ φ=>t ρ λrs=>match rs with
 |[⟨_,.int j⟩]=>-(2 ^ 62)<=j/\j<2 ^ 62/\φ (rngD 0 j.toNat)
 |_=>False
def iR2(t:TDs):TID:=λρ φ=>t ρ λrs=>match rs with
 |[⟨_,.int i⟩,⟨_,.int j⟩]=>(-(2 ^ 62)<=i/\i<2 ^ 62/\-(2 ^ 62)<=j/\j<2 ^ 62)/\φ (rngD i (j-i).toNat)
 |_=>False
def vf{a:Expr}{p:Pos}(hm:X.mg "range" = none)(ha:EA Γ X [a] t)(hg:Gl X "range":=by rfl)(hs:starEach [a] X.env=[(false,eval a X.env)]:=by rfl):EI Γ X tg (.Call (.Name "range" p) [a] [] pos) (iR1 t):=λH₀=>impI (Nh hg hm (ha H₀) hs) λσ H R q=>by
 obtain⟨ρ,o,RE,φ,hφ,k⟩:=q;refine⟨ρ,o,RE,_,hφ,λvs rs H1 s1 rvs h1=>?_⟩;split at h1
 ·rename_i kd j;obtain⟨v,ws,rfl,rv,rfl⟩:=rvs;cases (show v=_ from rv.view);exact⟨j,rfl,h1.1,h1.2.1,k _ _ _ H1 s1 Fp trivial h1.2.2⟩
 ·exact h1.elim
def L9{a b:Expr}{p:Pos}(hm:X.mg "range" = none)(ha:EA Γ X [a,b] t)(hg:Gl X "range":=by rfl)(hs:starEach [a,b] X.env=[(false,eval a X.env),(false,eval b X.env)]:=by rfl)(hs2:starEach [b] X.env=[(false,eval b X.env)]:=by rfl):EI Γ X tg (.Call (.Name "range" p) [a,b] [] pos) (iR2 t):=λH₀=>impI (Ng hg hm (ha H₀) hs hs2) λσ H R q=>by
 obtain⟨ρ,o,RE,φ,hφ,k⟩:=q;refine⟨ρ,o,RE,_,hφ,λvs rs H1 s1 rvs h1=>?_⟩;split at h1
 ·rename_i kd i kd2 j;obtain⟨v,ws,rfl,rv,v2,ws2,rfl,rv2,rfl⟩:=rvs;cases (show v=_ from rv.view);cases (show v2=_ from rv2.view);exact⟨i,j,rfl,h1.1,k _ _ _ H1 s1 Fp trivial h1.2⟩
 ·exact h1.elim
end
section
variable{scope:Scope}{T F:List Str}{js:List Nat}{iter elt:Expr}{ifs:List Expr}{ti:TID}{g2:TG}{g:TGD}{tc:TDb}{te:TD}
def ρ0(n:Nat)(js:List Nat)(ρ:DE):DE:=List.replicate n none++js.map λj=>slot ρ j
def ixO(n:Nat)(js:List Nat)(j:Nat):Nat:=if j∈js then n+js.idxOf j else n+js.length+1+j
def Ye:∀{ρ:DE}{i:Nat}{r:EV},slot ρ i=some r ↔ ρ[i]?=some (some r)
 |[],_,_=>by simp[slot]
 |x::_,0,_=>by simp[slot]
 |_::l,i+1,r=>by rw[slot,List.getElem?_cons_succ];exact Ye (ρ:=l)
def j9{K:W.Frag}{H₀ H H':Hp}{σ:St}{ρ:DE}{o:List (Nat×Addr)}{n:Nat}{js:List Nat}{D:Addr}{ys:List V}(R:REnv K H₀ H σ ρ o)(nd:js.Nodup)(hD:H D=none)(s:Same H H')(hD':H' D=some (.lst ys))(Tn:List Str)(hT:Tn.length=n) :
  REnv K H₀ H' (st0 Tn js σ) (ρ0 n js ρ) ((n+js.length,D)::o.map λp=>(ixO n js p.1,p.2)):=by
 have hO:((n+js.length,D)::o.map λp=>(ixO n js p.1,p.2)).map Prod.snd=D::o.map Prod.snd:=by
  rw[List.map_cons,List.map_map];rfl
 have g:Grow (o.map Prod.snd) (D::o.map Prod.snd) H H':=⟨λb u h nb=>⟨s b u h,λz=>(zam.mp z).elim (λe=>zx h hD e) nb⟩,λb xs h=>s b _ h,λb ob u h=>s b _ h⟩;have R':=R.to s;exact {
  same:=R'.same
  fresh:=λp hp=>by
   rcases zam.mp hp with rfl|hp
   ·exact R.same.free hD
   ·obtain⟨q,hq,rfl⟩:=zah.mp hp;exact R.fresh q hq
  trk:=λp hp=>by
   rcases zam.mp hp with rfl|hp
   ·exact⟨_,hD'⟩
   ·obtain⟨q,hq,rfl⟩:=zah.mp hp;exact R'.trk q hq
  mtb:=λp hp=>by
   rcases zam.mp hp with rfl|hp
   ·exact⟨(λxs z=>by rw[hD']at z;cases z),(λob u z=>by rw[hD']at z;cases z)⟩
   ·obtain⟨q,hq,rfl⟩:=zah.mp hp;exact R'.mtb q hq
  nda:=by
   rw[hO,List.nodup_cons];exact⟨R.ofree hD,R.nda⟩
  len:=by
   unfold st0 ρ0;simp[hT]
  slots:=λi r e=>by
   rw[hO];unfold ρ0 at e;have hi:n<=i:=by
    rcases Nat.lt_or_ge i n with z|z
    ·rw[List.getElem?_append_left (by simpa using z),List.getElem?_replicate]at e
     split at e <;> cases e
    ·exact z
   rw[List.getElem?_append_right (by simpa using hi),List.length_replicate,zai]at e
   cases ej:js[i-n]? with
   |none=>rw[ej]at e;cases e
   |some j =>
    rw[ej]at e;have e':slot ρ j=some r:=Option.some.inj e;obtain⟨v,ev,q⟩:=R.slots j r (vv e');refine⟨v,?_,?_⟩
    ·unfold st0;rw[List.getElem?_append_right (by simpa [hT] using hi),List.length_replicate,zai,hT,ej]
     show some ((σ[j]?).join)=_;rw[ev];rfl
    ·rcases q with⟨k,q⟩|⟨k,a,e1,m,c⟩
     ·exact .inl ⟨k,Rep.grow g _ _ q⟩
     ·refine .inr ⟨k,a,e1,zal _ (zah.mpr ⟨_,m,?_⟩),c.grow (λu q=>s _ _ q) g⟩;have hmem:j∈js:=zan ej;have hidx:js.idxOf j=i-n:=by
       have h1:=(zag.mp ej);have h2:=List.getElem_idxOf (List.idxOf_lt_length_iff.mpr hmem);exact(List.getElem_inj nd).mp (h2.trans h1.2.symm)
      show(ixO n js j,a)=(i,a);unfold ixO;rw[if_pos hmem,hidx]
      congr 1
      omega}
def bYes:TDb:=λ_ φ=>φ true
def Bf(ti:TID)(n:Nat)(js:List Nat)(g:TGD)(tc:TDb)(te:TD):TD:=λρ φ=>ti ρ λds=>∃f:D->Option D,ds.length<=100000 /\
 (∀d∈ds,g d (ρ0 n js ρ) λρ'=>tc ρ' λc=>(c=true->te ρ' λr=>(match r.k with|.own=>False|_=>True)/\f d=some r.d)/\(c=false->f d=none))/\φ (df (.lst (ds.filterMap f)))
def EIf(G:Hp->Prop)(X:Cx)(ifs:List Expr)(t:TDb):Prop:=∀H₀:{H:Hp // G H},PIf X ifs (dt X.K H₀.1 t)
def ya:EIf Γ X [] bYes:=λH₀ pn s σ H Q I h=>by
 obtain⟨ρ,o,R,φ,hφ,k⟩:=h;exact Dp pn s σ H Q I (k true H (Same.refl H) hφ)
def ci{c:Expr}(h:ET Γ X c tc):EIf Γ X [c] tc:=λH₀=>Do (h H₀)
def Ma{H₀:Hp}(nd:js.Nodup)(hl:bu X.K g2 g):∀σ H Q,vq X.K H₀ (Bf ti T.length js g tc te) σ H Q->Ob (Jy X.K H₀ ti) T js g2 (dt X.K H₀ tc) (vq X.K H₀ te) σ H Q:=λσ H Q q=>by
  obtain⟨ρ,o,R,φ,hφ,k⟩:=q;refine⟨ρ,o,R,_,hφ,λJ ds P H1 s1 I hP ⟨f,hlen,turn,fin⟩ Da hDa=>?_⟩;have R1:=R.to s1;have gD:∀{H':Hp},Same H1 H'->Grow (o.map Prod.snd) (Da::o.map Prod.snd) H1 H':=λs=>⟨λb u h nb=>⟨s b u h,λz=>(zam.mp z).elim (λe=>zx h hDa e) nb⟩,λb xs h=>s b _ h,λb ob u h=>s b _ h⟩;refine⟨λi m ys H'=>m=ds.length-i/\i<=ds.length/\Same H1 H'/\H' Da=some (.lst ys)/\Reps X.K H' (Da::o.map Prod.snd) ((ds.take i).filterMap f) ys,
   ⟨_,rfl,Nat.zero_le _,yd hDa _,zu,rfl⟩,?_⟩
  rintro i m ys H' ⟨rfl,hi',s2,hD',rp⟩;refine⟨hD',?_⟩;have hP':=I.keep _ _ _ _ hP (gD s2);by_cases hlt:i<ds.length
  ·have ed:ds[i]?=some ds[i]:=by simp[hlt]
   obtain⟨j1,j2⟩:=I.go H' _ i _ hP' ed;refine .inr ⟨j1,λzs H2=>Same H1 H2/\H2 Da=some (.lst zs)/\Reps X.K H2 (Da::o.map Prod.snd) ((ds.take (i+1)).filterMap f) zs,λzs H2 ⟨a1,a2,a3⟩=>⟨_,(by omega:ds.length-(i+1)<ds.length-i),rfl,hlt,a1,a2,a3⟩,λx H2 y=>?_⟩
   obtain⟨s3,rx⟩:=j2 x H2 y;have s13:=s2.trans s3;have hD2:=s3 _ _ hD';have RB:=j9 (n:=T.length) R1 nd hDa s13 hD2 T rfl;have hO:((T.length+js.length,Da)::o.map λp=>(ixO T.length js p.1,p.2)).map Prod.snd=Da::o.map Prod.snd:=by
    rw[List.map_cons,List.map_map];rfl
   have tk:(ds.take (i+1)).filterMap f=(ds.take i).filterMap f++(f ds[i]).toList:=by
    rw[List.take_succ,ed,List.filterMap_append];cases e:f ds[i] <;> simp[e]
   have rpl:ys.length<=100000:=by
    rw[rp.length];refine zak (List.length_filterMap_le _ _) ?_;rw[List.length_take];omega
   refine hl H₀ H2 (st0 T js σ) (ρ0 T.length js ρ) _ _ x _ _ RB (by rw[hO];exact rx) (turn _ (List.getElem_mem hlt)) λρ' σ' R' q'=>?_
   refine⟨ρ',_,R',_,q',λc H3 s4 h4=>?_⟩;have hD3:=s4 _ _ hD2;cases c with
   |false =>
    refine iteF ⟨s13.trans s4,hD3,?_⟩;rw[tk,h4.2 rfl];simpa using Reps.grow (Grow.same (s3.trans s4)) _ _ rp
   |true =>
    refine iteT ⟨ρ',_,R'.to s4,_,h4.1 rfl,λv r H4 s5 rv h5=>?_⟩;have hD4:=s5 _ _ hD3;have rd:=rv.solid (re h5.1);rw[hO]at rd;have ne:∀b u,H1 b=some u->b≠Da:=λb u h=>zx h hDa;have gu:Grow (Da::o.map Prod.snd) (Da::o.map Prod.snd) H4 (upd H4 Da (.lst (ys++[v]))) :=
     ⟨λb u h n=>⟨by rw[zy (λz=>n (zam.mpr (.inl z)))];exact h,n⟩,λb xs h=>by rw[zy (λz=>by rw[z,hD4]at h;cases h)];exact h,λb ob u h=>by rw[zy (λz=>by rw[z,hD4]at h;cases h)];exact h⟩
    refine⟨hD4,Nat.lt_of_le_of_lt rpl (by decide),⟨λb u h=>?_,zu,?_⟩⟩
    ·rw[zy (ne b u h)];exact s5 _ _ (s4 _ _ (s13 b u h))
    ·rw[tk,h5.2];exact Reps.grow gu _ _ ((Reps.grow (Grow.same (s3.trans (s4.trans s5))) _ _ rp).append (Reps.one rd))
  ·have e:i=ds.length:=by omega
   subst e;rw[List.take_length]at rp;refine .inl ⟨I.stop H' _ hP',?_⟩;exact k (.ref Da) (df (.lst (ds.filterMap f))) H' (s1.trans s2) ⟨Da,rfl,s1.free hDa,R.ofree (s1.free hDa),ys,hD',rp⟩ fin
def Xr(hi:EI Γ X tg iter ti)(S:zm X.env.scope scope T F)(hjs:Paired (λx j=>X.N[j]?=some x) F js)(nd:js.Nodup)(hg:∀ cl C fp s H,PG (x5 X (T++F) scope cl C fp s H) tg g2)(hk:Z4 T.length g2)(hl:bu X.K g2 g)(ht:∀ cl C fp s H,EIf Γ (x5 X (T++F) scope cl C fp s H) ifs tc)(he:∀ cl C fp s H,ED Γ (x5 X (T++F) scope cl C fp s H) elt te)(hc:X.calm=true:=by rfl)(hs:∀ x,foldedSetIterable iter X.env x=pure x:=by intro _;rfl):ED Γ X (.ListComp elt [⟨tg,iter,ifs,0⟩] scope pos) (Bf ti T.length js g tc te):=λH₀ =>
 impE (Uq (tc:=dt X.K H₀.1 tc) (te:=vq X.K H₀.1 te) hc (hi H₀) S hjs hg hk (λcl C fp s H=>ht cl C fp s H H₀) (λcl C fp s H=>he cl C fp s H H₀) hs) (Ma nd hl)
end
section
variable{x:Str}{es:List Expr}{t:TDs}{p:Pos}
structure Kit(K:W.Frag):Prop where
 ne:∀q∈([("NoneType","int"),("NoneType","bool"),("NoneType","str"),("NoneType","tuple"),("NoneType","list"),("NoneType","dict"),("bool","str"),("bool","tuple"),("bool","list"),("bool","dict"),
  ("int","bool"),("int","str"),("int","tuple"),("int","list"),("int","dict"),("str","int"),("str","bool"),("str","tuple"),("str","list"),("str","dict"),
  ("tuple","int"),("tuple","bool"),("tuple","str"),("tuple","list"),("tuple","dict"),("list","int"),("list","bool"),("list","str"),("list","tuple"),("list","dict"),
  ("dict","int"),("dict","bool"),("dict","str"),("dict","tuple"),("dict","list")]:List (String×String)),W.kitOne K (.type q.1) (.type q.2)=some false
 bi:W.kitOne K (.type "bool") (.type "int")=some true
def Mh{K:W.Frag}:Kit K:=by
 constructor
 ·intro q hq;simp only[zam,List.not_mem_nil,or_false]at hq;rcases hq with rfl|rfl|rfl|rfl|rfl|rfl|rfl|rfl|rfl|rfl|rfl|rfl|rfl|rfl|rfl|rfl|rfl|rfl|rfl|rfl|rfl|rfl|rfl|rfl|rfl|rfl|rfl|rfl|rfl|rfl|rfl|rfl|rfl|rfl|rfl <;> kernel_rfl
 ·kernel_rfl
def Hc{K:W.Frag}{T:String}:W.kitOne K (.type T) (.type T)=some true:=by
 unfold W.kitOne;rw[if_pos (by simp)]
def vh:bootBuiltins "str" = some (.type "str"):=by decide +kernel
def ko:bootBuiltins "int" = some (.type "int"):=by decide +kernel
def Zz:bootBuiltins "bool" = some (.type "bool"):=by decide +kernel
def b8:bootBuiltins "tuple" = some (.type "tuple"):=by decide +kernel
def boot_list':bootBuiltins "list" = some (.type "list"):=by decide +kernel
def jj:bootBuiltins "dict" = some (.type "dict"):=by decide +kernel
def ux:bootBuiltins "isinstance" = some (.builtin "isinstance"):=by decide +kernel
def z1l{K:W.Frag}(a T:String)(h:(a,T)∈([("NoneType","int"),("NoneType","bool"),("NoneType","str"),("NoneType","tuple"),("NoneType","list"),("NoneType","dict"),("bool","str"),("bool","tuple"),("bool","list"),("bool","dict"),
  ("int","bool"),("int","str"),("int","tuple"),("int","list"),("int","dict"),("str","int"),("str","bool"),("str","tuple"),("str","list"),("str","dict"),
  ("tuple","int"),("tuple","bool"),("tuple","str"),("tuple","list"),("tuple","dict"),("list","int"),("list","bool"),("list","str"),("list","tuple"),("list","dict"),
  ("dict","int"),("dict","bool"),("dict","str"),("dict","tuple"),("dict","list")]:List (String×String))):W.kitOne K (.type a) (.type T)=some false:=Mh.ne (a,T) h
def Gh:D->String
 |.non=>"NoneType"
 |.bl _=>"bool"
 |.int _=>"int"
 |.str _=>"str"
 |.tup _=>"tuple"
 |.lst _=>"list"
 |.dk _ _=>"dict"
 |.ty _=>"type"
 |.cn _=>"tuple"
 |.scr _=>"list"
 |.fd _=>"exc"
def He:List (String×String):=[("NoneType","int"),("NoneType","bool"),("NoneType","str"),("NoneType","tuple"),("NoneType","list"),("NoneType","dict"),("bool","str"),("bool","tuple"),("bool","list"),("bool","dict"),
  ("int","bool"),("int","str"),("int","tuple"),("int","list"),("int","dict"),("str","int"),("str","bool"),("str","tuple"),("str","list"),("str","dict"),
  ("tuple","int"),("tuple","bool"),("tuple","str"),("tuple","list"),("tuple","dict"),("list","int"),("list","bool"),("list","str"),("list","tuple"),("list","dict"),
  ("dict","int"),("dict","bool"),("dict","str"),("dict","tuple"),("dict","list")]
def isN(a T:String):Option Bool:=if a=T then some true else if a = "bool"/\T = "int" then some true else if (a,T)∈He then some false else none
def isT(d:D)(T:String):Option Bool:=match d with
 |.ty _=>none
 |.cn _=>none
 |.scr _=>none
 |.fd _=>none
 |d=>isN (Gh d) T
def Cq{K:W.Frag}{a T:String}{b:Bool}(h:isN a T=some b):W.kitOne K (.type a) (.type T)=some b:=by
 unfold isN at h;split at h
 ·rename_i q;cases h;subst q;exact Hc
 ·split at h
  ·rename_i q;cases h;obtain⟨rfl,rfl⟩:=q;exact Mh.bi
  ·split at h
   ·rename_i q;cases h;exact z1l a T q
   ·cases h
def Mn{K:W.Frag}{d:D}{T:String}{b:Bool}(h:isT d T=some b):W.kitOne K (.type (Gh d)) (.type T)=some b:=by
 cases d with
 |ty _=>cases h
 |cn _=>cases h
 |scr _=>cases h
 |fd _=>cases h
 |_=>exact Cq h
def T3:isT .non "int" = some false:=(by decide:isN "NoneType" "int" = some false)
def V3:isT .non "bool" = some false:=(by decide:isN "NoneType" "bool" = some false)
def X3:isT .non "tuple" = some false:=(by decide:isN "NoneType" "tuple" = some false)
def Qy(b:Bool):isT (.bl b) "int" = some true:=(by decide:isN "bool" "int" = some true)
def T9(b:Bool):isT (.bl b) "bool" = some true:=(by decide:isN "bool" "bool" = some true)
def V8(b:Bool):isT (.bl b) "tuple" = some false:=(by decide:isN "bool" "tuple" = some false)
def T6(i:Int):isT (.int i) "int" = some true:=(by decide:isN "int" "int" = some true)
def V6(i:Int):isT (.int i) "bool" = some false:=(by decide:isN "int" "bool" = some false)
def T5(i:Int):isT (.int i) "str" = some false:=(by decide:isN "int" "str" = some false)
def X5(i:Int):isT (.int i) "tuple" = some false:=(by decide:isN "int" "tuple" = some false)
def c7(x:Str):isT (.str x) "int" = some false:=(by decide:isN "str" "int" = some false)
def V2(x:Str):isT (.str x) "bool" = some false:=(by decide:isN "str" "bool" = some false)
def T2(x:Str):isT (.str x) "str" = some true:=(by decide:isN "str" "str" = some true)
def X2(x:Str):isT (.str x) "tuple" = some false:=(by decide:isN "str" "tuple" = some false)
def T1(l:List D):isT (.tup l) "int" = some false:=(by decide:isN "tuple" "int" = some false)
def V1(l:List D):isT (.tup l) "bool" = some false:=(by decide:isN "tuple" "bool" = some false)
def X1(l:List D):isT (.tup l) "tuple" = some true:=(by decide:isN "tuple" "tuple" = some true)
def V0(l:List D):isT (.tup l) "list" = some false:=(by decide:isN "tuple" "list" = some false)
def T4(l:List D):isT (.lst l) "int" = some false:=(by decide:isN "list" "int" = some false)
def V5(l:List D):isT (.lst l) "bool" = some false:=(by decide:isN "list" "bool" = some false)
def X4(l:List D):isT (.lst l) "tuple" = some false:=(by decide:isN "list" "tuple" = some false)
def V4(l:List D):isT (.lst l) "list" = some true:=(by decide:isN "list" "list" = some true)
def Qx(k:List Key)(l:List D):isT (.dk k l) "int" = some false:=(by decide:isN "dict" "int" = some false)
def T8(k:List Key)(l:List D):isT (.dk k l) "bool" = some false:=(by decide:isN "dict" "bool" = some false)
def V7(k:List Key)(l:List D):isT (.dk k l) "tuple" = some false:=(by decide:isN "dict" "tuple" = some false)
def T7(k:List Key)(l:List D):isT (.dk k l) "dict" = some true:=(by decide:isN "dict" "dict" = some true)
def G9:vt X (.builtin "isinstance") (λxs H Q=>∃d x T b,xs=[x,.ty T]/\Rep X.K H [] d x/\isT d T=some b/\Q (.bl b) H):=by
 intro pn s σ H xs us Q I r h;obtain⟨d,x,T,b,rfl,rp,e,q⟩:=h;obtain⟨u,v,rfl,ru,rv⟩:=Ps r;cases rv;have ek:=Mn (K:=X.K) e;have fin:∀tk,EP X pn σ Q (.bool b) {s with toks:=tk}:=λtk=>⟨.bl b,H,I.tok tk,rfl,q⟩;cases d with
 |non=>cases (show x=_ from rp);exact uj I ru .non ek fin
 |bl c=>cases (show x=_ from rp);exact uj I ru (.bl c) ek fin
 |int c=>cases (show x=_ from rp);exact uj I ru (.int c) ek fin
 |str c=>cases (show x=_ from rp);exact uj I ru (.str c) ek fin
 |ty _=>cases e
 |cn _=>cases e
 |scr _=>cases e
 |fd _=>cases e
 |lst ds=>obtain⟨a,xs,rfl,q1,_⟩:=rp;exact uj I ru (.lst q1) ek fin
 |dk ks ds=>obtain⟨a,xs,rfl,q1,_⟩:=rp;exact uj I ru (.dK q1) ek fin
 |tup ds =>
  obtain⟨a,xs,rfl,q1,_⟩:=rp;cases (show u=Value.ref a from ru);obtain⟨its,_,p,_⟩:=I.tuple q1.1;obtain⟨o,h1,h2,_⟩:=p;exact W.kia_one W.kitx_tuple I.kIn ⟨o,h1,h2⟩ ek (λz=>nomatch z) fin
def sIsI:FT:=λds φ=>match ds with
 |[d,.ty T]=>match isT d T with
  |some b=>φ (dv (.bl b))
  |none=>False
 |_=>False
def wc(hm:X.mg "isinstance" = none)(ha:EA Γ X (e::es) t)(hg:Gl X "isinstance":=by rfl)(he:starEach (e::es) X.env=(false,eval e X.env)::starEach es X.env:=by rfl)(hpl:(backTo pos (starEach es X.env)).any (·.1)=false:=by rfl):ED Γ X (.Call (.Name "isinstance" p) (e::es) [] pos) (dCB sIsI t) :=
 kj G9 (λH O ds vs φ Q ho hv h k=>by
  unfold sIsI at h;split at h
  ·split at h
   ·rename_i d T b eb;obtain⟨v,ws,rfl,h1,v2,ws2,rfl,h2,rfl⟩:=hv;cases (show v2=_ from h2);exact⟨_,v,_,_,rfl,h1.rep0,eb,k _ _ H (Same.refl H) (by exact rfl) h⟩
   ·exact h.elim
  ·exact h.elim) hm ux ha hg (by decide) (by decide) he hpl
def sStr:FT:=λds φ=>match ds with
 |[.int i]=>i.natAbs.log2<1920/\φ (dv (.str (toString i)))
 |_=>False
def Xp(hm:X.mg "str" = none)(ha:EA Γ X (e::es) t)(hg:Gl X "str":=by rfl)(he:starEach (e::es) X.env=(false,eval e X.env)::starEach es X.env:=by rfl)(hpl:(backTo pos (starEach es X.env)).any (·.1)=false:=by rfl):ED Γ X (.Call (.Name "str" p) (e::es) [] pos) (dCB sStr t) :=
 vg Vv (λH O ds vs φ Q ho hv h k=>by
  unfold sStr at h;split at h
  ·obtain⟨v,ws,rfl,h1,rfl⟩:=hv;cases (show v=_ from h1);exact⟨_,rfl,h.1,k _ _ H (Same.refl H) (by exact rfl) h.2⟩
  ·exact h.elim) hm vh ha hg (by decide) (by decide) he hpl
def sTupC:FT:=λds φ=>match ds with
 |[.lst l]=>φ (dv (.tup l))
 |[.tup l]=>φ (dv (.tup l))
 |_=>False
def xn(hm:X.mg "tuple" = none)(ha:EA Γ X (e::es) t)(hg:Gl X "tuple":=by rfl)(he:starEach (e::es) X.env=(false,eval e X.env)::starEach es X.env:=by rfl)(hpl:(backTo pos (starEach es X.env)).any (·.1)=false:=by rfl):ED Γ X (.Call (.Name "tuple" p) (e::es) [] pos) (dCB sTupC t) :=
 vg Xv (λH O ds vs φ Q ho hv h k=>by
  unfold sTupC at h;split at h
  ·obtain⟨v,ws,rfl,⟨a,xs,rfl,q,r⟩,rfl⟩:=hv;exact⟨a,xs,rfl,.inl ⟨SqL.of q,λl hl=>k _ _ _ (yd hl _) (Sj hl r) h⟩⟩
  ·obtain⟨v,ws,rfl,⟨a,xs,rfl,q,r⟩,rfl⟩:=hv;exact⟨a,xs,rfl,.inr ⟨q.1,k (.ref a) (dv (.tup _)) H (Same.refl H) ⟨a,xs,rfl,q,r⟩ h⟩⟩
  ·exact h.elim) hm b8 ha hg (by decide) (by decide) he hpl
def sIntC:FT:=λds φ=>match ds with
 |[.bl b]=>φ (dv (.int (if b then 1 else 0)))
 |[.int i]=>φ (dv (.int i))
 |_=>False
def Tu(hm:X.mg "int" = none)(ha:EA Γ X (e::es) t)(hg:Gl X "int":=by rfl)(he:starEach (e::es) X.env=(false,eval e X.env)::starEach es X.env:=by rfl)(hpl:(backTo pos (starEach es X.env)).any (·.1)=false:=by rfl):ED Γ X (.Call (.Name "int" p) (e::es) [] pos) (dCB sIntC t) :=
 vg Lw (λH O ds vs φ Q ho hv h k=>by
  unfold sIntC at h;split at h
  ·obtain⟨v,ws,rfl,h1,rfl⟩:=hv;cases (show v=_ from h1);exact .inr ⟨_,rfl,k _ _ H (Same.refl H) (by exact rfl) h⟩
  ·obtain⟨v,ws,rfl,h1,rfl⟩:=hv;cases (show v=_ from h1);exact .inl ⟨_,rfl,k _ _ H (Same.refl H) (by exact rfl) h⟩
  ·exact h.elim) hm ko ha hg (by decide) (by decide) he hpl
end
variable{x:Str}{te:TD}{apos np cpos:Pos}
def sApp(i:Nat)(te:TD):TDS:=λρ Z=>match slot ρ i with
 |some ⟨.own,.lst ds⟩=>te ρ λr=>(match r.k with|.own=>False|_=>True)/\ds.length<=100000/\Z.nx (setS ρ i (dO (.lst (ds++[r.d]))))
 |_=>False
def qo(i:Nat)(he:ED Γ X e te)(hN:X.N[i]?=some x:=by rfl)(hv:Vis X.env.scope x:=by walk_at "o")(hd:(x==("__debug__" : Str))=false:=by decide)(hcd:(x==("__classdict__" : Str))=false:=by decide)(hp:∀ {ta tb:TE},PE X (.Name x np) ta->PE X e tb->PS X (.Expr (.Call (.Attribute (.Name x np) "append" apos) [e] [] cpos) pos) (Kp (tBM X.K "list" N1 ta (Kq tb tNil))):=by
   intro ta tb h1 h2;exact rz (Yv PySem.F.plainAttrs_list PySem.F.slot_list_append PySem.F.type_list_append tv h1 (xx h2 vb))) :
  SD Γ X (.Expr (.Call (.Attribute (.Name x np) "append" apos) [e] [] cpos) pos) (sApp i te):=λH₀=>impS (hp (tj hN hv hd hcd) (he H₀)) λD σ H h=>by
 obtain⟨ρ,o,R,Z,hZ,k1,k2,k3,k4⟩:=h;unfold sApp at hZ;split at hZ
 ·rename_i ds es;obtain⟨v0,ev0,q0⟩:=R.slots i _ (vv es);rcases q0 with⟨k,_⟩|⟨_,a,rfl,m,c⟩
  ·cases k
  obtain⟨xs,hx,rx⟩:=c;refine⟨.ref a,ev0,.inl ⟨rfl,xs,SqL.of hx⟩,?_⟩;refine⟨ρ,o,R,_,hZ,λv r H1 s1 rv h1=>?_⟩;obtain⟨h0,hl,hn⟩:=h1;have hx1:=s1 _ _ hx;have R1:=R.to s1;have rx1:=Reps.grow (Grow.same s1) _ _ rx;refine⟨a,xs,v,rfl,rfl,hx1,?_,?_⟩
  ·rw[rx.length];exact Nat.lt_of_le_of_lt hl (by decide)
  ·obtain⟨R2,g2⟩:=R1.chg (d':=.lst (ds++[r.d])) (ho:=.lst (xs++[v])) (vv es) ev0 m ⟨λ_ z=>(by cases z),λ_ _ z=>(by cases z)⟩ λgr=>⟨xs++[v],zu,gr _ _ (rx1.append (Reps.one (rv.solid (re h0))))⟩
   exact k1 _ σ _ o ((Grow.same s1).trans g2) R2 hn
 ·exact hZ.elim
def vm(n:Nat)(ds:List D):DE:=ds.map (λd=>some (dv d))++List.replicate (n-ds.length) none
def Fx{x qual:Str}{st:Stmt}{f:Addr}{fd:FuncData}{N ps:List Str}{k:Nat}{T:FT}(F:Fun K x qual st f fd)(S:zo N ps (zd st))(qY:∀ (qZ:Value) (A:Around) (outer:List Env) (s:Shared) (H:Hp) (E:XK) (ds:List D) (φ:EV->Prop),Room k (A.deeper (envOfC qual (zd st) s.heap.objs.size f qZ))->ds.length=ps.length->T ds φ ->
   ∃ t,SDs (λ_=>True) (cxOf CX0 P w K mg base N qual (zd st) f qZ A outer s H E).nox (wv st) t/\t (vm N.length ds) {nx:=λ_=>φ (dv .non),rt:=λr=>u5 r/\φ r}):FnOk P w K mg base CX0 (k+1) f fd ps (spD K ps.length T):=by
 refine F.ok S (λvs H Q E h=>?_) (λqZ A outer s H vs Q E hr h=>?_)
 ·obtain⟨ds,φ,hl,r,_⟩:=h;rw[r.length,hl]
 ·obtain⟨ds,φ,hl,r,hT,kk⟩:=h;obtain⟨t,ht,hq⟩:=qY qZ A outer s H E ds φ hr hl hT;have rl:=r.length;refine⟨Ux K H t,ht ⟨H,trivial⟩,vm N.length ds,[],⟨Same.refl H,(λ_ z=>absurd z (by simp)),(λ_ z=>absurd z (by simp)),(λ_ z=>absurd z (by simp)),List.nodup_nil,λi r' e=>?_,?_⟩,_,hq,λρ' σ' H' o' g R' q=>?_,λ_ _ _ _ _ _ q=>q.elim,λ_ _ _ _ _ _ q=>q.elim,λv r' H' s' rv q=>kk v r' H' s' rv q.1 q.2⟩
  ·unfold vm at e;rcases Nat.lt_or_ge i ds.length with hi|hi
   ·rw[List.getElem?_append_left (by simpa using hi),zai]at e
    have ed:ds[i]?=some ds[i]:=by simp[hi]
    rw[ed]at e;have e':some (dv ds[i])=some r':=Option.some.inj e;cases e';obtain⟨v,ev,rv⟩:=r.get ed;refine⟨v,?_,.inl ⟨rfl,rv⟩⟩;unfold ZZ.start;rw[List.getElem?_append_left (by rw[zLm,rl];exact hi),zai,ev]
    rfl
   ·rw[List.getElem?_append_right (by simpa using hi),List.getElem?_replicate]at e
    split at e <;> cases e
  ·unfold ZZ.start vm;simp[rl]
  ·exact kk .non (dv .non) H' R'.same rfl trivial q
def yo{x qual:Str}{st:Stmt}{f:Addr}{fd:FuncData}{N ps:List Str}{k:Nat}{T:FT}(F:Fun K x qual st f fd)(S:zo N ps (zd st))(b:Z5 K fd ps [])(m:mg x=some (.ref f))(qY:∀ (qZ:Value) (A:Around) (outer:List Env) (s:Shared) (H:Hp) (E:XK) (ds:List D) (φ:EV->Prop),Room k (A.deeper (envOfC qual (zd st) s.heap.objs.size f qZ))->ds.length=ps.length->T ds φ ->
   ∃ t,SDs (λ_=>True) (cxOf CX0 P w K mg base N qual (zd st) f qZ A outer s H E).nox (wv st) t/\t (vm N.length ds) {nx:=λ_=>φ (dv .non),rt:=λr=>u5 r/\φ r}):FD P w K mg base (k+1) x ps T:=⟨f,fd,Fx F S qY,b,F.kp,m⟩
def lawT:FT:=λds φ=>∃ns:List Int,ds=[.scr ns]/\ns.length<=63/\φ (dv (.bl true))
def walkD{l:W.OpenLaw}{q:Program}{loose:List Str}{XP:(Str->Option Value)->Heap->Prop}{YP:World->Heap->Prop}{d:DefRec}{K:Params->W.Frag}{x:Str}{k:Nat}(hn:l.most=some 63)(hdf:d.params.defaults=[])(hr:Room k callerA)(hY:∀ (w:World) (h:Heap),YP w h->(K w.params).In h)(F:∀ (w:World) (mg:Str->Option Value) (fa:Addr) (h:Heap),(K w.params).In h->h.Ns mainGlobals mg->mg d.name=some (.ref fa) ->
   ∃ fd:FuncData,(∀ (s:Shared) (u:Value),BindsTo s fd ⟨[u],[]⟩ [(x,u)])/\∀ base:Heap,(K w.params).In base->base.Ns mainGlobals mg->FnOk l.prog w (K w.params) mg base CX0 k fa fd [x] (spD (K w.params) 1 lawT)) :
  W.WalkO q loose XP YP l.row.toRowW d [] (λf vs=>PySem.call f vs) :=
 ZZ.walk_of (n:=63) (k:=k) (x:=x) (CX:=λ_=>CX0) (sp:=λw=>spD (K w.params) 1 lawT) hn (by decide) hdf hr hY F (λw H a ns hl ho hS=>by
  refine⟨[.scr ns],λr=>r=dv (.bl true),rfl,⟨.ref a,[],rfl,⟨a,rfl,?_⟩,rfl⟩,⟨ns,rfl,hl,rfl⟩,λv r H' s rv p e=>by subst e;exact rv⟩
  rcases hS with(h|⟨o,h⟩)|h
  ·rcases ho a with z|⟨o,xs,z⟩
   ·rw[z]at h;cases h
   ·rw[z]at h;cases h
  ·exact .inl ⟨o,h⟩
  ·exact .inr h) λ_ _ _ _ _ z=>z
def Qi{it l:Addr}{i:Nat}{xs:Array Value}{x:Value}{Q:Value->Shared->Prop}(hi:s.heap.IsTupleIter it l i)(hl:s.heap.IsTuple l xs)(hx:xs[i]?=some x)(hQ:∀ g,g.IsTupleIter it l (i+1)->Heap.SameBut it s.heap g->Q x {s with heap:=g}):wpAny (model P w) A (Builtin.SmallTypes.nextOf (.ref it)) Q E s:=by
 obtain⟨o,ho,hc,hd⟩:=id hi;obtain⟨ol,hol,_,nl,hdl⟩:=hl;unfold Builtin.SmallTypes.nextOf;refine zaa (wpAny_callSpecial?_slot (name:=Str.ofString "__next__") hi.typeIs F.slot_tuple_iterator_next (wpAny_call_entry F.slot_tuple_iterator_next hi.typeIs F.entry_tuple_iterator_next ?_ (F.args_tuple_iterator_next_1 _)));show wpAny _ _ (field (.ref it) 0 >>= _) _ _ s;refine zaa (wpAny_field ho hd (x:=.ref l) rfl ?_);show wpAny _ _ (if (Value.ref l==Value.none)=true then _ else _) _ _ s
 rw[if_neg (show ¬ ((Value.ref l==Value.none)=true) from Bool.false_ne_true)];show wpAny _ _ (field (.ref it) 1 >>= _) _ _ s;refine zaa (wpAny_field ho hd (x:=.int i 0) rfl ?_);show wpAny _ _ (seqItems? (.ref l) >>= _) _ _ s;refine zaa (wpAny_seqItems hol hdl ?_);simp only[Int.toNat_natCast,hx];refine zaa (wpAny_setField ho hd (by simp) (zab ⟨x,rfl,zab (hQ _ ⟨_,Heap.get?_update_self _ ho (Obj.isFreed_of_fields (Obj.data_mapFields hd _)),(Obj.cls_mapFields ..).trans hc,?_⟩ (Heap.SameBut.update ..))⟩))
 rw[Obj.data_mapFields hd];simp[rawInt]
def Nw{it l:Addr}{i:Nat}{xs:Array Value}{Q:Value->Shared->Prop}(hh:A.handled=none)(hi:s.heap.IsTupleIter it l i)(hl:s.heap.IsTuple l xs)(hx:xs[i]?=none)(hE:∀ g e,Heap.ExtBut it s.heap g->(∃ o,g.get? e=some o/\o.cls=.type "StopIteration")->E (.ref e) {s with heap:=g}):wpAny (model P w) A (Builtin.SmallTypes.nextOf (.ref it)) Q E s:=by
 obtain⟨o,ho,hc,hd⟩:=id hi;obtain⟨ol,hol,_,nl,hdl⟩:=hl;unfold Builtin.SmallTypes.nextOf;refine zaa (wpAny_callSpecial?_slot (name:=Str.ofString "__next__") hi.typeIs F.slot_tuple_iterator_next (wpAny_call_entry F.slot_tuple_iterator_next hi.typeIs F.entry_tuple_iterator_next ?_ (F.args_tuple_iterator_next_1 _)));show wpAny _ _ (field (.ref it) 0 >>= _) _ _ s;refine zaa (wpAny_field ho hd (x:=.ref l) rfl ?_);show wpAny _ _ (if (Value.ref l==Value.none)=true then _ else _) _ _ s
 rw[if_neg (show ¬ ((Value.ref l==Value.none)=true) from Bool.false_ne_true)];show wpAny _ _ (field (.ref it) 1 >>= _) _ _ s;refine zaa (wpAny_field ho hd (x:=.int i 0) rfl ?_);show wpAny _ _ (seqItems? (.ref l) >>= _) _ _ s;refine zaa (wpAny_seqItems hol hdl ?_);simp only[Int.toNat_natCast,hx];refine zaa (wpAny_rule (zaa (wpAny_setField ho hd (by simp) ?_)))
 show wpAny _ _ (newExc (.type "StopIteration") [] >>= _) _ _ _;refine zaa ?_;simp only[newExc,newTuple];refine zaa (wpAny_newObj_type ?_ (by size_fits))
 refine zaa (m:=firstArgMember _ _) (wpAny_of_eq (a:=Value.none) (by first|rfl|(simp only[firstArgMember];rfl)) ?_)
 refine wpAny_newObj_type ?_ (by size_fits)
 simp only[raiseNew];refine zaa (wpAny_handled ?_)
 first|rw[show A.in1.handled=none from hh]|rw[hh]
 exact zaa (zab (wpAny_throw (hE _ _ (((Heap.SameBut.update ..).extBut.push _).push _) ⟨_,zad _ rfl,rfl⟩)))
def SqAt(b:Bool)(h:Heap)(l:Addr)(xs:Array Value):Prop:=match b with
 |true=>h.IsTuple l xs
 |false=>h.IsList l xs
def ItAt(b:Bool)(h:Heap)(it l:Addr)(i:Nat):Prop:=match b with
 |true=>h.IsTupleIter it l i
 |false=>h.IsListIter it l i
def SqAt.at{b:Bool}{h g:Heap}{l:Addr}{xs:Array Value}(x:SqAt b h l xs)(k:∀ o,h.get? l=some o->g.get? l=some o):SqAt b g l xs:=by
 cases b with
 |true=>exact Heap.IsTuple.at (show h.IsTuple l xs from x) k
 |false=>exact Heap.IsList.at (show h.IsList l xs from x) k
def ItAt.at{b:Bool}{h g:Heap}{it l:Addr}{i:Nat}(x:ItAt b h it l i)(k:∀ o,h.get? it=some o->g.get? it=some o):ItAt b g it l i:=by
 cases b with
 |true=>exact Heap.IsTupleIter.at (show h.IsTupleIter it l i from x) k
 |false=>exact Heap.IsListIter.at (show h.IsListIter it l i from x) k
def uh{b:Bool}{it l:Addr}{i:Nat}{xs:Array Value}{x:Value}{Q:Value->Shared->Prop}(hi:ItAt b s.heap it l i)(hl:SqAt b s.heap l xs)(hx:xs[i]?=some x)(hQ:∀ g,ItAt b g it l (i+1)->Heap.SameBut it s.heap g->Q x {s with heap:=g}):wpAny (model P w) A (Builtin.SmallTypes.nextOf (.ref it)) Q E s:=by
 cases b with
 |true=>exact Qi hi hl hx hQ
 |false=>exact wpAny_nextOf_list_item hi hl hx hQ
def di{b:Bool}{it l:Addr}{i:Nat}{xs:Array Value}{Q:Value->Shared->Prop}(hh:A.handled=none)(hi:ItAt b s.heap it l i)(hl:SqAt b s.heap l xs)(hx:xs[i]?=none)(hE:∀ g e,Heap.ExtBut it s.heap g->(∃ o,g.get? e=some o/\o.cls=.type "StopIteration")->E (.ref e) {s with heap:=g}):wpAny (model P w) A (Builtin.SmallTypes.nextOf (.ref it)) Q E s:=by
 cases b with
 |true=>exact Nw hh hi hl hx hE
 |false=>exact wpAny_nextOf_list_end hh hi hl hx hE
structure ZAt(b1 b2:Bool)(g:Heap)(z ti to i1 i2 l1 l2:Addr)(f:Value)(k:Nat):Prop where
 zz:IsZip g z ti to f
 its:IsPair g ti (.ref i1) (.ref i2)
 out:∃a b,IsPair g to a b
 one:ItAt b1 g i1 l1 k
 two:ItAt b2 g i2 l2 k
structure ZNe(z ti to i1 i2:Addr):Prop where
 ab:ti≠z
 ac:to≠z
 ad:i1≠z
 ae:i2≠z
 bc:ti≠to
 bd:ti≠i1
 be:ti≠i2
 cd:to≠i1
 ce:to≠i2
 de:i1≠i2
def ZOff(z to i1 i2 c:Addr):Prop:=c≠z/\c≠to/\c≠i1/\c≠i2
def Kb{b1 b2:Bool}{z ti to i1 i2 l1 l2:Addr}{k:Nat}{xs ys:Array Value}{x y:Value}{Q:Value->Shared->Prop}(D:ZNe z ti to i1 i2)(d1:ZOff z to i1 i2 l1)(d2:ZOff z to i1 i2 l2)(Z:ZAt b1 b2 s.heap z ti to i1 i2 l1 l2 .none k)(t1:SqAt b1 s.heap l1 xs)(t2:SqAt b2 s.heap l2 ys)(hx:xs[k]?=some x)(hy:ys[k]?=some y)(hQ:∀ g,ZAt b1 b2 g z ti to i1 i2 l1 l2 (rawInt s.heap.objs.size) (k+1)->IsPair g s.heap.objs.size x y->(∀ c o,ZOff z to i1 i2 c->s.heap.get? c=some o->g.get? c=some o)->Q (.ref s.heap.objs.size) {s with heap:=g}) :
  wpAny (model P w) A (Builtin.«zip.__next__» ⟨[.ref z],[]⟩) (λfin s'=>∃v,fin=.done (.ret v)/\Q v s') E s:=by
 obtain⟨hz,hti,⟨a,b,hto⟩,h1,h2⟩:=Z;show wpAny _ _ (field (.ref z) 2 >>= _) _ _ _;refine zaa (wpAny_field hz rfl (x:=.bool false) rfl ?_);show wpAny _ _ (field (.ref z) 3 >>= _) _ _ _;refine zaa (wpAny_field hz rfl (x:=.ref ti) rfl ?_);refine zaa (wpAny_seqItems hti rfl ?_);show wpAny _ _ (Builtin.SmallTypes.ownedTupleIsFree (.ref z) >>= _) _ _ _;refine zaa ?_;unfold Builtin.SmallTypes.ownedTupleIsFree;refine zaa (wpAny_field hz rfl (x:=.none) rfl (zab ?_));simp only[if_true];refine zaa (wpAny_rule ?_);refine zaa (wpAny_field hz rfl (x:=.ref to) rfl ?_);refine zaa (wpAny_setField_rec hz (by simp) λg1 z1 s1=>?_)
 replace z1:IsZip g1 z ti to .ellipsis:=z1
 refine zaa ?_;simp only[List.zipIdx_cons,List.zipIdx_nil,List.forIn_cons,List.forIn_nil];refine zaa (zaa (wpAny_onRaise ?_));show wpAny _ _ (Builtin.SmallTypes.nextOf (.ref i1) >>= _) _ _ _;refine zaa (uh (h1.at λo e=>s1.extBut _ o D.ad e) (t1.at λo e=>s1.extBut _ o d1.1 e) hx λg2 p2 s2=>zab ?_);have to2:IsPair g2 to a b:=s2.extBut _ _ D.cd (s1.extBut _ _ D.ac hto);refine zaa (wpAny_seqItems to2 rfl (zaa (wpAny_updateSeq_pair to2 λg3 to3 s3=>?_)))
 replace to3:IsPair g3 to x b:=to3
 refine zaa (wpAny_letGo (zab (zaa (zaa (wpAny_onRaise ?_)))));show wpAny _ _ (Builtin.SmallTypes.nextOf (.ref i2) >>= _) _ _ _;refine zaa (uh (h2.at λo e=>s3.extBut _ o D.ce.symm (s2.extBut _ o D.de.symm (s1.extBut _ o D.ae e))) (t2.at λo e=>s3.extBut _ o d2.2.1 (s2.extBut _ o d2.2.2.1 (s1.extBut _ o d2.1 e))) hy λg4 p4 s4=>zab ?_);have to4:IsPair g4 to x b:=s4.extBut _ _ D.ce to3;refine zaa (wpAny_seqItems to4 rfl (zaa (wpAny_updateSeq_pair to4 λg5 to5 s5=>?_)))
 replace to5:IsPair g5 to x y:=to5
 refine zaa (wpAny_letGo (zab (zab (zaa (wpAny_seqItems to5 rfl (zaa (wpAny_newTuple ?_)))))));have sz:g5.objs.size=s.heap.objs.size:=by rw[s5.1,s4.1,s3.1,s2.1,s1.1]
 have z5:IsZip g5 z ti to .ellipsis:=s5.extBut _ _ D.ac.symm (s4.extBut _ _ D.ae.symm (s3.extBut _ _ D.ac.symm (s2.extBut _ _ D.ad.symm z1)));have kp5:∀c o,ZOff z to i1 i2 c->s.heap.get? c=some o->g5.get? c=some o:=λc o q e=>s5.extBut _ _ q.2.1 (s4.extBut _ _ q.2.2.2 (s3.extBut _ _ q.2.1 (s2.extBut _ _ q.2.2.1 (s1.extBut _ _ q.1 e))));have q1:ItAt b1 g5 i1 l1 (k+1):=p2.at λo e=>s5.extBut _ o D.cd.symm (s4.extBut _ o D.de (s3.extBut _ o D.cd.symm e));have q2:ItAt b2 g5 i2 l2 (k+1):=p4.at λo e=>s5.extBut _ o D.ce.symm e;have lz:z<g5.objs.size:=zae z5;show wpAny _ _ (Builtin.SmallTypes.ownedTupleHandOut (.ref z) (.ref g5.objs.size) >>= _) _ _ _;refine zaa ?_;unfold Builtin.SmallTypes.ownedTupleHandOut;have z6:IsZip (g5.push {cls:=.type "tuple",data:=.seq #[x,y]}) z ti to .ellipsis:=zac _ z5;refine zaa (wpAny_setField_rec z6 (by simp) λg7 z7 s7=>?_)
 replace z7:IsZip g7 z ti to (rawInt g5.objs.size):=z7
 refine wpAny_setField_rec z7 (by simp) λg8 z8 s8=>?_
 replace z8:IsZip g8 z ti to (rawInt g5.objs.size):=z8
 have up:∀c o,c≠z->g5.get? c=some o->g8.get? c=some o:=λc o c1 e=>s8.extBut _ _ c1 (s7.extBut _ _ c1 (zac _ e));have pr:IsPair g8 g5.objs.size x y:=s8.extBut _ _ (Nat.ne_of_gt lz) (s7.extBut _ _ (Nat.ne_of_gt lz) (zad _ rfl));rw[sz]at z8 pr;refine zab ⟨_,rfl,?_⟩;show Q (.ref g5.objs.size) _;rw[sz];exact hQ g8 ⟨z8,up _ _ D.ab (kp5 _ _ ⟨D.ab,D.bc,D.bd,D.be⟩ hti),⟨_,_,up _ _ D.ac to5⟩,q1.at λo e=>up _ o D.ad e,q2.at λo e=>up _ o D.ae e⟩ pr λc o q e=>up c o q.1 (kp5 c o q e)
def Eg{b1 b2:Bool}{z ti to i1 i2 l1 l2:Addr}{k:Nat}{xs ys:Array Value}{Q:Fin->Shared->Prop}(hh:A.handled=none)(D:ZNe z ti to i1 i2)(d1:ZOff z to i1 i2 l1)(d2:ZOff z to i1 i2 l2)(Z:ZAt b1 b2 s.heap z ti to i1 i2 l1 l2 .none k)(t1:SqAt b1 s.heap l1 xs)(t2:SqAt b2 s.heap l2 ys)(hend:xs[k]?=none\/ys[k]?=none)(hE:∀ g e,(∀ c o,ZOff z to i1 i2 c->s.heap.get? c=some o->g.get? c=some o)->(∃ o,g.get? e=some o/\o.cls=.type "StopIteration")->E (.ref e) {s with heap:=g}) :
  wpAny (model P w) A (Builtin.«zip.__next__» ⟨[.ref z],[]⟩) Q E s:=by
 obtain⟨hz,hti,⟨a,b,hto⟩,h1,h2⟩:=Z;show wpAny _ _ (field (.ref z) 2 >>= _) _ _ _;refine zaa (wpAny_field hz rfl (x:=.bool false) rfl ?_);show wpAny _ _ (field (.ref z) 3 >>= _) _ _ _;refine zaa (wpAny_field hz rfl (x:=.ref ti) rfl ?_);refine zaa (wpAny_seqItems hti rfl ?_);show wpAny _ _ (Builtin.SmallTypes.ownedTupleIsFree (.ref z) >>= _) _ _ _;refine zaa ?_;unfold Builtin.SmallTypes.ownedTupleIsFree;refine zaa (wpAny_field hz rfl (x:=.none) rfl (zab ?_));simp only[if_true];refine zaa (wpAny_rule ?_);refine zaa (wpAny_field hz rfl (x:=.ref to) rfl ?_);refine zaa (wpAny_setField_rec hz (by simp) λg1 z1 s1=>?_)
 replace z1:IsZip g1 z ti to .ellipsis:=z1
 refine zaa ?_;simp only[List.zipIdx_cons,List.zipIdx_nil,List.forIn_cons,List.forIn_nil];refine zaa (zaa (wpAny_onRaise ?_));show wpAny _ _ (Builtin.SmallTypes.nextOf (.ref i1) >>= _) _ _ _;cases hx:xs[k]? with
 |none =>
  refine zaa (di hh (h1.at λo e=>s1.extBut _ o D.ad e) (t1.at λo e=>s1.extBut _ o d1.1 e) hx λg2 e s2 he=>?_);obtain⟨oe,hoe,hce⟩:=he;have z2:IsZip g2 z ti to .ellipsis:=s2 _ _ D.ad.symm z1;have ez:e≠z:=λx=>by subst x;rw[z2]at hoe;cases hoe;simp at hce
  exact wpAny_setField_rec z2 (by simp) λg3 _ s3=>hE g3 e (λc o q x=>s3.extBut _ _ q.1 (s2 _ _ q.2.2.1 (s1.extBut _ _ q.1 x))) ⟨oe,s3.extBut _ _ ez hoe,hce⟩
 |some x =>
  have hy:ys[k]?=none:=by rcases hend with h|h;rw[hx]at h;cases h;exact h
  refine zaa (uh (h1.at λo e=>s1.extBut _ o D.ad e) (t1.at λo e=>s1.extBut _ o d1.1 e) hx λg2 p2 s2=>zab ?_);have to2:IsPair g2 to a b:=s2.extBut _ _ D.cd (s1.extBut _ _ D.ac hto);refine zaa (wpAny_seqItems to2 rfl (zaa (wpAny_updateSeq_pair to2 λg3 to3 s3=>?_)));refine zaa (wpAny_letGo (zab (zaa (zaa (wpAny_onRaise ?_)))));show wpAny _ _ (Builtin.SmallTypes.nextOf (.ref i2) >>= _) _ _ _;refine zaa (di hh (h2.at λo e=>s3.extBut _ o D.ce.symm (s2.extBut _ o D.de.symm (s1.extBut _ o D.ae e))) (t2.at λo e=>s3.extBut _ o d2.2.1 (s2.extBut _ o d2.2.2.1 (s1.extBut _ o d2.1 e))) hy λg4 e s4 he=>?_);obtain⟨oe,hoe,hce⟩:=he;have z4:IsZip g4 z ti to .ellipsis:=s4 _ _ D.ae.symm (s3.extBut _ _ D.ac.symm (s2.extBut _ _ D.ad.symm z1));have ez:e≠z:=λx=>by subst x;rw[z4]at hoe;cases hoe;simp at hce
  exact wpAny_setField_rec z4 (by simp) λg5 _ s5=>hE g5 e (λc o q x=>s5.extBut _ _ q.1 (s4 _ _ q.2.2.2 (s3.extBut _ _ q.2.1 (s2.extBut _ _ q.2.2.1 (s1.extBut _ _ q.1 x))))) ⟨oe,s5.extBut _ _ ez hoe,hce⟩
def Ws{b1 b2:Bool}{z ti to i1 i2 l1 l2:Addr}{k:Nat}{xs ys:Array Value}{x y:Value}{Q:Option Value->Shared->Prop}(D:ZNe z ti to i1 i2)(d1:ZOff z to i1 i2 l1)(d2:ZOff z to i1 i2 l2)(Z:ZAt b1 b2 s.heap z ti to i1 i2 l1 l2 .none k)(t1:SqAt b1 s.heap l1 xs)(t2:SqAt b2 s.heap l2 ys)(hx:xs[k]?=some x)(hy:ys[k]?=some y)(hQ:∀ g,ZAt b1 b2 g z ti to i1 i2 l1 l2 (rawInt s.heap.objs.size) (k+1)->IsPair g s.heap.objs.size x y->(∀ c o,ZOff z to i1 i2 c->s.heap.get? c=some o->g.get? c=some o)->Q (some (.ref s.heap.objs.size)) {s with heap:=g}) :
  wpAny (model P w) A (pyNext (.ref z)) Q E s:=by
 have ty:s.TypeIs (.ref z) "zip":=⟨_,Z.zz,rfl⟩;unfold pyNext;exact zaa (wpAny_attempt (wpAny_callSpecial?_slot (name:=Str.ofString "__next__") ty F.slot_zip_next (wpAny_call_entry F.slot_zip_next ty F.entry_zip_next (Kb D d1 d2 Z t1 t2 hx hy λg a b c=>zab (hQ g a b c)) (F.args_zip_next_1 _))))
def R5{b1 b2:Bool}{z ti to i1 i2 l1 l2:Addr}{k:Nat}{xs ys:Array Value}{Q:Option Value->Shared->Prop}(hh:A.handled=none)(D:ZNe z ti to i1 i2)(d1:ZOff z to i1 i2 l1)(d2:ZOff z to i1 i2 l2)(Z:ZAt b1 b2 s.heap z ti to i1 i2 l1 l2 .none k)(t1:SqAt b1 s.heap l1 xs)(t2:SqAt b2 s.heap l2 ys)(hend:xs[k]?=none\/ys[k]?=none)(hQ:∀ g,(∀ c o,ZOff z to i1 i2 c->s.heap.get? c=some o->g.get? c=some o)->Q none {s with heap:=g}):wpAny (model P w) A (pyNext (.ref z)) Q E s:=by
 have ty:s.TypeIs (.ref z) "zip":=⟨_,Z.zz,rfl⟩;unfold pyNext;refine zaa (wpAny_attempt (wpAny_callSpecial?_slot (name:=Str.ofString "__next__") ty F.slot_zip_next (wpAny_call_entry F.slot_zip_next ty F.entry_zip_next (Eg hh D d1 d2 Z t1 t2 hend λg e kp he=>?_) (F.args_zip_next_1 _))));obtain⟨o,ho,hc⟩:=he;refine zaa (wpAny_isInstance (T:="StopIteration") (b:=true) ⟨o,ho,hc⟩ isSubtype_stop ?_);exact zab (hQ _ kp)
def Fq(b:Bool):String:=match b with
 |true=>"tuple_iterator"
 |false=>"list_iterator"
abbrev zh1(b1:Bool)(h:Heap)(l1:Addr):Heap:=h.push {cls:=.type (Fq b1),data:=.fields #[.ref l1,.int 0 0]}
abbrev zh2(b1 b2:Bool)(h:Heap)(l1 l2:Addr):Heap:=(zh1 b1 h l1).push {cls:=.type (Fq b2),data:=.fields #[.ref l2,.int 0 0]}
abbrev zh3(b1 b2:Bool)(h:Heap)(l1 l2:Addr):Heap:=(zh2 b1 b2 h l1 l2).push {cls:=.type "tuple",data:=.seq #[.ref h.objs.size,.ref (zh1 b1 h l1).objs.size]}
abbrev zh4(b1 b2:Bool)(h:Heap)(l1 l2:Addr):Heap:=(zh3 b1 b2 h l1 l2).push {cls:=.type "tuple",data:=.seq #[.none,.none]}
abbrev zh5(b1 b2:Bool)(h:Heap)(l1 l2:Addr):Heap:=(zh4 b1 b2 h l1 l2).push {cls:=.type "zip",data:=.fields #[.none,.bool false,.bool false,.ref (zh2 b1 b2 h l1 l2).objs.size,.ref (zh3 b1 b2 h l1 l2).objs.size]}
def Ee(b1 b2:Bool)(l1 l2:Addr)(xs ys:Array Value) :
  Meets (Builtin.«zip.__new__» ⟨[.type "zip",.ref l1,.ref l2],[]⟩) (λ_ R s=>SqAt b1 s.heap l1 xs/\SqAt b2 s.heap l2 ys/\R (.ok (.ret (.ref (zh4 b1 b2 s.heap l1 l2).objs.size))) {s with heap:=zh5 b1 b2 s.heap l1 l2}) :=
 .of_wp λprog w A R s h=>by
  obtain⟨hp,g,d,tk,os⟩:=s;obtain⟨a1,a2,h⟩:=h;have hsub:=sub_zip;cases b1 <;> cases b2
  ·have b1:Heap.IsList (Shared.heap ⟨hp,g,d,tk,os⟩) l1 xs:=a1;have b2:Heap.IsList (Shared.heap ⟨hp.push {cls:=.type "list_iterator",data:=.fields #[.ref l1,.int 0 0]},g,d,tk,os⟩) l2 ys:=Heap.IsList.push a2 _;wp_walk using wpAny_pyIter_list b1,wpAny_pyIter_list b2;exact⟨_,rfl,h⟩
  ·have b1:Heap.IsList (Shared.heap ⟨hp,g,d,tk,os⟩) l1 xs:=a1;have b2:Heap.IsTuple (Shared.heap ⟨hp.push {cls:=.type "list_iterator",data:=.fields #[.ref l1,.int 0 0]},g,d,tk,os⟩) l2 ys:=Heap.IsTuple.push a2 _;wp_walk using wpAny_pyIter_list b1,wpAny_pyIter_tuple b2;exact⟨_,rfl,h⟩
  ·have b1:Heap.IsTuple (Shared.heap ⟨hp,g,d,tk,os⟩) l1 xs:=a1;have b2:Heap.IsList (Shared.heap ⟨hp.push {cls:=.type "tuple_iterator",data:=.fields #[.ref l1,.int 0 0]},g,d,tk,os⟩) l2 ys:=Heap.IsList.push a2 _;wp_walk using wpAny_pyIter_tuple b1,wpAny_pyIter_list b2;exact⟨_,rfl,h⟩
  ·have b1:Heap.IsTuple (Shared.heap ⟨hp,g,d,tk,os⟩) l1 xs:=a1;have b2:Heap.IsTuple (Shared.heap ⟨hp.push {cls:=.type "tuple_iterator",data:=.fields #[.ref l1,.int 0 0]},g,d,tk,os⟩) l2 ys:=Heap.IsTuple.push a2 _;wp_walk using wpAny_pyIter_tuple b1,wpAny_pyIter_tuple b2;exact⟨_,rfl,h⟩
def S3{b1 b2:Bool}{l1 l2:Addr}{xs ys:Array Value}{Q:Value->Shared->Prop}(t1:SqAt b1 s.heap l1 xs)(t2:SqAt b2 s.heap l2 ys)(h:∀ g,ZAt b1 b2 g (s.heap.objs.size+4) (s.heap.objs.size+2) (s.heap.objs.size+3) s.heap.objs.size (s.heap.objs.size+1) l1 l2 .none 0->(∀ c o,s.heap.get? c=some o->g.get? c=some o)->Q (.ref (s.heap.objs.size+4)) {s with heap:=g}) :
  wpAny (model P w) A (call (.type "zip") [.ref l1,.ref l2]) Q E s:=by
 refine callType_new F.called_zip (by decide) (F.typeCall_zip_2 _ _) (F.newCall_zip_2 _ _) (λobj=>F.args_object_init_3 obj _ _) F.entry_zip_new (Ee b1 b2 l1 l2 xs ys) ⟨t1,t2,?_⟩
 have n1:(zh1 b1 s.heap l1).objs.size=s.heap.objs.size+1:=Heap.size_push ..;have n2:(zh2 b1 b2 s.heap l1 l2).objs.size=s.heap.objs.size+2:=by rw[Heap.size_push,n1]
 have n3:(zh3 b1 b2 s.heap l1 l2).objs.size=s.heap.objs.size+3:=by rw[Heap.size_push,n2]
 have n4:(zh4 b1 b2 s.heap l1 l2).objs.size=s.heap.objs.size+4:=by rw[Heap.size_push,n3]
 have g5:(zh5 b1 b2 s.heap l1 l2).get? (zh4 b1 b2 s.heap l1 l2).objs.size=some _:=zad _ rfl;have g4:(zh5 b1 b2 s.heap l1 l2).get? (zh3 b1 b2 s.heap l1 l2).objs.size=some _:=zac _ (zad _ rfl);have g3:(zh5 b1 b2 s.heap l1 l2).get? (zh2 b1 b2 s.heap l1 l2).objs.size=some _:=zac _ (zac _ (zad _ rfl));have g2:(zh5 b1 b2 s.heap l1 l2).get? (zh1 b1 s.heap l1).objs.size=some _:=zac _ (zac _ (zac _ (zad _ rfl)));have g1:(zh5 b1 b2 s.heap l1 l2).get? s.heap.objs.size=some _:=zac _ (zac _ (zac _ (zac _ (zad _ rfl))));show _/\_;rw[n2,n3,n4]at g5;rw[n1,n2]at g3;rw[n3]at g4;rw[n1]at g2;rw[n4];exact⟨⟨_,g5,rfl⟩,h _ ⟨g5,g3,⟨_,_,g4⟩,(by cases b1 <;> exact⟨_,g1,rfl,rfl⟩),(by cases b2 <;> exact⟨_,g2,rfl,rfl⟩)⟩ λc o e=>zac _ (zac _ (zac _ (zac _ (zac _ e))))⟩
def ItAt.there{b:Bool}{h:Heap}{it l:Addr}{i:Nat}(x:ItAt b h it l i):∃o,h.get? it=some o/\∀v,o.data≠.cell v:=by
 cases b with
 |true =>
  obtain⟨o,e,c,d⟩:=(show h.IsTupleIter it l i from x);exact⟨o,e,λv q=>by rw[d]at q;cases q⟩
 |false =>
  obtain⟨o,e,c,d⟩:=(show h.IsListIter it l i from x);exact⟨o,e,λv q=>by rw[d]at q;cases q⟩
def SqK(b:Bool)(K:W.Frag)(H:Hp)(l:Addr)(xs:List V):Prop:=match b with
 |true=>SqT K H l xs
 |false=>SqL K H l xs
def Wc{b:Bool}{X:Cx}{pn:List (Addr×Obj)}{σ:St}{H:Hp}{s:Shared}{l:Addr}{xs:List V}(I:Inv X pn σ H s)(h:SqK b X.K H l xs):∃its,Vals xs its/\SqAt b s.heap l its.toArray:=by
 cases b with
 |true =>
  obtain⟨its,r,p,_⟩:=I.tuple h;exact⟨its,r,(show s.heap.IsTuple l its.toArray from p)⟩
 |false =>
  obtain⟨its,r,p,_⟩:=I.list h;exact⟨its,r,p.isList⟩
def Gx{b:Bool}{X:Cx}{pn:List (Addr×Obj)}{σ:St}{H:Hp}{s:Shared}{l:Addr}{xs ys:List V}(I:Inv X pn σ H s)(h:SqK b X.K H l xs)(h':SqK b X.K H l ys):xs=ys:=by
 cases b with
 |true=>exact I.tuple_inj h h'
 |false=>exact I.list_inj h h'
def vn{b:Bool}{X:Cx}{pn:List (Addr×Obj)}{σ:St}{H:Hp}{s:Shared}{l c:Addr}{xs:List V}(I:Inv X pn σ H s)(h:SqK b X.K H l xs)(f:FpOk X pn H c):l≠c:=by
 have kc:∀{o:Obj},X.K.lookup l=some o->l≠c:=λ{o} lk z=>by
  subst z;have e:=I.ok.mod.kin _ _ lk;rcases f.2.2.2.1 with q|q
  ·exact I.ok.noex _ _ e q
  ·exact absurd (Nat.lt_of_lt_of_le (zae e) I.ok.bsz) (Nat.not_lt.mpr q)
 cases b with
 |true =>
  rcases h with(h|⟨o,h⟩)|⟨o,its,n,lk,_⟩
  ·exact zx h f.1
  ·exact zx h f.1
  ·exact kc lk
 |false =>
  rcases h with(h|⟨o,h⟩)|⟨o,its,n,lk,_⟩
  ·exact zx h f.1
  ·exact zx h f.1
  ·exact kc lk
def Itz(b1 b2:Bool)(K:W.Frag)(l1 l2:Addr):It :=
 ⟨λi H=>∃xs ys x y,SqK b1 K H l1 xs/\SqK b2 K H l2 ys/\xs[i]?=some x/\ys[i]?=some y,
  λi H v H'=>∃T x y,H T=none/\v=.ref T/\(∀xs,SqK b1 K H l1 xs->xs[i]?=some x)/\(∀ys,SqK b2 K H l2 ys->ys[i]?=some y)/\H'=upd H T (.tup [x,y]),
  λi H=>∃xs ys,SqK b1 K H l1 xs/\SqK b2 K H l2 ys/\(xs.length<=i\/ys.length<=i)⟩
def Kk{P:Program}{w:World}{K:W.Frag}{es:List Expr}{kk:Nat}{tp:Pos}{b1 b2:Bool}{z ti to i1 i2 l1 l2:Addr}(D:ZNe z ti to i1 i2) :
  Turn P w K (.Tuple es kk tp) (Itz b1 b2 K l1 l2) [z,ti,to,i1,i2] z (λi h=>ZAt b1 b2 h z ti to i1 i2 l1 l2 .none i) where
 mem:=by simp
 obj:=λi h Z b hb=>by
  obtain⟨hz,hti,⟨u,v,hto⟩,h1,h2⟩:=Z;obtain⟨o1,e1,d1⟩:=h1.there;obtain⟨o2,e2,d2⟩:=h2.there;simp only[zam,List.not_mem_nil,or_false]at hb;rcases hb with rfl|rfl|rfl|rfl|rfl
  ·exact⟨_,hz,λv q=>(by cases q)⟩
  ·exact⟨_,hti,λv q=>(by cases q)⟩
  ·exact⟨_,hto,λv q=>(by cases q)⟩
  ·exact⟨o1,e1,λv q=>d1 v q⟩
  ·exact⟨o2,e2,λv q=>d2 v q⟩
 keep:=λi h h' Z k=>by
  obtain⟨hz,hti,⟨u,v,hto⟩,h1,h2⟩:=Z;exact⟨k z (by simp) _ hz,k ti (by simp) _ hti,⟨u,v,k to (by simp) _ hto⟩,h1.at λo e=>k i1 (by simp) o e,h2.at λo e=>k i2 (by simp) o e⟩
 item:=by
  intro X hP hw hK hc i pn s σ H E I hf Z hg;subst hP hw hK;obtain⟨xs,ys,x,y,e1,e2,hx,hy⟩:=hg;obtain⟨its1,r1,g1⟩:=Wc I e1;obtain⟨its2,r2,g2⟩:=Wc I e2;obtain⟨u,hu,ru⟩:=r1.get hx;obtain⟨v,hv,rv⟩:=r2.get hy;have fz:=hf z (by simp)
  have fto:=hf to (by simp)
  have f1:=hf i1 (by simp)
  have f2:=hf i2 (by simp)
  have off:∀b ho,H b=some ho->ZOff z to i1 i2 b:=λb ho e=>⟨zx e fz.1,zx e fto.1,zx e f1.1,zx e f2.1⟩;refine Ws D ⟨vn I e1 fz,vn I e1 fto,vn I e1 f1,vn I e1 f2⟩ ⟨vn I e2 fz,vn I e2 fto,vn I e2 f1,vn I e2 f2⟩ Z g1 g2 (x:=u) (y:=v) (by simpa using hu) (by simpa using hv) λg Z2 pr kp=>?_
  have hn:H s.heap.objs.size=none:=I.fresh;have hout:∀b,b∉[z,to,i1,i2]->ZOff z to i1 i2 b:=λb hb=>by
   simp only[zam,List.not_mem_nil,or_false,not_or]at hb;exact hb
  have un:Un (frs X.stack) [z,to,i1,i2] H (upd H s.heap.objs.size (.tup [x,y])) s.heap g :=
   ⟨λb o q _ _ hx=>kp b o (hout b hx) q,λb o q _ _ hx=>⟨o.slots,kp b o (hout b hx) q⟩,λb o q n _=>by rw[zy (Nat.ne_of_lt (zae q))];exact n,λb o q hx=>⟨o,kp b o (hout b hx) q⟩,
    λb zs q=>by rw[zy (zx q hn)];exact q,λb o zs q=>by rw[zy (zx q hn)];exact q,λb ps q=>⟨#[],by rw[zy (zx q hn),q];simp⟩⟩
  have hok:HOk X.prog X.w (upd H s.heap.objs.size (.tup [x,y])) g:=λb o e=>by
   by_cases hb:b=s.heap.objs.size
   ·subst hb;rw[zu]at e;cases e;refine⟨by simp only[zLc,zLn];rw[sizeLine_eq];decide,[u,v],.cons ru (.cons rv .nil),⟨_,pr,rfl,_,rfl⟩,_,pr,rfl⟩
   ·rw[zy hb]at e;refine(I.hok b o e).stay (λc ob hc q=>kp c ob ?_ q) (λc q=>by rw[zy (zx q hn)];exact q) λc zs q=>by rw[zy (zx q hn)];exact q
    rcases hc with rfl|hc
    ·exact off _ _ e
    ·exact off _ _ hc
  have I2:Inv X pn σ (upd H s.heap.objs.size (.tup [x,y])) {s with heap:=g}:=I.call' (s':={s with heap:=g}) (ch:=[z,to,i1,i2]) rfl un hok I.bare λb hb=>by
   have hb':b∈[z,ti,to,i1,i2]:=by
    simp only[zam,List.not_mem_nil,or_false]at hb ⊢;rcases hb with rfl|rfl|rfl|rfl <;> simp
   have q:=hf b hb';exact⟨q.2.2.2.1,q.2.1,q.2.2.2.2.1,q.2.2.2.2.2⟩
  have none5:∀b∈[z,ti,to,i1,i2],upd H s.heap.objs.size (.tup [x,y]) b=none:=λb hb=>by
   have lb:b<s.heap.objs.size:=by
    obtain⟨hz,hti,⟨u,v,hto⟩,h1,h2⟩:=Z;obtain⟨_,q1,_⟩:=h1.there;obtain⟨_,q2,_⟩:=h2.there;simp only[zam,List.not_mem_nil,or_false]at hb;rcases hb with rfl|rfl|rfl|rfl|rfl
    ·exact zae hz
    ·exact zae hti
    ·exact zae hto
    ·exact zae q1
    ·exact zae q2
   rw[zy (Nat.ne_of_lt lb)];exact(hf b hb).1
  refine⟨_,rfl,wpAny_letOwnedTupleGo_zip Z2.zz λg2 z3 sb=>?_⟩;refine⟨.ref s.heap.objs.size,_,I2.turned (t':=s.toks) (λb o hb e=>sb.extBut b o hb e) (none5 z (by simp)) fz.2.1 fz.2.2.2.1 fz.2.2.2.2.1 fz.2.2.2.2.2,rfl,⟨_,x,y,hn,rfl,(λzs q=>by rw[<- Gx I e1 q];exact hx),(λzs q=>by rw[<- Gx I e2 q];exact hy),rfl⟩,?_,none5⟩
  obtain⟨_,hti,⟨u2,v2,hto⟩,h1,h2⟩:=Z2;exact⟨z3,sb.extBut _ _ D.ab hti,⟨u2,v2,sb.extBut _ _ D.ac hto⟩,h1.at λo e=>sb.extBut _ o D.ad e,h2.at λo e=>sb.extBut _ o D.ae e⟩
 done:=by
  intro X hP hw hK hc i pn s σ H E I hf Z hg;subst hP hw hK;obtain⟨xs,ys,e1,e2,hend⟩:=hg;obtain⟨its1,r1,g1⟩:=Wc I e1;obtain⟨its2,r2,g2⟩:=Wc I e2;have fz:=hf z (by simp)
  have fto:=hf to (by simp)
  have f1:=hf i1 (by simp)
  have f2:=hf i2 (by simp)
  have off:∀b ho,H b=some ho->ZOff z to i1 i2 b:=λb ho e=>⟨zx e fz.1,zx e fto.1,zx e f1.1,zx e f2.1⟩;have l1':=r1.length;have l2':=r2.length;refine R5 (I.ok.hd hc) D ⟨vn I e1 fz,vn I e1 fto,vn I e1 f1,vn I e1 f2⟩ ⟨vn I e2 fz,vn I e2 fto,vn I e2 f1,vn I e2 f2⟩ Z g1 g2 ?_ λg kp=>?_
  ·rcases hend with q|q
   ·exact .inl (by simp;omega)
   ·exact .inr (by simp;omega)
  ·refine⟨rfl,?_⟩;have hout:∀b,b∉[z,to,i1,i2]->ZOff z to i1 i2 b:=λb hb=>by
    simp only[zam,List.not_mem_nil,or_false,not_or]at hb;exact hb
   have un:Un (frs X.stack) [z,to,i1,i2] H H s.heap g :=
    ⟨λb o q _ _ hx=>kp b o (hout b hx) q,λb o q _ _ hx=>⟨o.slots,kp b o (hout b hx) q⟩,λb o q n _=>n,λb o q hx=>⟨o,kp b o (hout b hx) q⟩,
     λb zs q=>q,λb o zs q=>q,λb ps q=>⟨#[],by rw[q];simp⟩⟩
   refine I.call' (s':={s with heap:=g}) (ch:=[z,to,i1,i2]) rfl un (λb o e=>(I.hok b o e).stay (λc ob hc q=>kp c ob ?_ q) (λc q=>q) λc zs q=>q) I.bare λb hb=>?_
   ·rcases hc with rfl|hc
    ·exact off _ _ e
    ·exact off _ _ hc
   ·have hb':b∈[z,ti,to,i1,i2]:=by
     simp only[zam,List.not_mem_nil,or_false]at hb ⊢;rcases hb with rfl|rfl|rfl|rfl <;> simp
    have q:=hf b hb';exact⟨q.2.2.2.1,q.2.1,q.2.2.2.2.1,q.2.2.2.2.2⟩
 self:=λ_ _ _ _ _ Z h=>wpAny_pyIter_zip Z.zz h
def U1:bootBuiltins "zip" = some (.type "zip"):=by kernel_rfl
def iZip(K:W.Frag)(ta:TA):TI:=λσ H R=>ta σ H λvs H1=>∃b1 b2 l1 l2 xs ys,vs=[.ref l1,.ref l2]/\SqK b1 K H1 l1 xs/\SqK b2 K H1 l2 ys/\R (Itz b1 b2 K l1 l2) H1
def z0k{X:Cx}{es:List Expr}{kk:Nat}{tp:Pos}{a b:Expr}{ta:TA}{p pos:Pos}(hg:Gl X "zip")(hm:X.mg "zip" = none)(ha:PA X [a,b] ta)(he:starEach [a,b] X.env=(false,eval a X.env)::starEach [b] X.env:=by rfl)(hpl:(backTo pos (starEach [b] X.env)).any (·.1)=false:=by rfl):PI X (.Tuple es kk tp) (.Call (.Name "zip" p) [a,b] [] pos) (iZip X.K ta):=by
 intro pn s σ H R I h;refine wpAny_Call_Name_kw (ju I hg hm U1 ?_ (by decide) (by decide))
 refine PyProof.Rows.callWith_type1 (thn (ha pos pn s σ H _ I h) λus s1 ⟨vs,H1,I1,r1,b1,b2,l1,l2,xs,ys,e,e1,e2,q⟩=>?_) he hpl;subst e;obtain⟨u,v,rfl,ru,rv⟩:=Ps r1;cases ru;cases rv;obtain⟨its1,r1,g1⟩:=Wc I1 e1;obtain⟨its2,r2,g2⟩:=Wc I1 e2;refine S3 (xs:=its1.toArray) (ys:=its2.toArray) g1 g2 λg Z kp=>wpAny_pyIter_zip Z.zz ?_;have D:ZNe (s1.heap.objs.size+4) (s1.heap.objs.size+2) (s1.heap.objs.size+3) s1.heap.objs.size (s1.heap.objs.size+1):=by
  constructor <;> (intro z;exact absurd (show(_:Nat)=_ from z) (by omega))
 refine⟨_,_,_,_,H1,rfl,I1.kept (t':=s1.toks) kp,Kk D,Z,λb hb=>?_,q⟩;have lb:s1.heap.objs.size<=b:=by
  simp only[zam,List.not_mem_nil,or_false]at hb;rcases hb with rfl|rfl|rfl|rfl|rfl
  ·exact Nat.le_add_right _ _
  ·exact Nat.le_add_right _ _
  ·exact Nat.le_add_right _ _
  ·exact zaj _
  ·exact Nat.le_add_right _ _
 exact I1.fpOk lb (I1.hok.fresh lb)
structure FlyB(P:Program)(w:World)(outer:List Env)(H:Hp)(h:Heap)(H':Hp)(B:Heap)(h':Heap):Prop where
 un:Un (frs outer) [] H H' h h'
 hok:HOk P w H' h'
 cov:∀b o,h'.get? b=some o->b∉frs outer->(H' b≠none\/∃o0,h.get? b=some o0)->B.get? b=some o
def CX1(P:Program)(w:World):CXT:=λouter H s E e s'=>∃(a C:Addr)(t:Value)(H':Hp)(B:Heap),e=.ref a/\s'.os=s.os/\AllBare s'.gens/\FlyB P w outer H s.heap H' B s'.heap /\
 Heap.FlyingW B outer a (.ref C) t s'.heap/\E (.ref C) none H'
def sg(t b:Int):Int:=if b<0 then -(Int.gcd t b:Int) else Int.gcd t b
open PySem.Builtin.Int (intBits)
def fdOk{i j:Int}{m:Nat}(h:j≠0)(hb:intBits j<=m)(hm:m<=8999:=by omega):FdOk i j:=by
 refine⟨h,?_⟩;unfold intBits at hb;rw[if_neg (by simpa using h)]at hb
 omega
def d9{n:Nat}{i:Int}:okD n (.int i)=True:=by cases n <;> rfl
def z1e{n:Nat}{i:Bool}:okD n (.bl i)=True:=by cases n <;> rfl
def xg{n:Nat}{i:Str}:okD n (.str i)=True:=by cases n <;> rfl
def Nq{n:Nat}:okD n .non=True:=by cases n <;> rfl
def C8{n:Nat}{ds:List D}(h:0<n):okD n (.tup ds)=∀x∈ds,okD (n-1) x:=by
 cases n with
 |zero=>omega
 |succ n=>rfl
def qa{n:Nat}{ds:List D}(h:0<n):okD n (.lst ds)=∀x∈ds,okD (n-1) x:=by
 cases n with
 |zero=>omega
 |succ n=>rfl
def Tt{a b:Int}:eqD (.int a) (.int b)=(a==b):=rfl
def v6{a b:Str}:eqD (.str a) (.str b)=(a==b):=rfl
def z2j{a b:Bool}:eqD (.bl a) (.bl b)=(a==b):=rfl
def w2(g:Int->Int->(EV->Prop)->Prop):FT:=λds φ=>match ds with
 |[.int a,.int b]=>g a b φ
 |_=>False
def w1(g:Int->(EV->Prop)->Prop):FT:=λds φ=>match ds with
 |[.int a]=>g a φ
 |_=>False
def z3d{g:Int->(EV->Prop)->Prop}{ds:List D}{φ:EV->Prop}(h:w1 g ds φ):∃a,ds=[.int a]/\g a φ:=by
 unfold w1 at h;split at h
 ·exact⟨_,rfl,h⟩
 ·exact h.elim
def Z6:FT:=w1 λ_ φ=>φ (dv (.bl true))
def r2(g:Int->Int->Int->Int->(EV->Prop)->Prop):FT:=λds φ=>match ds with
 |[.tup [.int a,.int b],.tup [.int c,.int d]]=>g a b c d φ
 |_=>False
def bj{α:Type}{x:α}{l:List α}:atI (x::l) 0=some x:=by
 rw[show(0:Int)=((0:Nat):Int) from rfl];exact xh rfl
def bh{α:Type}{x y:α}{l:List α}:atI (x::y::l) 1=some y:=by
 rw[show(1:Int)=((1:Nat):Int) from rfl];exact xh rfl
def K4{α:Type}{x y z:α}{l:List α}:atI (x::y::z::l) 2=some z:=by
 rw[show(2:Int)=((2:Nat):Int) from rfl];exact xh rfl
variable{κ:Type}[DecidableEq κ]
def valV(kvs:List (κ×V))(k:κ):Option V:=(kvs.find? λkv=>decide (kv.1=k)).map (·.2)
def putK(kvs:List (κ×V))(k:κ)(v:V):List (κ×V) :=
 if (kvs.any λkv=>decide (kv.1=k))=true then kvs.map (λkv=>if kv.1=k then(kv.1,v) else kv) else kvs++[(k,v)]
def Y5{p:κ×V}{r:List (κ×V)}{k:κ}(e:p.1=k):valV (p::r) k=some p.2:=by simp[valV,List.find?_cons,e]
def Y6{p:κ×V}{r:List (κ×V)}{k:κ}(e:¬ p.1=k):valV (p::r) k=valV r k:=by simp[valV,List.find?_cons,e]
def RelO.isSome_eq{o:Option V}{u:Option Value}(r:RelO o u):o.isSome=u.isSome:=by
 cases o with
 |none=>cases u with
  |none=>rfl
  |some _=>exact(show False from r).elim
 |some _=>cases u with
  |none=>exact(show False from r).elim
  |some _=>rfl
def RelO.getD{o:Option V}{u:Option Value}{d:V}{d':Value}(r:RelO o u)(rd:RelV d d'):RelV (o.getD d) (u.getD d'):=by
 cases o with
 |none=>cases u with
  |none=>exact rd
  |some _=>exact(show False from r).elim
 |some _=>cases u with
  |none=>exact(show False from r).elim
  |some _=>exact r
def KV.val{kvs:List (κ×V)}{vs:List (κ×Value)}(r:KV kvs vs)(k:κ):RelO (valV kvs k) (valueAt vs k):=by
 unfold KV at r
 induction r with
 |nil=>exact True.intro
 |@cons p q ps qs h t ih =>
  obtain⟨h1,h2⟩:=h;by_cases e:p.1=k
  ·have e':q.1=k:=h1.symm.trans e;have b:valueAt (q::qs) k=some q.2:=by simp[valueAt,List.find?_cons,e']
   rw[Y5 e,b];exact h2
  ·have e':¬ q.1=k:=λz=>e (h1.trans z);have b:valueAt (q::qs) k=valueAt qs k:=by simp[valueAt,List.find?_cons,e']
   rw[Y6 e,b];exact ih
def KV.length{kvs:List (κ×V)}{vs:List (κ×Value)}(r:KV kvs vs):kvs.length=vs.length:=Paired.length r
def Qw{P:Program}{w:World}{k:Key}{u:Value}(r:RelV (kV k) u):(yx P w).is k u=true:=by
 cases k with
 |inl i=>obtain⟨t,e⟩:=(show ∃t,u=Value.int i t from r);subst e;exact Uu P w i t
 |inr x=>obtain⟨t,e⟩:=(show ∃t,u=Value.str x t from r);subst e;exact dj P w x t
theorem Wz{P:Program}{w:World}:∀{ks:List Key}{us:List Value},Vals (ks.map kV) us->ItemsAre (yx P w) ks us
 |[],_,r=>by rw[List.map_nil]at r;cases r;exact .nil
 |k::ks,_,r=>by
  rw[List.map_cons]at r;cases r with
  |cons h t=>exact .cons (Qw h) (Wz t)
abbrev KT(H:Hp):List (List Key×V)->List (List Key×Addr×Value)->Prop:=Paired λp q=>p.1=q.1/\H q.2.1=some (.tup (p.1.map kV))/\RelV p.2 q.2.2
def KT.val{H:Hp}{kvs:List (List Key×V)}{xs:List (List Key×Addr×Value)}(r:KT H kvs xs)(k:List Key):RelO (valV kvs k) ((atKey xs k).map (·.2)):=by
 induction r with
 |nil=>exact True.intro
 |@cons p q ps qs h t ih =>
  obtain⟨h1,_,h2⟩:=h;by_cases e:p.1=k
  ·have e':q.1=k:=h1.symm.trans e;have b:atKey (q::qs) k=some q.2:=by simp[atKey,List.find?_cons,e']
   rw[Y5 e,b];exact h2
  ·have e':¬ q.1=k:=λz=>e (h1.trans z);have b:atKey (q::qs) k=atKey qs k:=by simp[atKey,List.find?_cons,e']
   rw[Y6 e,b];exact ih
variable{a:Addr}
def Au{u:HO}(ok:HOk P w H h)(e:Rd H a u):xy P w H h a u:=e.ok ok
def Tv{kvs:List (Key×V)}(ok:HOk P w H h)(e:Rd H a (.dK kvs)):kvs.length<=sizeLine/\(a==sysModules)=false/\∃vs,KV kvs vs/\h.DictOf (yx P w) a vs :=
 show xy P w H h a (.dK kvs) from Au ok e
def Bb{kvs:List (Key×V)}(ok:HOk P w H h)(e:H a=some (.dK kvs)):kvs.length<=sizeLine/\(a==sysModules)=false/\∃vs,KV kvs vs/\h.DictOf (yx P w) a vs:=Tv ok (.inl e)
def Wx{ks:List Key}(ok:HOk P w H h)(e:H a=some (.tup (ks.map kV))):(tupleKind (yx P w)).is h ks a:=by
 obtain⟨_,its,r,⟨o,h1,h2,n,h3⟩,_⟩:=(show xy P w H h a (.tup (ks.map kV)) from ok a _ e);exact⟨o,its.toArray,n,h1,h2,h3,by simpa using Wz r⟩
def P7{kvs:List (List Key×V)}(ok:HOk P w H h)(e:Rd H a (.dT kvs)):kvs.length<=sizeLine/\(a==sysModules)=false /\
  ∃xs,KT H kvs xs/\h.DictOfH (tupleKind (yx P w)) a xs:=by
 obtain⟨z,y,xs,r,o,es,ep,h1,h2,h3,h4,h5⟩:=(show xy P w H h a (.dT kvs) from Au ok e);refine⟨z,y,xs,r,o,es,ep,h1,h2,h3,h4,λx hx=>?_,h5⟩;have all:∀{l:List (List Key×V)}{m:List (List Key×Addr×Value)},KT H l m->∀x∈m,(tupleKind (yx P w)).is h x.1 x.2.1:=by
  intro l m q
  induction q with
  |nil=>intro x hx;exact nomatch hx
  |@cons p q ps qs hq t ih =>
   intro x hx;rcases zam.mp hx with e|hx
   ·subst e;exact Wx ok (by rw[<- hq.1];exact hq.2.1)
   ·exact ih x hx
 exact all r x hx
def DGet(H:Hp)(a:Addr)(y:V)(r:Option V):Prop :=
 (∃kvs k,Rd H a (.dK kvs)/\y=kV k/\r=valV kvs k)\/∃kvs k b,Rd H a (.dT kvs)/\y=.ref b/\H b=some (.tup (k.map kV))/\r=valV kvs k
def DPut(H:Hp)(a:Addr)(y v:V)(H':Hp):Prop :=
 (∃kvs k,H a=some (.dK kvs)/\y=kV k/\kvs.length<sizeLine/\H'=upd H a (.dK (putK kvs k v))) \/
 ∃kvs k b,H a=some (.dT kvs)/\y=.ref b/\H b=some (.tup (k.map kV))/\kvs.length<sizeLine/\H'=upd H a (.dT (putK kvs k v))
def DGet.k{H:Hp}{a:Addr}{kvs:List (Key×V)}{k:Key}(e:H a=some (.dK kvs)):DGet H a (kV k) (valV kvs k):=.inl ⟨kvs,k,.inl e,rfl,rfl⟩
def DGet.t{H:Hp}{a b:Addr}{kvs:List (List Key×V)}{k:List Key}(e:H a=some (.dT kvs))(eb:H b=some (.tup (k.map kV))):DGet H a (.ref b) (valV kvs k):=.inr ⟨kvs,k,b,.inl e,rfl,eb,rfl⟩
def DPut.t{H:Hp}{a b:Addr}{kvs:List (List Key×V)}{k:List Key}{v:V}(e:H a=some (.dT kvs))(eb:H b=some (.tup (k.map kV)))(hl:kvs.length<sizeLine) :
  DPut H a (.ref b) v (upd H a (.dT (putK kvs k v))):=.inr ⟨kvs,k,b,e,rfl,eb,hl,rfl⟩
variable{y:V}{u:Value}{o:Option V}
def Inv.big(I:Inv X pn σ H s):sysModules<s.heap.objs.size:=by
 have h:mainGlobals<s.heap.objs.size:=(I.mod.glob.keeps I.bk).lt;exact Nat.lt_trans (by decide) h
def Lj{Q:Value->Shared->Prop}(hu:A.units+1<cLine)(I:Inv X pn σ H s)(g:DGet H a y (some v))(ry:RelV y u)(h:∀ w' s',Inv X pn σ H s'->RelV v w'->Q w' s') :
  wpAny (model X.prog X.w) A (getItem (.ref a) u) Q E s:=by
 rcases g with⟨kvs,k,e,ey,l⟩|⟨kvs,k,b,e,ey,eb,l⟩
 ·subst ey;obtain⟨z,hd,vs,rel,dd⟩:=Tv I.hok e;obtain⟨w',hw,rw'⟩:=RelO.some_of (v:=v) (o:=valueAt vs k) (by rw[l];exact rel.val k)
  exact wpAny_getItem_of (Qw ry) dd.mapOf hw (h w' _ (I.tok _) rw')
 ·subst ey;cases (show u=Value.ref b from ry);obtain⟨z,hd,xs,rel,dd⟩:=P7 I.hok e;obtain⟨w',hw,rw'⟩:=RelO.some_of (v:=v) (o:=(atKey xs k).map (·.2)) (by rw[l];exact rel.val k)
  obtain⟨p,hp,hp2⟩:=zar.mp hw;refine wpAny_getItem_heap (tupleKind_room_in1 hu) (Wx I.hok eb) dd hp ?_;rw[hp2];exact h w' _ (I.tok _) rw'
def d_in{Q:Value->Shared->Prop}(hu:A.units+1<cLine)(I:Inv X pn σ H s)(g:DGet H a y o)(ry:RelV y u)(h:∀ s',Inv X pn σ H s'->Q (.bool o.isSome) s') :
  wpAny (model X.prog X.w) A (compareOp .In u (.ref a)) Q E s:=by
 rcases g with⟨kvs,k,e,ey,l⟩|⟨kvs,k,b,e,ey,eb,l⟩
 ·subst ey;obtain⟨z,hd,vs,rel,dd⟩:=Tv I.hok e;refine wpAny_in_of (Qw ry) hd dd.mapOf ?_;rw[<- (rel.val k).isSome_eq,<- l];exact h _ (I.tok _)
 ·subst ey;cases (show u=Value.ref b from ry);obtain⟨z,hd,xs,rel,dd⟩:=P7 I.hok e;refine wpAny_in_heap (tupleKind_room_in1 hu) (Wx I.hok eb) hd dd ?_;have q:=(rel.val k).isSome_eq;rw[Option.isSome_map]at q;rw[<- q,<- l];exact h _ (I.tok _)
def Bd{Q:Value->Shared->Prop}(hu:A.units+1<cLine)(I:Inv X pn σ H s)(g:DGet H a y o)(ry:RelV y u)(h:∀ s',Inv X pn σ H s'->Q (.bool (!o.isSome)) s') :
  wpAny (model X.prog X.w) A (compareOp .NotIn u (.ref a)) Q E s:=by
 rcases g with⟨kvs,k,e,ey,l⟩|⟨kvs,k,b,e,ey,eb,l⟩
 ·subst ey;obtain⟨z,hd,vs,rel,dd⟩:=Tv I.hok e;refine wpAny_notIn_of (Qw ry) hd dd.mapOf ?_;rw[<- (rel.val k).isSome_eq,<- l];exact h _ (I.tok _)
 ·subst ey;cases (show u=Value.ref b from ry);obtain⟨z,hd,xs,rel,dd⟩:=P7 I.hok e;refine wpAny_notIn_heap (tupleKind_room_in1 hu) (Wx I.hok eb) hd dd ?_;have q:=(rel.val k).isSome_eq;rw[Option.isSome_map]at q;rw[<- q,<- l];exact h _ (I.tok _)
def Bc{h':Heap}{t':Nat}{ob:HO}(I:Inv X pn σ H s)(mu:Mut (H a))(hs:Heap.SameBut a s.heap h')(he:∃ q,h'.get? a=some q)(new:xy X.prog X.w (upd H a ob) h' a ob) :
  Inv X pn σ (upd H a ob) {s with heap:=h',toks:=t'} :=
 I.write (x:=a) (e:=a) mu (.inl rfl) (λb q hb z=>(hs.2 b hb).trans z) he new
def Ru{P:Program}{w:World}{H':Hp}{h':Heap}{kvs:List (Key×V)}{vs:List (Key×Value)}(z:kvs.length<=sizeLine)(hd:(a==sysModules)=false)(rel:KV kvs vs)(dd:h'.DictOf (yx P w) a vs) :
  xy P w H' h' a (.dK kvs):=⟨z,hd,vs,rel,dd⟩
def Tw{X:Cx}{pn:List (Addr×Obj)}{σ:St}{H:Hp}{s:Shared}{a:Addr}{y:V}{o:Option V}(I:Inv X pn σ H s)(g:DGet H a y o):s.TypeIs (.ref a) "dict":=by
 rcases g with⟨kvs,k,e,_,_⟩|⟨kvs,k,b,e,_,_,_⟩
 ·obtain⟨_,_,vs,_,dd⟩:=Tv I.hok e;exact dd.typeIs
 ·obtain⟨_,_,xs,_,dd⟩:=P7 I.hok e;exact dd.typeIs
structure M1(X:Cx)(o:Expr)(m:Str)(apos:Pos)(e:Expr)(cpos:Pos):Prop where
 base:attributeBase o m X.env (eval o X.env)=eval o X.env
 few:((backTo cpos (starEach [e] X.env)).all (λx=>!x.1)&&(backToKw cpos (keywordEach [] X.env)).all (λx=>x.1.isSome)
  && decide (([e]:List Expr).length+([]:List Keyword).length+(if ([]:List Keyword).isEmpty then 0 else 1)<30))=true
 line:(apos.endLine==cpos.line)=true
 trees:backTo cpos (starEach [e] X.env)=[(false,eval e X.env)]
def IsD(H:Hp)(a:Addr):Prop:=(∃kvs,Rd H a (.dK kvs))\/∃kvs,Rd H a (.dT kvs)
def Fs{X:Cx}{pn:List (Addr×Obj)}{σ:St}{H:Hp}{s:Shared}{a:Addr}(I:Inv X pn σ H s)(d:IsD H a) :
  s.TypeIs (.ref a) "dict"/\(∀b,Value.ref a=.ref b->∃ob,s.heap.get? b=some ob/\ob.dict=none)/\(a==sysModules)=false:=by
 rcases d with⟨kvs,e⟩|⟨kvs,e⟩
 ·obtain⟨_,hd,vs,_,dd⟩:=Tv I.hok e;refine⟨dd.typeIs,λb q=>?_,hd⟩;cases q;obtain⟨ob,_,_,h1,h2,_⟩:=dd;exact⟨ob,h1,h2.2.1⟩
 ·obtain⟨_,hd,xs,_,dd⟩:=P7 I.hok e;refine⟨dd.typeIs,λb q=>?_,hd⟩;cases q;obtain⟨ob,_,_,h1,h2,_⟩:=dd;exact⟨ob,h1,h2.2.1⟩
def z2p{Q:Value->Shared->Prop}(hu:A.units+1<cLine)(I:Inv X pn σ H s)(g:DGet H a y o)(ry:RelV y u)(h:∀ w' s',Inv X pn σ H s'->RelV (o.getD .non) w'->Q w' s') :
  wpAny (model X.prog X.w) A (call (.builtin "dict.get") [.ref a,u]) Q E s:=by
 rcases g with⟨kvs,k,e,ey,l⟩|⟨kvs,k,b,e,ey,eb,l⟩
 ·subst ey;obtain⟨z,hd,vs,rel,dd⟩:=Tv I.hok e;refine call_meetsIn PySem.F.slot_dict_get dd.typeIs PySem.F.entry_dict_get (PySem.F.args_dict_get_2 _ _) (meets_dict_get (yx X.prog X.w) a (Qw ry) hd) ⟨_,dd.mapOf,h _ _ (I.tok _) ?_⟩;rw[l];exact(rel.val k).getD rfl
 ·subst ey;cases (show u=Value.ref b from ry);obtain⟨z,hd,xs,rel,dd⟩:=P7 I.hok e;refine call_meetsIn PySem.F.slot_dict_get dd.typeIs PySem.F.entry_dict_get (PySem.F.args_dict_get_2 _ _) (meetsH_dict_get (tupleKind (yx X.prog X.w)) a b hd) ⟨tupleKind_room_in1 hu,k,xs,Wx I.hok eb,dd,h _ _ (I.tok _) ?_⟩;rw[l];exact(rel.val k).getD rfl
def Ab(td ty:TE):TE:=λσ H Q=>td σ H λx H1=>∃a,x=.ref a/\IsD H1 a/\ty σ H1 λy H2=>∃o,DGet H2 a y o/\Q (o.getD .non) H2
variable{o:Expr}{td ty:TE}
def Jj(hu:X.A.units+1<cLine)(ho:PE X o td)(he:PE X e ty)(m:M1 X o "get" apos e cpos):PE X (.Call (.Attribute o "get" apos) [e] [] cpos) (Ab td ty):=by
 intro pn s σ H Q I h;refine wpAny_Call_method m.base m.few m.line PySem.F.plainAttrs_dict PySem.F.slot_dict_get PySem.F.type_dict_get (thn (ho pn s σ H _ I h) λu s1 ⟨x,H1,I1,rx,a,ex,d,q1⟩=>?_);subst ex;obtain rfl:u=Value.ref a:=rx;obtain⟨t1,t2,_⟩:=Fs I1 d;refine⟨t1,t2,?_⟩;rw[m.trees];refine Calls.callWith_builtin rfl (Calls.evalArgs_plain (Calls.spliced_cons (thn (he pn s1 σ H1 _ I1 q1) λiv s2 ⟨y,H2,I2,ry,ov,g,q2⟩=>Calls.spliced_nil ?_)));exact z2p hu I2 g ry λw' s3 I3 rw'=>⟨_,H2,I3,rw',q2⟩
instance decMemKey (k:Key) (ks:List Key):Decidable (k∈ks):=decidable_of_iff (ks.any (λx=>decide (x=k))=true) (by simp)
variable{α:Type}
def ud:List Key->List α->Key->Option α
 |k'::ks,d::ds,k=>if k'=k then some d else ud ks ds k
 |_,_,_=>none
def kput(ks:List Key)(k:Key):List Key:=if k∈ks then ks else ks++[k]
def dput:List Key->List α->Key->α->List α
 |k'::ks,d'::ds,k,d=>if k'=k then d::ds else d'::dput ks ds k d
 |_,_,_,d=>[d]
def gd:∀(ks:List Key)(xs:List V)(k:Key),valV (ks.zip xs) k=ud ks xs k
 |[],xs,k=>by cases xs <;> rfl
 |k'::ks,[],k=>rfl
 |k'::ks,x::xs,k=>by
  rw[List.zip_cons_cons,ud];by_cases e:k'=k
  ·rw[if_pos e,Y5 (by exact e)]
  ·rw[if_neg e,Y6 (by exact e),gd ks xs k]
theorem jb{α:Type}:∀{ks:List Key}{xs:List α}{k:Key},ks.length=xs.length->(ud ks xs k=none ↔ k∉ks)
 |[],xs,k,h=>by cases xs <;> simp[ud] at *
 |k'::ks,[],k,h=>by simp at h
 |k'::ks,x::xs,k,h=>by
  rw[ud];by_cases e:k'=k
  ·simp[e]
  ·rw[if_neg e,jb (by simpa using h)]
   simp[e,Ne.symm e]
theorem qp:∀{ks:List Key}{ds:List D}{xs:List V}{k:Key},Reps K H O ds xs->(∀d,ud ks ds k=some d->∃v,ud ks xs k=some v/\Rep K H O d v)/\(ud ks ds k=none->ud ks xs k=none)
 |[],ds,xs,k,r=>⟨(λd h=>by cases ds <;> cases h),(λ_=>by cases xs <;> rfl)⟩
 |k'::ks,[],xs,k,r=>by
  cases r
  exact⟨(λd h=>by cases h),λ_=>rfl⟩
 |k'::ks,d'::ds,xs,k,r=>by
  obtain⟨v,ws,rfl,q,t⟩:=r;rw[ud,ud];by_cases e:k'=k
  ·rw[if_pos e,if_pos e];exact⟨(λd h=>by cases h;exact⟨v,rfl,q⟩),(λh=>by cases h)⟩
  ·rw[if_neg e,if_neg e];exact qp t
def keyD:D->Option Key
 |.int i=>some (.inl i)
 |.str x=>some (.inr x)
 |_=>none
def X0{K:W.Frag}{H:Hp}{O:List Addr}{d:D}{v:V}{k:Key}(h:View K H O d v)(e:keyD d=some k):v=kV k:=by
 cases d with
 |int i=>cases e;exact h
 |str i=>cases e;exact h
 |_=>cases e
variable{a:Expr}{t:TDs}
def Ff(hu:X.A.units+1<cLine):OpR X (compareOp .In) (λx y H Q=>∃a kvs k,y=.ref a/\H a=some (.dK kvs)/\x=kV k/\Q (.bl (valV kvs k).isSome) H):=by
 intro pn s σ H x y v u Q I rx ry h;obtain⟨a,kvs,k,rfl,ha,rfl,q⟩:=h;cases ry;exact d_in hu I (DGet.k ha) rx λs' I'=>⟨.bl _,H,I',rfl,q⟩
def Wn(hu:X.A.units+1<cLine):OpR X (compareOp .NotIn) (λx y H Q=>∃a kvs k,y=.ref a/\H a=some (.dK kvs)/\x=kV k/\Q (.bl (!(valV kvs k).isSome)) H):=by
 intro pn s σ H x y v u Q I rx ry h;obtain⟨a,kvs,k,rfl,ha,rfl,q⟩:=h;cases ry;exact Bd hu I (DGet.k ha) rx λs' I'=>⟨.bl _,H,I',rfl,q⟩
def Ta{α:Type}{ks:List Key}{xs:List α}{k:Key}(h:ks.length=xs.length):(ud ks xs k).isSome=decide (k∈ks):=by
 by_cases hk:k∈ks
 ·rw[decide_eq_true hk];cases e:ud ks xs k with
  |none=>exact absurd hk ((jb h).mp e)
  |some _=>rfl
 ·rw[decide_eq_false hk,(jb h).mpr hk];rfl
def ca:D->Bool
 |.non=>true
 |.bl _=>true
 |.int _=>true
 |.str _=>true
 |_=>false
def inD(x:D)(l:List D):Bool:=l.any λy=>eqD y x
def sIn(neg:Bool):D->D->(EV->Prop)->Prop:=λx y φ=>match y with
 |.dk ks _=>(match keyD x with|some k=>φ (dv (.bl (if neg then !decide (k∈ks) else decide (k∈ks))))|none=>False)
 |.lst l=>ca x=true/\l.all ca=true/\φ (dv (.bl (if neg then !inD x l else inD x l)))
 |.tup l=>ca x=true/\l.all ca=true/\φ (dv (.bl (if neg then !inD x l else inD x l)))
 |.str z=>(match x with|.str p=>φ (dv (.bl (if neg then !(!(Builtin.Str.occurrences z p 0 z.length 1).isEmpty) else !(Builtin.Str.occurrences z p 0 z.length 1).isEmpty)))|_=>False)
 |_=>False
def k6{K:W.Frag}{H:Hp}{O:List Addr}{d:D}{v:V}(h:View K H O d v)(f:ca d=true):bx v=true/\∀(e:D)(w:V),View K H O e w->ca e=true->eqV v w=eqD d e:=by
 cases d with
 |non=>cases (show v=_ from h);exact⟨rfl,λe w he fe=>by cases e <;> first|(cases (show w=_ from he);rfl)|cases fe⟩
 |bl b=>cases (show v=_ from h);exact⟨rfl,λe w he fe=>by cases e <;> first|(cases (show w=_ from he);rfl)|cases fe⟩
 |int b=>cases (show v=_ from h);exact⟨rfl,λe w he fe=>by cases e <;> first|(cases (show w=_ from he);rfl)|cases fe⟩
 |str b=>cases (show v=_ from h);exact⟨rfl,λe w he fe=>by cases e <;> first|(cases (show w=_ from he);rfl)|cases fe⟩
 |_=>cases f
theorem X7{K:W.Frag}{H:Hp}{O:List Addr}{x:D}{v:V}(hx:View K H O x v)(fx:ca x=true):∀{l:List D}{xs:List V},Reps K H O l xs->l.all ca=true->xs.all bx=true/\inV v xs=inD x l
 |[],_,r,_=>by cases r;exact⟨rfl,rfl⟩
 |d::l,xs,r,f=>by
  obtain⟨w,ws,rfl,q,t⟩:=r;rw[List.all_cons,Bool.and_eq_true]at f;obtain⟨i1,i2⟩:=X7 hx fx t f.2;obtain⟨g1,g2⟩:=k6 q.view f.1;refine⟨by rw[List.all_cons,g1,i1];rfl,?_⟩
  unfold inV inD at *;rw[List.any_cons,List.any_cons,i2,g2 x v hx fx]
def Yy{K:W.Frag}{neg:Bool}:qh K (λx y H Q=>(∃a kvs k,y=.ref a/\H a=some (.dK kvs)/\x=kV k/\Q (.bl (if neg then !(valV kvs k).isSome else(valV kvs k).isSome)) H)\/rIn K neg x y H Q\/∃i j,x=.str i/\y=.str j/\Q (.bl (if neg then !(!(Builtin.Str.occurrences j i 0 j.length 1).isEmpty) else !(Builtin.Str.occurrences j i 0 j.length 1).isEmpty)) H) (sIn neg):=by
 intro H O x y vx vy φ Q ho hx hy h k;unfold sIn at h;split at h
 ·split at h
  ·rename_i ks ds kk ek;obtain⟨a,xs,rfl,q,l,nd,r⟩:=hy;refine .inl ⟨a,_,kk,rfl,q,X0 hx ek,?_⟩;rw[gd,Ta (by rw[l,r.length])]
   exact k _ _ H (Same.refl H) (by exact rfl) h
  ·exact h.elim
 ·obtain⟨f1,f2,h⟩:=h;obtain⟨a,xs,rfl,q,r⟩:=hy;obtain⟨g1,g2⟩:=X7 hx f1 r f2;refine .inr (.inl ⟨a,xs,rfl,.inl (SqL.of q),(k6 hx f1).1,g1,?_⟩);rw[g2];exact k _ _ H (Same.refl H) (by exact rfl) h
 ·obtain⟨f1,f2,h⟩:=h;obtain⟨a,xs,rfl,q,r⟩:=hy;obtain⟨g1,g2⟩:=X7 hx f1 r f2;refine .inr (.inl ⟨a,xs,rfl,.inr q.1,(k6 hx f1).1,g1,?_⟩);rw[g2];exact k _ _ H (Same.refl H) (by exact rfl) h
 ·split at h
  ·exact .inr (.inr ⟨_,_,hx,hy,k _ _ H (Same.refl H) (by exact rfl) h⟩)
  ·exact h.elim
 ·exact h.elim
def z2n(hu:X.A.units+64<cLine)(ha:ED Γ X a ta)(hb:ED Γ X b tb)(hm:behindInMarks .In b=false:=by with_unfolding_all rfl):ED Γ X (.Compare a [.In] [b] pos) (d2 (sIn false) ta tb):=cq ((Ff (by omega)).or (qt.or Wo)) Yy ha hb hm
def z2i(hu:X.A.units+64<cLine)(ha:ED Γ X a ta)(hb:ED Γ X b tb)(hm:behindInMarks .In b=false:=by with_unfolding_all rfl):ET Γ X (.Compare a [.In] [b] pos) (tBo (d2 (sIn false) ta tb)):=k9 ((Ff (by omega)).or (qt.or Wo)) Yy ha hb hm
def Hu(hu:X.A.units+64<cLine)(ha:ED Γ X a ta)(hb:ED Γ X b tb)(hm:behindInMarks .NotIn b=false:=by with_unfolding_all rfl):ED Γ X (.Compare a [.NotIn] [b] pos) (d2 (sIn true) ta tb):=cq ((Wn (by omega)).or (tu.or jr)) Yy ha hb hm
def Xl(hu:X.A.units+64<cLine)(ha:ED Γ X a ta)(hb:ED Γ X b tb)(hm:behindInMarks .NotIn b=false:=by with_unfolding_all rfl):ET Γ X (.Compare a [.NotIn] [b] pos) (tBo (d2 (sIn true) ta tb)):=k9 ((Wn (by omega)).or (tu.or jr)) Yy ha hb hm
def sIxx:D->D->(EV->Prop)->Prop:=λx y φ=>match x with
 | .dk ks ds=>(match keyD y with
  | some k=>(match ud ks ds k with
   |some d=>φ (dv d)
   | none=>False)
  | none=>False)
 |x=>sIx1 x y φ
def Co(hu:X.A.units+1<cLine):IxR X (λx y H Q=>∃a kvs k v,x=.ref a/\H a=some (.dK kvs)/\y=kV k/\valV kvs k=some v/\Q v H):=by
 intro value slice pn s σ H x y v u Q I rx ry h hs;obtain⟨a,kvs,k,w,rfl,ha,rfl,e,q⟩:=h;cases rx;have g:DGet H a (kV k) (some w):=by rw[<- e];exact DGet.k ha
 exact tail_any (Tw I g) PySem.F.slot_dict_getitem.lookup (Lj hu I g ry λw' s' I' rw'=>⟨w,H,I',rw',q⟩) hs
def Jt:qh X.K (λx y H Q=>rIx X.K x y H Q\/∃a kvs k v,x=.ref a/\H a=some (.dK kvs)/\y=kV k/\valV kvs k=some v/\Q v H) sIxx:=by
 intro H O x y vx vy φ Q ho hx hy h k;cases x with
 |dk ks ds =>
  obtain⟨a,xs,rfl,q,l,nd,r⟩:=hx;unfold sIxx at h
  dsimp only at h
  split at h
  ·rename_i kk ek;split at h
   ·rename_i d ed;obtain⟨v,ev,rv⟩:=(qp (ks:=ks) (k:=kk) r).1 d ed;exact .inr ⟨a,_,kk,v,rfl,q,X0 hy ek,by rw[gd];exact ev,k _ _ H (Same.refl H) (RV.val rv) h⟩
   ·exact h.elim
  ·exact h.elim
 |_=>exact .inl (Ce H O _ y vx vy φ Q ho hx hy h k)
def zk(hu:X.A.units+64<cLine)(ha:ED Γ X a ta)(hb:ED Γ X b tb)(hs:jm b:=by intro _ _;rfl):ED Γ X (.Subscript a b pos) (d2 sIxx ta tb):=λH₀=>impE (Wj (Ml.or (Co (by omega))) (ha H₀) (hb H₀) hs) (Md Jt)
variable{tk:TD}
def Ap(i:Nat)(tk te:TD):TDS:=λρ Z=>match slot ρ i with
 | some ⟨.own,.dk ks ds⟩=>te ρ λr=>tk ρ λkr=>(match r.k with|.own=>False|_=>True)/\ds.length<=100000/\(match keyD kr.d with
  |some k=>Z.nx (setS ρ i (dO (.dk (kput ks k) (dput ks ds k r.d))))
  | none=>False)
 |_=>False
def XP(Γ:Hp->Prop)(X:Cx)(χ:DE->Addr->Prop):Prop:=∀(H₀:Hp),Γ H₀->∀(ρ:DE)(o:List (Nat×Addr))(pn:List (Addr×Obj))(σ:St)(H:Hp)(s:Shared)(e:Value)(s':Shared),Inv X pn σ H s->REnv X.K H₀ H σ ρ o ->
 CX1 X.prog X.w X.stack H s (λcls _ H'=>Same H H'/\∃C,cls=.ref C/\χ ρ C) e s'->X.xe e s'
def Qa{N:List Str}{ds:List D}{vs:List V}{H:Hp}(r:Reps K H [] ds vs):REnv K H H (ZZ.start N vs) (vm N.length ds) []:=by
 have rl:=r.length;refine⟨Same.refl H,(λ_ z=>absurd z (by simp)),(λ_ z=>absurd z (by simp)),(λ_ z=>absurd z (by simp)),List.nodup_nil,λi r' e=>?_,?_⟩
 ·unfold vm at e;rcases Nat.lt_or_ge i ds.length with hi|hi
  ·rw[List.getElem?_append_left (by simpa using hi),zai]at e
   have ed:ds[i]?=some ds[i]:=by simp[hi]
   rw[ed]at e;have e':some (dv ds[i])=some r':=Option.some.inj e;cases e';obtain⟨v,ev,rv⟩:=r.get ed;refine⟨v,?_,.inl ⟨rfl,rv⟩⟩;unfold ZZ.start;rw[List.getElem?_append_left (by rw[zLm,rl];exact hi),zai,ev]
   rfl
  ·rw[List.getElem?_append_right (by simpa using hi),List.getElem?_replicate]at e
   split at e <;> cases e
 ·unfold ZZ.start vm;simp[rl]
def z0r{t:TE}(h:PE X e t):PE X (.FormattedValue e (-1) none pos) (λσ H Q=>t σ H λx H1=>(∃i,x=.int i/\i.natAbs.log2<1920/\Q (.str (toString i)) H1)\/∃z,x=.str z/\z.length<=sizeLine/\Q (.str z) H1):=by
 intro pn s σ H Q I q;refine FormattedValue_plain (thn (h pn s σ H _ I q) λv s1 ⟨x,H1,I1,rx,q1⟩=>?_);rcases q1 with⟨i,rfl,hl,q1⟩|⟨z,rfl,hz,q1⟩
 ·obtain⟨t,rfl⟩:=rx;exact formatField_int_small hl ⟨.str (toString i),H1,I1.tok _,⟨_,rfl⟩,q1⟩
 ·obtain⟨t,rfl⟩:=rx;exact formatField_str (λt' tk=>⟨.str z,H1,I1.tok _,⟨_,rfl⟩,q1⟩) hz
def dFmt(te:TD):TD:=λρ φ=>te ρ λr=>match r.d with
 |.int i=>i.natAbs.log2<1920/\φ (dv (.str (toString i)))
 |.str z=>z.length<=sizeLine/\φ (dv (.str z))
 |_=>False
def z2o(h:ED Γ X e te):ED Γ X (.FormattedValue e (-1) none pos) (dFmt te):=λH₀=>impE (z0r (h H₀)) λσ H Q q=>by
 obtain⟨ρ,o,R,φ,hφ,k⟩:=q;refine⟨ρ,o,R,_,hφ,λv r H1 s1 rv h1=>?_⟩;obtain⟨kd,d⟩:=r;cases d with
 |int i=>exact .inl ⟨i,rv.view,h1.1,k _ _ H1 s1 (by exact rfl) h1.2⟩
 |str z=>exact .inr ⟨z,rv.view,h1.1,k _ _ H1 s1 (by exact rfl) h1.2⟩
 |_=>exact h1.elim
def Ll:List TD->Str->TD
 |[],out=>λρ φ=>φ (dv (.str out))
 |t::ts,out=>λρ φ=>t ρ λr=>match r.d with
  |.str y=>(out++y).length<=sizeLine/\Ll ts (out++y) ρ φ
  |_=>False
theorem Mk:∀{es:List Expr}{ts:List TD},Paired (ED Γ X) es ts->∀(out:Str)(H₀:{H:Hp // Γ H})(pn:List (Addr×Obj))(s:Shared)(σ:St)(H:Hp)(Q:VK),out.length<=sizeLine->Inv X pn σ H s->vq X.K H₀.1 (Ll ts out) σ H Q ->
  wpAny (model X.prog X.w) X.A (joinParts out (evalEach es X.env)) (EP X pn σ Q) X.xe s
 |_,_,.nil,out,H₀,pn,s,σ,H,Q,hz,I,q=>by
  obtain⟨ρ,o,R,φ,hφ,k⟩:=q;exact joinParts_nil ⟨.str out,H,I.tok _,⟨_,rfl⟩,k _ (dv (.str out)) H (Same.refl H) (by exact rfl) hφ⟩ hz
 |_,_,.cons (a:=e1) (b:=t1) (l₁:=es) (l₂:=ts) he r,out,H₀,pn,s,σ,H,Q,hz,I,q=>by
  obtain⟨ρ,o,R,φ,hφ,k⟩:=q;show wpAny _ _ (joinParts out (eval e1 X.env::evalEach es X.env)) _ _ s;have one:=he H₀ pn s σ H (λv H1=>∃y,v=.str y/\(out++y).length<=sizeLine/\vq X.K H₀.1 (Ll ts (out++y)) σ H1 Q) I ⟨ρ,o,R,_,hφ,λv r H1 s1 rv h1=>by
   obtain⟨kd,d⟩:=r;cases d with
   |str y=>exact⟨y,rv.view,h1.1,ρ,o,R.to s1,φ,h1.2,λv r H2 s2 rv2 h2=>k v r H2 (s1.trans s2) (rv2.start s1) h2⟩
   | _=>exact h1.elim⟩
  refine joinParts_cons (thn one λv s1 hh=>?_);obtain⟨x,H1,I1,rx,y,ex,hy,q1⟩:=hh;subst ex;obtain⟨t,rfl⟩:=rx;exact⟨hy,Mk r _ H₀ pn s1 σ H1 Q hy I1 q1⟩
def B7{v₁ v₂:Expr}{rest:List Expr}{ts:List TD}(h:Paired (ED Γ X) (v₁::v₂::rest) ts):ED Γ X (.JoinedStr (v₁::v₂::rest) pos) (Ll ts Str.empty):=λH₀ pn s σ H Q I q =>
 JoinedStr_many (Mk h Str.empty H₀ pn s σ H Q (by decide) I q)
def Vu(n:Int):List Nat:=(PySem.Str.ofString (toString n)).cps.toList
def rh(x:String):(PySem.Str.ofString x).cps.toList=x.toList.map Char.toNat:=by
 exact signs_ofString x
def cz(m:Nat):Vu (m:Int)=(Nat.toDigits 10 m).map Char.toNat:=by
 unfold Vu;rw[rh,show toString ((m:Nat):Int)=m.repr from rfl,Nat.toList_repr]
def cy(m:Nat):Vu (Int.negSucc m)=45::(Nat.toDigits 10 (m+1)).map Char.toNat:=by
 unfold Vu;rw[rh,show toString (Int.negSucc m) = "-"++(m+1).repr from rfl];rw[String.toList_append,zMa,Nat.toList_repr];rfl
def uv{m c:Nat}(h:c∈(Nat.toDigits 10 m).map Char.toNat):48<=c/\c<=57:=by
 obtain⟨ch,hc,rfl⟩:=zah.mp h;have:=Nat.isDigit_of_mem_toDigits (by decide) (by decide) hc
 simp only[Char.isDigit,Bool.and_eq_true,decide_eq_true_eq]at this;exact⟨this.1,this.2⟩
def Tz{n:Int}{c:Nat}(h:c∈Vu n):c=45\/(48<=c/\c<=57):=by
 cases n with
 |ofNat m=>rw[show Int.ofNat m=((m:Nat):Int) from rfl,cz]at h;exact .inr (uv h)
 |negSucc m =>
  rw[cy]at h;rcases zam.mp h with h|h
  ·exact .inl h
  ·exact .inr (uv h)
def cp10{j:Int}(h0:0<=j)(h1:j<=1000):CPow 10 j=True:=by
 refine eq_true ⟨h0,by omega,by decide⟩
def O0{k:Nat}:((10:Int) ^ k=0)=False:=by
 refine eq_false ?_;have:(0:Int)<10 ^ k:=Int.pow_pos (by decide)
 omega
def xk{i j:Int}(h:j≠0)(h1:j.natAbs<=1000000000000):FdOk i j=True:=eq_true (fdOk (m:=64) h (PySem.intBits_le_iff.mpr (by omega)))
def Lr(l:List D)(k:Nat):cutD l none (some (k:Int))=l.take k:=by
 unfold cutD;rw[ZZ.sIx_none,ZZ.sIx_nat,List.drop_zero,Nat.sub_zero];rw[List.take_eq_take_iff];omega
def wf(l:List D)(k:Nat):cutD l (some (k:Int)) none=l.drop k:=by
 unfold cutD;rw[ZZ.sIx_none,ZZ.sIx_nat];by_cases h:k<=l.length
 ·rw[Nat.min_eq_left h,List.take_of_length_le (by simp)]
 ·rw[Nat.min_eq_right (by omega),List.drop_of_length_le (zaj _),List.drop_of_length_le (by omega)]
  simp
def U7{α:Type}{l:List α}{i:Int}{x:α}(h0:0<=i)(h:l[i.toNat]?=some x):atI l i=some x:=by
 have:=xh h
 rwa [Int.toNat_of_nonneg h0]at this
def K2{α:Type}{l:List α}(h:l≠[])(x:Int):∃r∈l,atI l (x.fmod (l.length:Int))=some r:=by
 have hp:(0:Int)<(l.length:Int):=by
  have:=List.length_pos_iff.mpr h;omega
 have h0:=Int.fmod_nonneg_of_pos x hp;have h1:=Int.fmod_lt_of_pos x hp;have hl:(x.fmod (l.length:Int)).toNat<l.length:=by omega
 exact⟨l[(x.fmod (l.length:Int)).toNat],List.getElem_mem hl,U7 h0 (by simp[hl])⟩
def x4(x m:Int)(h:0<m):0<=x.fmod m/\x.fmod m<m:=⟨Int.fmod_nonneg_of_pos x h,Int.fmod_lt_of_pos x h⟩
def Y0{x:Int}{m:Nat}(h:x.natAbs<2 ^ m):intBits x<=m:=PySem.intBits_le_iff.mpr h
def rk{ti:TID}{g:TGD}{tb:TDS}{ρ:DE}{Z:DZ}(ds:List D)(h:∀ φ:List D->Prop,φ ds->ti ρ φ)(P:Nat->DE->Prop)(h0:P 0 ρ)(ht:∀ i d ρ,ds[i]?=some d->P i ρ->g d ρ λρ'=>tb ρ' {Z with nx:=P (i+1),ct:=P (i+1),bk:=Z.nx})(hd:∀ ρ,P ds.length ρ->Z.nx ρ):sFor ti g tb ρ Z:=h _ ⟨P,h0,ht,hd⟩
def ff{ti:TID}{n:Nat}{js:List Nat}{g:TGD}{tc:TDb}{te:TD}{ρ:DE}{φ:EV->Prop}(ds:List D)(h:∀ ψ:List D->Prop,ψ ds->ti ρ ψ)(f:D->Option D)(hl:ds.length<=100000)(ht:∀ d∈ds,g d (ρ0 n js ρ) λρ'=>tc ρ' λc=>(c=true->te ρ' λr=>(match r.k with|.own=>False|_=>True)/\f d=some r.d)/\(c=false->f d=none))(hφ:φ (df (.lst (ds.filterMap f)))):Bf ti n js g tc te ρ φ:=h _ ⟨f,hl,ht,hφ⟩
def ub{lo:Int}{n i:Nat}{d:D}(h:(rngD lo n)[i]?=some d):i<n/\d=.int (lo+(i:Int)):=by
 unfold rngD at h;rw[zai]at h;cases e:(List.range n)[i]? with
 |none=>rw[e]at h;cases h
 |some m =>
  rw[e]at h;have hi:=(zag.mp e).1;rw[List.length_range]at hi;rw[List.getElem?_range hi]at e;cases e;cases h;exact⟨hi,rfl⟩
def vc{lo:Int}{n:Nat}:(rngD lo n).length=n:=by unfold rngD;simp
def W0{α β:Type}(f:α->β)(l:List α)(i:Int):atI (l.map f) i=(atI l i).map f:=by
 unfold atI;rw[zLm];cases ixN l.length i with
 |none=>rfl
 |some j=>simp
def wt{X:Cx}{K0:W.Frag}{es:List Expr}{k:Nat}{t:TGs}{n:Nat}{pos:Pos}(hK:X.K=K0)(hc:X.calm=true)(h:PGs X es t)(hn:(assignEach es X.env).length=n:=by rfl)(hst:(assignEach es X.env).findIdx? (·.1)=none:=by rfl):PG X (.Tuple es k pos) (gTup K0 n t):=by
 subst hK;exact z0l hc h hn hst
def zipD(xs ys:List D):List D:=List.zipWith (λx y=>D.tup [x,y]) xs ys
def seqD:D->Option (List D)
 |.lst ds=>some ds
 |.tup ds=>some ds
 |.scr ns=>some (ns.map D.int)
 |_=>none
def J4{ds:List D}:seqD (.lst ds)=some ds:=rfl
def J2{ds:List D}:seqD (.tup ds)=some ds:=rfl
def J3{ns:List Int}:seqD (.scr ns)=some (ns.map D.int):=rfl
def SeqP(b:Bool)(K:W.Frag)(H:Hp)(O:List Addr)(l:Addr)(d:D):Prop:=match d with
 |.lst ds=>b=false/\∃xs,H l=some (.lst xs)/\l∉O/\Reps K H O ds xs
 |.tup ds=>b=true/\∃xs,SqT K H l xs/\Reps K H O ds xs
 |.scr ns=>b=false/\Scr K H l ns
 |_=>False
def SeqP.of{K:W.Frag}{H:Hp}{O:List Addr}{d:D}{v:V}{ds:List D}(h:Rep K H O d v)(e:seqD d=some ds):∃b l,v=.ref l/\SeqP b K H O l d:=by
 cases d with
 |lst es=>obtain⟨a,xs,rfl,q,n,r⟩:=h;exact⟨false,a,rfl,rfl,xs,q,n,r⟩
 |tup es=>obtain⟨a,xs,rfl,q,r⟩:=h;exact⟨true,a,rfl,rfl,xs,q.1,r⟩
 |scr ns=>obtain⟨a,rfl,q⟩:=h;exact⟨false,a,rfl,rfl,q⟩
 |_=>cases e
def SeqP.sq{b:Bool}{K:W.Frag}{H:Hp}{O:List Addr}{l:Addr}{d:D}{ds:List D}(h:SeqP b K H O l d)(e:seqD d=some ds):∃xs,SqK b K H l xs/\Reps K H O ds xs:=by
 cases d with
 |lst es=>obtain⟨rfl,xs,q,n,r⟩:=h;cases e;exact⟨xs,SqL.of q,r⟩
 |tup es=>obtain⟨rfl,xs,q,r⟩:=h;cases e;exact⟨xs,q,r⟩
 |scr ns=>obtain⟨rfl,q⟩:=h;cases e;exact⟨_,q.seq,Reps.ints ns⟩
 |_=>cases e
def SeqP.grow{b:Bool}{K:W.Frag}{H H':Hp}{O O':List Addr}{l:Addr}{d:D}(h:SeqP b K H O l d)(g:Grow O O' H H'):SeqP b K H' O' l d:=by
 cases d with
 |lst es=>obtain⟨rfl,xs,q,n,r⟩:=h;exact⟨rfl,xs,(g.keep _ _ q n).1,(g.keep _ _ q n).2,Reps.grow g _ _ r⟩
 |tup es=>obtain⟨rfl,xs,q,r⟩:=h;exact⟨rfl,xs,Yd g q,Reps.grow g _ _ r⟩
 |scr ns=>obtain⟨rfl,q⟩:=h;exact⟨rfl,gl g q⟩
 |_=>exact h.elim
def z1s{K:W.Frag}{b1 b2:Bool}{l1 l2:Addr}{d1 d2:D}{xs ys:List D}(e1:seqD d1=some xs)(e2:seqD d2=some ys):ItD K (Itz b1 b2 K l1 l2) (zipD xs ys) (λH O=>SeqP b1 K H O l1 d1/\SeqP b2 K H O l2 d2) where
 go:=λH O i d ⟨p1,p2⟩ e=>by
  obtain⟨us,q1,r1⟩:=p1.sq e1;obtain⟨vs,q2,r2⟩:=p2.sq e2;unfold zipD at e;rw[List.getElem?_zipWith]at e;cases ex:xs[i]? with
  |none=>rw[ex]at e;cases e
  |some x =>
   cases ey:ys[i]? with
   |none=>rw[ex,ey]at e;cases e
   |some y =>
    rw[ex,ey]at e;cases e;obtain⟨u,eu,ru⟩:=r1.get ex;obtain⟨v,ev,rv⟩:=r2.get ey;refine⟨⟨us,vs,u,v,q1,q2,eu,ev⟩,λz H' yl=>?_⟩;obtain⟨T,u',v',hT,rfl,eu',ev',rfl⟩:=yl;have eu':=eu' _ q1;have ev':=ev' _ q2;rw[eu]at eu';rw[ev]at ev';cases eu';cases ev';have sm:Same H (upd H T (.tup [u,v])):=λb w hb=>by rw[zy (zx hb hT)];exact hb
    refine⟨sm,T,[u,v],rfl,⟨.inl (.inl zu),zu⟩,?_⟩;exact⟨u,[v],rfl,Rep.grow (Grow.same sm) _ _ ru,v,[],rfl,Rep.grow (Grow.same sm) _ _ rv,rfl⟩
 stop:=λH O ⟨p1,p2⟩=>by
  obtain⟨us,q1,r1⟩:=p1.sq e1;obtain⟨vs,q2,r2⟩:=p2.sq e2;refine⟨us,vs,q1,q2,?_⟩;have h1:=r1.length;have h2:=r2.length;unfold zipD;rw[List.length_zipWith,h1,h2];omega
 keep:=λO O' H H' ⟨p1,p2⟩ g=>⟨p1.grow g,p2.grow g⟩
def iZ(t:TDs):TID:=λρ φ=>t ρ λrs=>match rs with
 |[⟨k1,d1⟩,⟨k2,d2⟩]=>(match k1 with|.own=>False|_=>True)/\(match k2 with|.own=>False|_=>True)/\match seqD d1,seqD d2 with
  |some xs,some ys=>φ (zipD xs ys)
  |_,_=>False
 |_=>False
def z2l{es:List Expr}{kk:Nat}{tp:Pos}{a b:Expr}{t:TDs}{p pos:Pos}(hm:X.mg "zip" = none)(ha:EA Γ X [a,b] t)(hg:Gl X "zip":=by rfl)(he:starEach [a,b] X.env=(false,eval a X.env)::starEach [b] X.env:=by rfl)(hpl:(backTo pos (starEach [b] X.env)).any (·.1)=false:=by rfl):EI Γ X (.Tuple es kk tp) (.Call (.Name "zip" p) [a,b] [] pos) (iZ t):=λH₀=>impI (z0k hg hm (ha H₀) he hpl) λσ H R q=>by
 obtain⟨ρ,o,RE,φ,hφ,k⟩:=q;refine⟨ρ,o,RE,_,hφ,λvs rs H1 s1 rvs h1=>?_⟩;split at h1
 ·rename_i k1 d1 k2 d2;obtain⟨n1,n2,h1⟩:=h1;obtain⟨v1,w1,rfl,q1,v2,w2,rfl,q2,rfl⟩:=rvs;have p1:=q1.solid (re n1);have p2:=q2.solid (re n2);split at h1
  ·rename_i xs ys e1 e2;obtain⟨b1,l1,rfl,z1⟩:=SeqP.of p1 e1;obtain⟨b2,l2,rfl,z2⟩:=SeqP.of p2 e2;obtain⟨us,y1,_⟩:=z1.sq e1;obtain⟨ws,y2,_⟩:=z2.sq e2;exact⟨b1,b2,l1,l2,us,ws,rfl,y1,y2,k _ _ _ H1 s1 (z1s e1 e2) ⟨z1,z2⟩ h1⟩
  ·exact h1.elim
 ·exact h1.elim
def Cr:List D->Option (List Int)
 |[]=>some []
 |.int n::r=>(Cr r).map (n::·)
 |_::_=>none
def Vb:∀(ns:List Int),Cr (ns.map D.int)=some ns
 |[]=>rfl
 |n::ns=>by rw[List.map_cons,Cr,Vb ns];rfl
def frzS:DE->Nat->DE
 |[],_=>[]
 |x::r,0=>x.map (λr=>dv r.d)::r
 |x::r,i+1=>x::frzS r i
theorem Rh:∀(ρ:DE)(i j:Nat),(frzS ρ i)[j]?=if j=i then ρ[j]?.map (λx=>x.map λr=>dv r.d) else ρ[j]?
 |[],i,j=>by simp[frzS]
 |x::r,0,0=>rfl
 |x::r,0,j+1=>by simp[frzS]
 |x::r,i+1,0=>by simp[frzS]
 |x::r,i+1,j+1=>by
  have:=Rh r i j;simp only[frzS,List.getElem?_cons_succ,this];by_cases h:j=i
  ·simp[h]
  ·rw[if_neg h,if_neg (by omega)]
def Rg:∀(ρ:DE)(i:Nat),(frzS ρ i).length=ρ.length
 |[],_=>rfl
 |_::_,0=>rfl
 |x::r,i+1=>by simp[frzS,Rg r i]
def REnv.frz1{K:W.Frag}{H₀ H:Hp}{σ:St}{ρ:DE}{o:List (Nat×Addr)}(R:REnv K H₀ H σ ρ o)(i:Nat):∃o',REnv K H₀ H σ (frzS ρ i) o'/\∀p∈o',p∈o:=by
 refine⟨o.filter λp=>decide (p.1≠i),?_,λp hp=>(List.mem_filter.mp hp).1⟩;have sub:∀p∈o.filter (λp=>decide (p.1≠i)),p∈o:=λp hp=>(List.mem_filter.mp hp).1;have subA:∀a∈(o.filter (λp=>decide (p.1≠i))).map Prod.snd,a∈o.map Prod.snd:=λa ha=>by
  obtain⟨p,hp,e⟩:=zah.mp ha;exact zah.mpr ⟨p,sub p hp,e⟩
 exact {
  same:=R.same
  fresh:=λp hp=>R.fresh p (sub p hp)
  trk:=λp hp=>R.trk p (sub p hp)
  mtb:=λp hp=>R.mtb p (sub p hp)
  nda:=List.Nodup.sublist (List.Sublist.map _ List.filter_sublist) R.nda
  len:=by rw[Rg];exact R.len
  slots:=λj r e=>by
   rw[Rh]at e;by_cases hj:j=i
   ·rw[if_pos hj]at e;cases e1:ρ[j]? with
    |none=>rw[e1]at e;cases e
    |some x =>
     rw[e1]at e;cases x with
     |none=>cases e
     |some r' =>
      have e':some (dv r'.d)=some r:=Option.some.inj e;cases e';obtain⟨v,ev,q⟩:=R.slots j r' e1;refine⟨v,ev,.inl ⟨rfl,?_⟩⟩;rcases q with⟨_,q⟩|⟨_,a,rfl,m,c⟩
      ·exact Rep.sub subA _ _ q
      ·refine(c.sub subA).rep λz=>?_;obtain⟨p,hp,ep⟩:=zah.mp z;have:=X6 R.nda (sub p hp) m ep;have hne:=of_decide_eq_true (List.mem_filter.mp hp).2;rw[this]at hne;exact hne hj
   ·rw[if_neg hj]at e;obtain⟨v,ev,q⟩:=R.slots j r e;refine⟨v,ev,?_⟩;rcases q with⟨k,q⟩|⟨k,a,e1,m,c⟩
    ·exact .inl ⟨k,Rep.sub subA _ _ q⟩
    ·exact .inr ⟨k,a,e1,List.mem_filter.mpr ⟨m,decide_eq_true hj⟩,c.sub subA⟩}
def sFrz(i:Nat)(t:TDS):TDS:=λρ Z=>t (frzS ρ i) Z
def tf(i:Nat){X:Cx}{st:Stmt}{t:TDS}(h:SD Γ X st t):SD Γ X st (sFrz i t):=λH₀=>impS (h H₀) λD σ H h=>by
 obtain⟨ρ,o,R,Z,hZ,k1,k2,k3,k4⟩:=h;obtain⟨o',R',sub⟩:=R.frz1 i;have g:Grow (o.map Prod.snd) (o'.map Prod.snd) H H:=⟨λb u h n=>⟨h,λz=>n (by
  obtain⟨p,hp,e⟩:=zah.mp z;exact zah.mpr ⟨p,sub p hp,e⟩)⟩,λb xs h=>h,λb ob u h=>h⟩
 exact⟨_,o',R',Z,hZ,λρ2 σ2 H2 o2 g2 R2 q2=>k1 ρ2 σ2 H2 o2 (g.trans g2) R2 q2,λρ2 σ2 H2 o2 g2 R2 q2=>k2 ρ2 σ2 H2 o2 (g.trans g2) R2 q2,λρ2 σ2 H2 o2 g2 R2 q2=>k3 ρ2 σ2 H2 o2 (g.trans g2) R2 q2,k4⟩
def blsD:List D->Option (List Bool)
 |[]=>some []
 |.bl b::r=>(blsD r).map (b::·)
 |_::_=>none
theorem Ly:∀{ds:List D}{bs:List Bool},blsD ds=some bs->ds=bs.map D.bl
 |[],bs,h=>by cases h;rfl
 |d::r,bs,h=>by
  cases d with
  |bl n =>
   cases e:blsD r with
   |none=>unfold blsD at h;rw[e]at h;cases h
   |some ms =>
    unfold blsD at h;rw[e]at h;cases h;rw[Ly e];rfl
  |_=>cases h
def Q0:∀(bs:List Bool),blsD (bs.map D.bl)=some bs
 |[]=>rfl
 |b::bs=>by rw[List.map_cons,blsD,Q0 bs];rfl
def Sm{K:W.Frag}{H:Hp}{O:List Addr}:∀{bs:List Bool}{xs:List V},Reps K H O (bs.map D.bl) xs->xs=bs.map V.bl
 |[],_,h=>h
 |n::bs,xs,h=>by
  obtain⟨v,r,rfl,q,t⟩:=h;rw[Sm t];cases (show v=_ from q);rfl
section
variable{es:List Expr}{p:Pos}
def J7(g:List Bool->Bool):FT:=λds φ=>match ds with
 |[.lst l]=>match blsD l with
  |some bs=>φ (dv (.bl (g bs)))
  |none=>False
 |_=>False
def Jv{f:List V->Bool}{g:List Bool->Bool}(hf:∀ bs:List Bool,f (bs.map V.bl)=g bs):K8 X.K (rAll X.K f) (J7 g):=by
 intro H O ds vs φ Q ho hv h k;unfold J7 at h;split at h
 ·rename_i l;split at h
  ·rename_i bs en;obtain⟨v,ws,rfl,⟨a,xs,rfl,q,r⟩,rfl⟩:=hv;have el:=Ly en;subst el;have:=Sm r;subst this;refine⟨a,_,rfl,.inl (SqL.of q),λy hy=>?_,?_⟩
   ·obtain⟨b,_,rfl⟩:=zah.mp hy;rfl
   ·rw[hf];exact k _ _ H (Same.refl H) (by exact rfl) h
  ·exact h.elim
 ·exact h.elim
def ue(hm:X.mg "all" = none)(ha:EA Γ X (e::es) t)(hc:X.calm=true:=by rfl)(hg:Gl X "all":=by rfl)(he:starEach (e::es) X.env=(false,eval e X.env)::starEach es X.env:=by rfl)(hpl:(backTo pos (starEach es X.env)).any (·.1)=false:=by rfl):ED Γ X (.Call (.Name "all" p) (e::es) [] pos) (dCB (J7 λbs=>bs.all id) t) :=
 kj (Vz hc) (Jv λbs=>by
  induction bs with
  |nil=>rfl
  | cons b bs ih=>rw[List.map_cons,List.all_cons,List.all_cons,ih];cases b <;> rfl) hm (by kernel_rfl) ha hg (by decide) (by decide) he hpl
end
section
variable{prog:Program}
def cat_tup0{t b:Addr}{ws:List Value}{Q:Value->Shared->Prop}(ht:IsTup s.heap t #[])(hb:IsTup s.heap b ws.toArray)(h1:Q (.ref b) s):wpAny (model prog w) A (binaryOp .Add (.ref t) (.ref b)) Q E s:=by
 obtain⟨⟨cls,dd,data,sl⟩,ho,hc,n,hd⟩:=id ht;obtain⟨⟨cls2,dd2,data2,sl2⟩,ho2,hc2,n2,hd2⟩:=id hb;simp only at hc hd hc2 hd2;subst hc hd hc2 hd2;exact concat_meets ⟨_,ho,rfl⟩ ⟨_,ho2,rfl⟩ noFill_tuple_add seq_tuple_add PySem.F.slot_tuple_add PySem.F.entry_tuple_add (PySem.F.args_tuple_add_2 _ _)
   (tuple_addW0 t b #[] ws.toArray n n2 dd dd2 sl sl2 (by simp)) ⟨ho,ho2,h1⟩
end
def Aw(K:W.Frag):R2:=λx y H Q=>∃a b ys,x=.ref a/\y=.ref b/\SqT K H a []/\SqT K H b ys/\Q (.ref b) H
def Jm:OpR X (binaryOp .Add) (Aw X.K):=by
 intro pn s σ H x y v u Q I rx ry h;obtain⟨a,b,ys,rfl,rfl,ha,hb,q⟩:=h;cases rx;cases ry;obtain⟨its,r1,p1,_⟩:=I.tuple ha;obtain⟨its2,r2,p2,_⟩:=I.tuple hb;cases r1;exact ZZ.cat_tup0 p1 p2 ⟨.ref b,H,I,rfl,q⟩
def C1:OpR X (compareOp .IsNot) (λx y H Q=>∃c d,x=.bl c/\y=.bl d/\Q (.bl (c != d)) H):=by
 intro pn s σ H x y v u Q I rx ry h;obtain⟨c,d,rfl,rfl,q⟩:=h;cases rx;cases ry;exact isnot_bool (x3 I q rfl)
def RV.anew{K:W.Frag}{H0 H:Hp}{O:List Addr}{r:EV}{v:V}(h:RV K H0 H O r v)(p:u5 r):RepN K H (λa=>a∉O/\H0 a=none) r.d v:=by
 obtain⟨k,d⟩:=r;cases k with
 |val=>exact Rep.toN _ _ p h
 |own=>exact p.elim
 |new=>exact h
 |fre =>
  obtain⟨a,rfl,m,n,c⟩:=h;cases d with
  |lst ds=>obtain⟨xs,q,r⟩:=c;exact⟨a,xs,rfl,q,⟨n,m⟩,Reps.toN _ _ p r⟩
  |dk ks ds=>obtain⟨xs,q,l,nd,r⟩:=c;exact⟨a,xs,rfl,q,⟨n,m⟩,l,nd,Reps.toN _ _ p r⟩
  |fd m'=>exact⟨a,rfl,c,n,m⟩
  |_=>exact c.elim
def Yr:List EV->Prop
 |[]=>True
 |r::rs=>u5 r/\Yr rs
def RVs.anew{K:W.Frag}{H0 H:Hp}{O:List Addr}:∀{rs:List EV}{vs:List V},RVs K H0 H O rs vs->Yr rs->x6 K H (λa=>a∉O/\H0 a=none) (rs.map EV.d) vs
 |[],_,h,_=>h
 |r::rs,vs,h,p=>by
  obtain⟨v,ws,e,h1,t⟩:=h;exact⟨v,ws,e,h1.anew p.1,RVs.anew t p.2⟩
theorem RVs.get{K:W.Frag}{H0 H:Hp}{O:List Addr}:∀{rs:List EV}{vs:List V}{i:Nat}{r:EV},RVs K H0 H O rs vs->rs[i]?=some r->∃v,vs[i]?=some v/\RV K H0 H O r v
 |[],_,_,_,_,e=>by simp at e
 |r::rs,vs,0,r',h,e=>by
  obtain⟨v,ws,rfl,q,_⟩:=h;simp at e;subst e;exact⟨v,rfl,q⟩
 |r::rs,vs,i+1,r',h,e=>by
  obtain⟨v,ws,rfl,_,t⟩:=h;obtain⟨v',e',q'⟩:=RVs.get (i:=i) t (by simpa using e)
  exact⟨v',by simpa using e',q'⟩
def Bp{K:W.Frag}{H0 H:Hp}{O:List Addr}{rs:List EV}{vs:List V}{i:Int}{r:EV}(h:RVs K H0 H O rs vs)(e:atI rs i=some r):∃v,atI vs i=some v/\RV K H0 H O r v:=by
 unfold atI at e ⊢;rw[h.length];cases e':ixN rs.length i with
 |none=>rw[e']at e;cases e
 |some j =>
  rw[e']at e;exact h.get e
variable{ix:Expr}{es:List Expr}
def z2q(t:TDs):TD:=λρ φ=>t ρ λrs=>Yr rs/\Nat.ble rs.length 1000=true/\φ ⟨.new,.tup (rs.map EV.d)⟩
def x9 {x1} (h:EA Γ X es t):ED Γ X (.Tuple es x1 pos) (z2q t):=λH₀=>impE (Ni (h H₀)) λσ H Q q=>by
 obtain⟨ρ,o,R,φ,hφ,k⟩:=q;refine⟨ρ,o,R,_,hφ,λvs rs H1 s1 rvs h1=>⟨by rw[rvs.length];exact dw h1.2.1,λp hp=>?_⟩⟩
 refine k _ ⟨.new,.tup (rs.map EV.d)⟩ _ (s1.trans (yd hp _)) ⟨p,vs,rfl,⟨SqT.of zu,zu⟩,x6.to (yd hp _) (λ_ z=>z) _ _ (rvs.anew h1.1)⟩ h1.2.2
def z2u(ta tb:TD):TD:=λρ φ=>ta ρ λx=>tb ρ λy=>match x.d,y.d with
 |.tup p,.tup q=>u5 x/\u5 y/\p.length+q.length<=sizeLine/\φ ⟨.new,.tup (p++q)⟩
 |_,_=>False
def Ld(ha:ED Γ X a ta)(hb:ED Γ X b tb):ED Γ X (.BinOp a .Add b pos) (z2u ta tb):=λH₀=>impE (z0n (Nm.or Jm) (ha H₀) (hb H₀)) λσ H Q q=>by
 obtain⟨ρ,o,R,φ,hφ,k⟩:=q;refine⟨ρ,o,R,_,hφ,λv1 r1 H1 s1 rv1 h1=>⟨ρ,o,R.to s1,_,h1,λv2 r2 H2 s2 rv2 h2=>?_⟩⟩;have n1:=λp=>(rv1.same s2).anew p;have n2:=λp=>(rv2.start s1).anew p;obtain⟨k1,d1⟩:=r1;obtain⟨k2,d2⟩:=r2;cases d1 with
 |tup p =>
  cases d2 with
  |tup q =>
   obtain⟨p1,p2,hl,hn⟩:=h2;obtain⟨a1,xs,rfl,q1,r1⟩:=n1 p1;obtain⟨a2,ys,rfl,q2,r2⟩:=n2 p2;have l1:=r1.length;have l2:=r2.length;cases p with
   |nil =>
    have e:xs=[]:=List.eq_nil_of_length_eq_zero l1;subst e;exact .inr ⟨a1,a2,ys,rfl,rfl,q1.1,q2.1,k _ ⟨.new,.tup q⟩ H2 (s1.trans s2) ⟨a2,ys,rfl,q2,r2⟩ hn⟩
   |cons d p =>
    refine .inl ⟨a1,a2,xs,ys,rfl,rfl,q1.1,q2.1,(λz=>by subst z;cases l1),by rw[l1,l2];exact hl,λz=>?_,λz p' hp=>?_⟩
    ·subst z;have e:q=[]:=List.eq_nil_of_length_eq_zero l2.symm;subst e;rw[List.append_nil]at hn;exact k _ ⟨.new,.tup (d::p)⟩ H2 (s1.trans s2) ⟨a1,xs,rfl,q1,r1⟩ hn
    ·exact k _ ⟨.new,.tup (d::p++q)⟩ _ ((s1.trans s2).trans (yd hp _)) ⟨p',xs++ys,rfl,⟨SqT.of zu,zu⟩,x6.to (yd hp _) (λ_ z=>z) _ _ (r1.append r2)⟩ hn
  |_=>exact h2.elim
 |_=>exact h2.elim
def z2s(t:TDs)(tk:TD):TD:=λρ φ=>t ρ λrs=>Nat.ble rs.length 1000=true/\tk ρ λkr=>match kr.d with
 |.int k=>match atI rs k with
  |some r=>φ r
  |none=>False
 |_=>False
def jg{lp:Pos}(h:EA Γ X es t)(hk:ED Γ X ix tk)(hs:jm ix:=by intro _ _;rfl):ED Γ X (.Subscript (.List es lp) ix pos) (z2s t tk):=λH₀=>impE (Wj Ml (Wi (h H₀)) (hk H₀) hs) λσ H Q q=>by
 obtain⟨ρ,o,R,φ,hφ,k⟩:=q;refine⟨ρ,o,R,_,hφ,λvs rs H1 s1 rvs h1=>⟨by rw[rvs.length];exact dw h1.1,λp hp=>?_⟩⟩
 have s2:=yd hp (.lst vs);refine⟨ρ,o,R.to (s1.trans s2),_,h1.2,λv r H3 s3 rv h3=>?_⟩;have vw:=rv.view;split at h3
 ·rename_i n en;rw[en]at vw;cases (show v=_ from vw);split at h3
  ·rename_i r' er;obtain⟨v',ev,rv'⟩:=Bp rvs er;exact .inl ⟨p,vs,n,v',rfl,rfl,SqL.of (s3 _ _ zu),ev,k v' r' H3 (s1.trans (s2.trans s3)) (rv'.same (s2.trans s3)) h3⟩
  ·exact h3.elim
 ·exact h3.elim
def popD(ds:List D):Option (List D×D):=match ds.getLast? with
 |some d=>some (ds.dropLast,d)
 |none=>none
def Sr(ds:List D)(d:D):popD (ds++[d])=some (ds,d):=by
 unfold popD;simp
def Dl{ds ds':List D}{d:D}(h:popD ds=some (ds',d)):ds=ds'++[d]:=by
 unfold popD at h;split at h
 ·rename_i x e;cases h;obtain⟨y,hy⟩:=List.getLast?_eq_some_iff.mp e;rw[hy];simp
 ·cases h
def J9{K:W.Frag}{H:Hp}{O:List Addr}{ds ds':List D}{d:D}{xs:List V}(r:Reps K H O ds xs)(h:popD ds=some (ds',d)):∃y,xs[xs.length-1]?=some y/\Rep K H O d y/\Reps K H O ds' xs.dropLast:=by
 have e:=Dl h;subst e;have l:=r.length;rw[zLa]at l;obtain⟨y,ey,hy⟩:=r.get (i:=ds'.length) (d:=d) (by simp)
 refine⟨y,by rw[l];simpa using ey,hy,?_⟩
 have:=r.dropLast;simpa using this
def sPop(i j:Nat):TDS:=λρ Z=>match slot ρ i with
 |some ⟨.own,.lst ds⟩=>match popD ds with
  |some (ds',d)=>Z.nx (setS (setS ρ i (dO (.lst ds'))) j (dv d))
  |none=>False
 |_=>False
def Ak(i j:Nat){x y:Str}{np apos cpos pos':Pos}(hN:X.N.Nodup)(hi:X.N[i]?=some x:=by rfl)(hj:X.N[j]?=some y:=by rfl)(hy:Loc X.env.scope y:=by first|exact Or.inl rfl|exact Or.inr rfl)(hv:Vis X.env.scope x:=by walk_at "o")(hd:(x==("__debug__" : Str))=false:=by decide)(hcd:(x==("__classdict__" : Str))=false:=by decide)(hp:∀ {ta:TE},X.N.Nodup->PE X (.Name x np) ta->PS X (.Assign [.Name y pos'] (.Call (.Attribute (.Name x np) "pop" apos) [] [] cpos) pos) (tAsg (tBM0 X.K "list" rPop ta) (k5 j)):=by
   intro ta hN h1;exact Sq hN rfl (by walk_at "o") (Fd PySem.F.plainAttrs_list PySem.F.slot_list_pop PySem.F.type_list_pop Fh h1)) :
  SD Γ X (.Assign [.Name y pos'] (.Call (.Attribute (.Name x np) "pop" apos) [] [] cpos) pos) (sPop i j):=λH₀=>impS (hp hN (tj hi hv hd hcd)) λD σ H h=>by
 obtain⟨ρ,o,R,Z,hZ,k1,k2,k3,k4⟩:=h;unfold sPop at hZ;split at hZ
 ·rename_i ds es;obtain⟨v0,ev0,q0⟩:=R.slots i _ (vv es);rcases q0 with⟨k,_⟩|⟨_,a,rfl,m,c⟩
  ·cases k
  obtain⟨xs,hx,rx⟩:=c;split at hZ
  ·rename_i ds' d ep;obtain⟨yv,ey,hyv,rd⟩:=J9 rx ep;obtain⟨R2,g2⟩:=R.chg (d':=.lst ds') (ho:=.lst xs.dropLast) (vv es) ev0 m ⟨λ_ z=>(by cases z),λ_ _ z=>(by cases z)⟩ λgr=>⟨xs.dropLast,zu,gr _ _ rd⟩
   refine⟨.ref a,ev0,.inl ⟨rfl,xs,SqL.of hx⟩,a,xs,yv,rfl,rfl,hx,ey,?_⟩;exact k1 _ _ _ o g2 (R2.setV j (Rep.grow g2 _ _ hyv)) hZ
  ·exact hZ.elim
 ·exact hZ.elim
def sIsB:D->D->(EV->Prop)->Prop:=λx y φ=>match x,y with
 |.bl c,.bl d=>φ (dv (.bl (c==d)))
 |_,_=>False
def Yh:D->D->(EV->Prop)->Prop:=λx y φ=>match x,y with
 |.bl c,.bl d=>φ (dv (.bl (c != d)))
 |_,_=>False
def Uw{K:W.Frag}:qh K (λx y H Q=>∃c d,x=.bl c/\y=.bl d/\Q (.bl (c != d)) H) Yh:=by
 intro H O x y vx vy φ Q ho hx hy h k;unfold Yh at h;split at h
 ·exact⟨_,_,hx,hy,k _ _ H (Same.refl H) (by exact rfl) h⟩
 ·exact h.elim
def L6(ha:ED Γ X a ta)(hb:ED Γ X b tb):ET Γ X (.Compare a [.IsNot] [b] pos) (tBo (d2 Yh ta tb)):=k9 C1 Uw ha hb (qu _)
def g1(g:D->(EV->Prop)->Prop):FT:=λds φ=>match ds with
 |[d]=>g d φ
 |_=>False
def g2(g:D->D->(EV->Prop)->Prop):FT:=λds φ=>match ds with
 |[d,e]=>g d e φ
 |_=>False
def g3(g:D->D->D->(EV->Prop)->Prop):FT:=λds φ=>match ds with
 |[d,e,f]=>g d e f φ
 |_=>False
def xv{g:D->(EV->Prop)->Prop}{ds:List D}{φ:EV->Prop}(h:g1 g ds φ):∃d,ds=[d]/\g d φ:=by
 unfold g1 at h;split at h
 ·exact⟨_,rfl,h⟩
 ·exact h.elim
def B3{g:D->D->(EV->Prop)->Prop}{ds:List D}{φ:EV->Prop}(h:g2 g ds φ):∃d e,ds=[d,e]/\g d e φ:=by
 unfold g2 at h;split at h
 ·exact⟨_,_,rfl,h⟩
 ·exact h.elim
def z2g{g:D->D->D->(EV->Prop)->Prop}{ds:List D}{φ:EV->Prop}(h:g3 g ds φ):∃d e f,ds=[d,e,f]/\g d e f φ:=by
 unfold g3 at h;split at h
 ·exact⟨_,_,_,rfl,h⟩
 ·exact h.elim
def zf{t u:TDS}{ρ:DE}{Z:DZ}(J:DE->Prop)(h1:t ρ {Z with nx:=J})(h2:∀ ρ2,J ρ2->u ρ2 Z):sSeq (sCut t) u ρ Z:=⟨J,h1,h2⟩
def Yi{i:Nat}{te:TD}{ρ:DE}{Z:DZ}{ds:List D}(e:slot ρ i=some (dO (.lst ds)))(h:te ρ λr=>(match r.k with|.own=>False|_=>True)/\ds.length<=100000/\Z.nx (setS ρ i (dO (.lst (ds++[r.d]))))):sApp i te ρ Z:=by
 unfold sApp;rw[e];exact h
def z1x(d:D):Prop:=∃(ks:List Str)(ns:List Int),d=.dk (ks.map Sum.inr) (ns.map D.int)
def okS(d:D):Prop:=okD 39 d\/z1x d
def Pd:vt X (.type "dict") (λxs H Q=>∃a kvs,xs=[.ref a]/\H a=some (.dK kvs)/\∀p,H p=none->Q (.ref p) (upd H p (.dK kvs))):=by
 intro pn s σ H xs us Q I r h;obtain⟨a,kvs,rfl,ha,q⟩:=h;obtain⟨u,rfl,ru⟩:=uy r;cases ru;obtain⟨z,na,va,ka,da⟩:=Bb I.hok ha;have hb:=I.big;refine kt_call_dict na da (by rw[<- ka.length];exact z) λh' hd hs=>?_
 have keep:∀b o,s.heap.get? b=some o->h'.get? b=some o:=λb o e=>by
  have hne:b≠s.heap.objs.size:=Nat.ne_of_lt (zae e);rw[hs.2 b hne];exact zac _ e
 refine⟨.ref s.heap.objs.size,_,I.laid (t':=s.toks) (a:=s.heap.objs.size) (o:=.dK kvs) keep (zaj _) ?_,rfl,q _ (I.hok.fresh (zaj _))⟩;exact Ru z (by simpa using(Nat.ne_of_gt hb)) ka hd
section
variable{p:Pos}
def okL(d:D):Prop:=(∃ds,d=.lst ds/\∀e∈ds,okS e)\/z1x d
def sDictC:FT:=λds φ=>match ds with
 |[.dk ks l]=>φ (df (.dk ks l))
 |_=>False
def Hz(hm:X.mg "dict" = none)(ha:EA Γ X (e::es) t)(hg:Gl X "dict":=by rfl)(he:starEach (e::es) X.env=(false,eval e X.env)::starEach es X.env:=by rfl)(hpl:(backTo pos (starEach es X.env)).any (·.1)=false:=by rfl):ED Γ X (.Call (.Name "dict" p) (e::es) [] pos) (dCB sDictC t) :=
 vg Pd (λH O ds vs φ Q ho hv h k=>by
  unfold sDictC at h;split at h
  ·obtain⟨v,ws,rfl,⟨a,xs,rfl,q,l,nd,r⟩,rfl⟩:=hv;exact⟨a,_,rfl,q,λp hp=>k _ (df (.dk _ _)) _ (yd hp _) ⟨p,rfl,hp,ho p hp,xs,zu,l,nd,Reps.grow (gx hp) _ _ r⟩ h⟩
  ·exact h.elim) hm jj ha hg (by decide) (by decide) he hpl
end
variable{tpos:Pos}
def So:List EV->Prop
 |[]=>True
 |r::rs=>u5 r.ret/\So rs
def Am(t:TDs):TDS:=λρ Z=>t ρ λrs=>So rs/\Nat.ble rs.length 1000=true/\Z.rt ⟨.new,.tup (rs.map EV.d)⟩
def RVs.rets{K:W.Frag}{H₀ H H':Hp}{σ:St}{ρ:DE}{o:List (Nat×Addr)}(R:REnv K H₀ H σ ρ o):∀{rs:List EV}{vs:List V},RVs K H H' (o.map Prod.snd) rs vs->So rs->x6 K H' (λa=>a∉([]:List Addr)/\H₀ a=none) (rs.map EV.d) vs
 |[],_,h,_=>h
 |r::rs,vs,h,p=>by
  obtain⟨v,ws,e,q,t⟩:=h;have q':=(RV.ret R q).anew p.1;exact⟨v,ws,e,by
   have:r.ret.d=r.d:=rfl;rw[this]at q';exact q',RVs.rets R t p.2⟩
def Oq {x1} (h:EA Γ X es t):SD Γ X (.Return (some (.Tuple es x1 tpos)) pos) (Am t):=λH₀=>impS (Zm (Ni (h H₀))) λD σ H h=>by
 obtain⟨ρ,o,R,Z,hZ,k1,k2,k3,k4⟩:=h;refine⟨ρ,o,R,_,hZ,λvs rs H1 s1 rvs h1=>⟨by rw[rvs.length];exact dw h1.2.1,λp hp=>?_⟩⟩
 refine k4 _ ⟨.new,.tup (rs.map EV.d)⟩ _ (R.same.trans (s1.trans (yd hp _))) ?_ h1.2.2;exact⟨p,vs,rfl,⟨SqT.of zu,zu⟩,x6.to (yd hp _) (λ_ z=>z) _ _ (RVs.rets R rvs h1.1)⟩
def rg:entryFor table "dict.update.loop" = some Builtin.«dict.update.loop»:=entryFor_of_tree (by kernel_rfl)
def vd:plainId "dict.update.loop" = true:=by decide +kernel
def bv:typeLookup (.type "list") "keys" = pure none:=by rw[typeLookup_type,builtinLookup_eq_fast];kernel_rfl
section
variable{prog:Program}
def Mi{a:Addr}{xs:Array Value}{Q:Option Value->Shared->Prop}(hl:PlainL s.heap a xs)(hA:A.handled=none)(h:∀ h' tk,(∀ b o,s.heap.get? b=some o->h'.get? b=some o)->Q none {s with heap:=h',toks:=tk}):wpAny (model prog w) A (getAttr? (.ref a) "keys") Q E s:=by
 obtain⟨o,k,hx,hc,hd,hdat⟩:=hl;obtain⟨c,dct,dat,sl⟩:=o;simp only at hc hdat hd;subst hc hdat hd;obtain⟨hp,g,d,tk,os⟩:=s;have hT:∀tk',(⟨hp,g,d,tk',os⟩:Shared).TypeIs (.ref a) "list":=λ_=>⟨_,hx,rfl⟩;have f1:=sub_AttributeError;have f3:=F.slot_list_getattribute.lookup;have f4:=F.slot_list_getattribute.bind (.ref a);have f5:=am_list_getattr_none;unfold getAttr? getAttrBy? getAttrBy
 repeat (any_goals (first|assumption|exact hT _|((with_reducible show wpAny _ _ (call (Value.builtin "list.__getattribute__") _ _) _ _ _);refine call_meets F.slot_list_getattribute (hT _) am_entry_list_getattribute (F.args_list_getattribute_2 _ _) (meets_getattribute_miss_list a xs k sl "keys" _ bv (by decide +kernel) (by size_fits)) ⟨hx,hA,λh' tk' e hx'=>?_⟩)|wp_step))
 obtain⟨t',u',he⟩:=hx'.there;show wpAny _ _ (getattributeRaised _ _ _ _ _ _ _) _ _ _;unfold getattributeRaised
 repeat (any_goals (first|assumption|wp_step))
 exact h _ _ hx'.keeps
end
section
variable{prog:Program}{K:Type}[DecidableEq K]{knd:KeyKind prog w K}{R:Result->Shared->Prop}
def Q3(knd:KeyKind prog w K)(h:Heap)(v:Value)(kx:K×Value):Prop:=∃b o n key,v=.ref b/\h.get? b=some o/\o.cls=.type "tuple"/\o.data=.seq #[key,kx.2] n/\knd.is kx.1 key=true
def Zd{kvs:List (K×Value)}{k:K}{x:Value}(h:k∉kvs.map (·.1)):stored kvs k x=kvs++[(k,x)]:=by
 unfold stored;rw[if_neg];intro z;rw[List.any_eq_true]at z;obtain⟨p,hp,e⟩:=z;exact h (zah.mpr ⟨p,hp,by simpa using e⟩)
def Kj(hh:A.handled=none)(d it l:Addr)(hdi:d≠it)(hdl:d≠l)(hli:l≠it)(its:List Value)(more:List (K×Value))(hlen:its.length=more.length)(hnd:(more.map (·.1)).Nodup)(hsz:more.length<=sizeLine) :
  ∀(k i:Nat)(s:Shared),its.length=i+k->s.heap.IsListIter it l i->s.heap.IsList l its.toArray->s.heap.DictOf knd d (more.take i) ->
  (∀(j:Nat) v kx,its[j]?=some v->more[j]?=some kx->Q3 knd s.heap v kx) ->
  (∀h' tk,h'.DictOf knd d more->(∀b o,b≠d->b≠it->s.heap.get? b=some o->h'.get? b=some o)->R (.ok (.ret .none)) {s with heap:=h',toks:=tk}) ->
  codeAny (model prog w) A (.builtin "dict.update.loop" ⟨[.ref d,.ref it,rawInt (i:Int),.none],[]⟩) R s:=by
 intro k
 induction k with
 |zero =>
  intro i s hk hi hl hd hp hR;refine codeAny_builtin rg ?_;rw[Around.under_plainId vd _];have W:=Walks.list (prog:=prog) (w:=w) (A:=A.in1) hh it l hli its.toArray;show wpAny _ A.in1 (pyNext (.ref it) >>= _) _ _ s;refine zaa (W.done s _ _ ⟨by simpa [hk] using hi,hl⟩ λh' tk hk'=>?_)
  show wpAny _ A.in1 (Builtin.Dict.addKeywords d [] >>= _) _ _ _;refine zaa (zab (zab ?_));refine hR h' tk ?_ λb o _ hb e=>hk' b o (by simpa using hb) e
  rw[List.take_of_length_le (by omega)]at hd
  obtain⟨o,es,ep,ho,r⟩:=hd;exact⟨o,es,ep,hk' d o (by simpa using hdi) ho,r⟩
 |succ k ih =>
  intro i s hk hi hl hd hp hR;refine codeAny_builtin rg ?_;rw[Around.under_plainId vd _];have W:=Walks.list (prog:=prog) (w:=w) (A:=A.in1) hh it l hli its.toArray;show wpAny _ A.in1 (pyNext (.ref it) >>= _) _ _ s;refine zaa (W.item i s _ _ (by simp;omega) ⟨hi,hl⟩ λv h' tk hv hst' hk'=>?_)
  have hv':its[i]?=some v:=by simpa using hv
  have him:i<more.length:=by omega
  obtain⟨kx,ekx⟩:∃kx,more[i]?=some kx:=⟨more[i],zaf him⟩;have hd':h'.DictOf knd d (more.take i):=by
   obtain⟨o,es,ep,ho,r⟩:=hd;exact⟨o,es,ep,hk' d o (by simpa using hdi) ho,r⟩
  have hp':∀(j:Nat) v kx,its[j]?=some v->more[j]?=some kx->Q3 knd h' v kx:=λj v kx h1 h2=>by
   obtain⟨b,o,n,key,e1,e2,e3,e4,e5⟩:=hp j v kx h1 h2;refine⟨b,o,n,key,e1,hk' b o ?_ e2,e3,e4,e5⟩;intro z;have:b=it:=by simpa using z
   subst this;obtain⟨o',ho',hc',_⟩:=hi;rw[ho']at e2;cases e2;rw[hc']at e3;exact absurd e3 (by decide)
  obtain⟨b,o,n,key,rfl,hb,hbc,hbd,hkey⟩:=hp' i v kx hv' ekx;have hT:({s with heap:=h',toks:=tk}:Shared).TypeIs (.ref b) "tuple":=⟨o,hb,hbc⟩;refine zaa (wpAny_holding ?_);refine zaa (wpAny_tryCatch ?_);show wpAny _ A.in1 (typeOf (.ref b) >>= _) _ _ _;refine zaa (wpAny_typeOf hT ?_);show wpAny _ A.in1 (seqItems? (.ref b) >>= _) _ _ _;refine zaa (wpAny_seqItems hb hbd (zab ?_));show wpAny _ A.in1 (holding [key,kx.2] (dictSet d key kx.2)) _ _ _;have hnew:kx.1∉(more.take i).map (·.1):=by
   have e:more.take (i+1)=more.take i++[kx]:=by rw[List.take_succ,ekx];rfl
   have h4:((more.take (i+1)).map (·.1)).Nodup:=hnd.sublist ((List.take_sublist _ _).map _);rw[e,zMa,List.nodup_append]at h4;intro z;exact h4.2.2 _ z kx.1 (by simp) rfl
  refine wpAny_holding (wpAny_dictSet_pairs (hsz:=by rw[List.length_take];omega) hkey hd' λh2 dd hs=>?_)
  rw[Zd hnew,show more.take i++[(kx.1,kx.2)]=more.take (i+1) by rw[List.take_succ,ekx];rfl]at dd
  refine zab ⟨plainId_quiet vd _,?_⟩;have keep:∀b o,b≠d->h'.get? b=some o->h2.get? b=some o:=λb o hb e=>(hs.2 b hb).trans e;refine ih (i+1) _ (by omega) ?_ ?_ dd ?_ λh3 tk3 d3 k3=>?_
  ·obtain⟨o',ho',r'⟩:=hst'.1;exact⟨o',keep _ _ (Ne.symm hdi) ho',r'⟩
  ·obtain⟨o',ho',r'⟩:=hst'.2;exact⟨o',keep _ _ (Ne.symm hdl) ho',r'⟩
  ·intro j v kx h1 h2';obtain⟨b,o,n,key,e1,e2,e3,e4,e5⟩:=hp' j v kx h1 h2';refine⟨b,o,n,key,e1,keep b o ?_ e2,e3,e4,e5⟩;intro z;subst z;obtain⟨o',es,ep,ho',hc',hdat,_⟩:=hd';rw[ho']at e2;cases e2;rw[hdat]at e4;cases e4
  ·exact hR h3 tk3 d3 λb o h1 h2' e=>k3 b o h1 h2' (keep b o h1 (hk' b o (by simpa using h2') e))
def b6{E:Value->Shared->Prop}{l:Addr}{its:List Value}{more:List (K×Value)}{Q:Value->Shared->Prop}(hh:A.handled=none)(hl:PlainL s.heap l its.toArray)(hlen:its.length=more.length)(hnd:(more.map (·.1)).Nodup)(hsz:more.length<=sizeLine)(hp:∀ (j:Nat) v kx,its[j]?=some v->more[j]?=some kx->Q3 knd s.heap v kx)(h:∀ h' tk,h'.DictOf knd s.heap.objs.size more->(∀ b o,s.heap.get? b=some o->h'.get? b=some o)->Q (.ref s.heap.objs.size) {s with heap:=h',toks:=tk}) :
  wpAny (model prog w) A (call (.type "dict") [.ref l]) Q E s:=by
 refine callType_codes (Q₁:=λobj s₁=>obj=.ref s.heap.objs.size/\s₁={s with heap:=s.heap.push {cls:=.type "dict",data:=.dict #[]}}) F.kt_called_dict (F.kt_typeCall_dict_1 _) F.entry_dict_init (kt_code_dict_new _ ⟨rfl,rfl⟩) ?_;rintro obj s₁ ⟨rfl,rfl⟩;have hnew:(s.heap.push {cls:=.type "dict",data:=.dict #[]}).DictOf knd s.heap.objs.size []:=Heap.DictOf.new s.heap;have k1:∀b o,s.heap.get? b=some o->(s.heap.push {cls:=.type "dict",data:=.dict #[]}).get? b=some o:=λb o e=>zac _ e;have hl1:=hl.keeps k1;have hls:l<s.heap.objs.size:=by obtain⟨o,n,e,_⟩:=hl;exact zae e
 refine⟨hnew.typeIs,F.args_dict_init_2 _ _,?_⟩;unfold Builtin.«dict.__init__»;refine zaa ?_;unfold Builtin.Dict.selfAndRest;refine zaa (wpAny_notOrdered_dict hnew.typeIs ?_);show wpAny _ _ (pure (s.heap.objs.size,[Value.ref l])) _ _ _;refine zab ?_;show wpAny _ _ (Builtin.Dict.updateFrom "dict.__init__" s.heap.objs.size (.ref l) [] .none) _ _ _;unfold Builtin.Dict.updateFrom;refine zaa (wpAny_typeOf hl1.isList.typeIs ?_);rw[if_pos (by decide)]
 refine zaa (Mi hl1 hh λh2 tk2 k2=>?_);rw[if_pos (by rfl)]
 refine zaa (wpAny_rule ?_);have hl2:=(hl1.keeps k2).isList;have hlt:l<h2.objs.size:=by obtain⟨o,e,_⟩:=hl2;exact zae e
 refine zaa (wpAny_pyIter_list hl2 ?_);have hdlt:s.heap.objs.size<h2.objs.size:=by
  obtain⟨o,es,ep,ho,_⟩:=hnew;exact zae (k2 _ _ ho)
 refine zab ⟨plainId_quiet vd _,?_⟩;refine Kj (knd:=knd) (A:=A.in1) hh s.heap.objs.size h2.objs.size l (Nat.ne_of_lt hdlt) (Nat.ne_of_gt hls) (Nat.ne_of_lt hlt) its more hlen hnd hsz its.length 0 _ (by omega) ?_ ?_ ?_ ?_ λh3 tk3 d3 k3=>?_
 ·exact⟨_,zad _ rfl,rfl,rfl⟩
 ·exact hl2.push _
 ·obtain⟨o,es,ep,ho,r⟩:=hnew;exact⟨o,es,ep,zac _ (k2 _ _ ho),r⟩
 ·intro j v kx h1 h2';obtain⟨b,o,n,key,e1,e2,e3,e4,e5⟩:=hp j v kx h1 h2';exact⟨b,o,n,key,e1,zac _ (k2 _ _ (k1 _ _ e2)),e3,e4,e5⟩
 ·refine⟨rfl,h h3 tk3 d3 λb o e=>k3 b o ?_ ?_ (zac _ (k2 _ _ (k1 _ _ e)))⟩
  ·exact Nat.ne_of_lt (zae e)
  ·exact Nat.ne_of_lt (Nat.lt_trans (zae e) hdlt)
end
def S2(K:W.Frag)(H:Hp):List V->List (Key×V)->Prop:=Paired λp kv=>∃b,p=V.ref b/\SqT K H b [kV kv.1,kv.2]
def Pb(hc:X.calm=true):vt X (.type "dict") (λxs H Q=>∃a ps kvs,xs=[.ref a]/\SqL X.K H a ps/\S2 X.K H ps kvs/\(kvs.map (·.1)).Nodup/\∀p,H p=none->Q (.ref p) (upd H p (.dK kvs))):=by
 intro pn s σ H xs us Q I r h;obtain⟨a,ps,kvs,rfl,ha,hp,hn,q⟩:=h;obtain⟨u,rfl,ru⟩:=uy r;cases ru;obtain⟨its,rv,pl,hz⟩:=I.list ha;have hlen:ps.length=kvs.length:=hp.length;have hli:=rv.length;have ex:∃more:List (Key×Value),KV kvs more/\∀(j:Nat) v kx,its[j]?=some v->more[j]?=some kx->Q3 (yx X.prog X.w) s.heap v kx:=by
  clear hn q hz pl hlen hli ha
  induction rv generalizing kvs with
  |nil=>cases hp;exact⟨[],.nil,λj v kx e=>by simp at e⟩
  |cons r1 r2 ih =>
   cases hp with
   |cons h t =>
    obtain⟨more,k1,k2⟩:=ih _ t;obtain⟨b,rfl,sq⟩:=h;cases r1;obtain⟨ts,rt,⟨o,e1,e2,n,e3⟩,_⟩:=I.tuple sq;cases rt with
    |cons t1 rt =>
     cases rt with
     |cons t2 rt =>
      cases rt
      rename_i kk key x;refine⟨(_,x)::more,.cons ⟨rfl,t2⟩ k1,λj v kx h1 h2=>?_⟩;cases j with
      |zero =>
       simp at h1 h2;subst h1 h2;exact⟨b,o,n,key,rfl,e1,e2,e3,Qw t1⟩
      |succ j=>exact k2 j v kx (by simpa using h1) (by simpa using h2)
 obtain⟨more,k1,k2⟩:=ex;have hml:kvs.length=more.length:=k1.length;have hkeys:more.map (·.1)=kvs.map (·.1):=by
  clear hn q hp hlen k2 hml
  induction k1 with
  |nil=>rfl
  |cons h t ih=>rw[List.map_cons,List.map_cons,ih,h.1]
 have hb:=I.big;refine b6 (knd:=yx X.prog X.w) (I.ok.hd hc) pl (by omega) (by rw[hkeys];exact hn) (by omega) k2 λh' tk hd keep=>?_
 refine⟨.ref s.heap.objs.size,_,I.laid (t':=tk) (a:=s.heap.objs.size) (o:=.dK kvs) keep (zaj _) ?_,rfl,q _ (I.hok.fresh (zaj _))⟩;exact Ru (by omega) (by simpa using(Nat.ne_of_gt hb)) k1 hd
section
variable{p:Pos}
def kD:Key->D
 |.inl i=>.int i
 |.inr x=>.str x
def Zn(ks:List Key)(ds:List D):List D:=(ks.zip ds).map λq=>.tup [kD q.1,q.2]
def sDictP:FT:=λxs φ=>match xs with
 |[.lst l]=>∃ks ds,l=Zn ks ds/\ks.length=ds.length/\ks.Nodup/\φ (df (.dk ks ds))
 |_=>False
def As{K:W.Frag}{H:Hp}{O:List Addr}{k:Key}{v:V}(h:Rep K H O (kD k) v):v=kV k:=by
 cases k with
 |inl i=>exact h
 |inr x=>exact h
theorem j8{K:W.Frag}{H:Hp}{O:List Addr}:∀(ks:List Key)(ds:List D)(ps:List V),ks.length=ds.length->Reps K H O (Zn ks ds) ps->∃xs,S2 K H ps (ks.zip xs)/\Reps K H O ds xs
 |[],[],ps,_,h=>by
  cases (show ps=[] from h)
  exact⟨[],.nil,rfl⟩
 |[],_::_,_,h,_=>by cases h
 |_::_,[],_,h,_=>by cases h
 |k::ks,d::ds,ps,hl,h=>by
  obtain⟨v,ws,rfl,⟨a,zs,rfl,sq,r⟩,hr⟩:=h;obtain⟨v1,w1,rfl,r1,v2,w2,rfl,r2,rfl⟩:=r;cases As r1;obtain⟨xs,h1,h2⟩:=j8 ks ds ws (by simpa using hl) hr
  exact⟨v2::xs,.cons ⟨a,rfl,sq.1⟩ h1,v2,xs,rfl,r2,h2⟩
def gq{α β:Type}:∀(ks:List α)(xs:List β),ks.length=xs.length->(ks.zip xs).map (·.1)=ks
 |[],_,_=>rfl
 |k::ks,[],h=>by cases h
 |k::ks,x::xs,h=>by
  rw[List.zip_cons_cons,List.map_cons,gq ks xs (by simpa using h)]
def Rt(hm:X.mg "dict" = none)(ha:EA Γ X (e::es) t)(hc:X.calm=true:=by rfl)(hg:Gl X "dict":=by rfl)(he:starEach (e::es) X.env=(false,eval e X.env)::starEach es X.env:=by rfl)(hpl:(backTo pos (starEach es X.env)).any (·.1)=false:=by rfl):ED Γ X (.Call (.Name "dict" p) (e::es) [] pos) (dCB sDictP t) :=
 vg (Pb hc) (λH O ds vs φ Q ho hv h k=>by
  unfold sDictP at h;split at h
  ·obtain⟨ks,ds,rfl,hl,nd,h⟩:=h;obtain⟨v,ws,rfl,⟨a,xs,rfl,q,r⟩,rfl⟩:=hv;obtain⟨zs,h1,h2⟩:=j8 ks ds xs hl r;have hz:ks.length=zs.length:=by rw[hl,h2.length]
   exact⟨a,xs,_,rfl,SqL.of q,h1,by rw[gq ks zs hz];exact nd,λp hp=>k _ (df (.dk _ _)) _ (yd hp _) ⟨p,rfl,hp,ho p hp,zs,zu,hl,nd,Reps.grow (gx hp) _ _ h2⟩ h⟩
  ·exact h.elim) hm jj ha hg (by decide) (by decide) he hpl
end
abbrev TK:=List Key
instance decMemTK (k:TK) (ks:List TK):Decidable (k∈ks):=decidable_of_iff (ks.any (λx=>decide (x=k))=true) (by simp)
section
open PySem PySem.Spec PySem.W PyProof.Rows
def RawD(h:Heap)(d:Addr)(rows:Array DictEntry)(ep:Nat):Prop:=∃o,h.get? d=some o/\o.ExactDict/\o.data=.dict rows ep
def RawD.lt{h:Heap}{d:Addr}{rows:Array DictEntry}{ep:Nat}(x:RawD h d rows ep):d<h.objs.size:=let ⟨_,g,_⟩:=x;zae g
variable{n:Nat}
abbrev POrd(n:Nat)(p:Array Nat):Prop:=p.Perm (List.toArray (List.range n))
def POrd.lt{p:Array Nat}(h:POrd n p)(hn:0<n)(i:Nat):p.getD i 0<n:=by
 by_cases hi:i<p.size
 ·have e:p.getD i 0=p[i]:=by simp[Array.getD,hi]
  rw[e];have m:p[i]∈List.toArray (List.range n):=h.mem_iff.mp (Array.getElem_mem hi);simpa using m
 ·have e:p.getD i 0=0:=by simp[Array.getD,hi]
  omega
def W4:∀bs:List Addr,Vals (bs.map V.ref) (bs.map Value.ref)
 |[]=>.nil
 |b::bs=>.cons rfl (W4 bs)
def z3w:Key->Option Int
 |.inl i=>some i
 |.inr _=>none
end
def zK1(k:TK):List Int:=k.filterMap z3w
variable{tc:TD}
def Lq(p q:Int->Int->Bool)(ta tb tc:TD):TD:=λρ φ=>ta ρ λx=>tb ρ λy=>match x.d,y.d with
 | .int i,.int j=>(p i j=true->tc ρ λz=>match z.d with
   |.int k=>φ (dv (.bl (q j k)))
   | _=>False)/\(p i j=false->φ (dv (.bl false)))
 |_,_=>False
def Qs{p q:Int->Int->Bool}{H₀:Hp}{rr rr':R2}(h1:∀ i j H Q,Q (.bl (p i j)) H->rr (.int i) (.int j) H Q)(h2:∀ i j H Q,Q (.bl (q i j)) H->rr' (.int i) (.int j) H Q) :
  ∀σ H Q,vq X.K H₀ (Lq p q ta tb tc) σ H Q->Gp rr rr' (vq X.K H₀ ta) (vq X.K H₀ tb) (vq X.K H₀ tc) σ H Q:=λσ H Q h=>by
 obtain⟨ρ,o,R,φ,hφ,k⟩:=h;refine⟨ρ,o,R,_,hφ,λv1 r1 H1 s1 rv1 g1=>⟨ρ,o,R.to s1,_,g1,λv2 r2 H2 s2 rv2 g2=>?_⟩⟩;split at g2
 ·rename_i i j ei ej;have e1:=rv1.view;have e2:=rv2.view;rw[ei]at e1;rw[ej]at e2;cases (show v1=_ from e1);cases (show v2=_ from e2);refine h1 i j H2 _ ⟨p i j,rfl,?_⟩;cases hp:p i j with
  |false=>exact k _ _ H2 (s1.trans s2) (by exact rfl) (g2.2 hp)
  |true =>
   refine⟨ρ,o,(R.to s1).to s2,_,g2.1 hp,λv3 r3 H3 s3 rv3 g3=>?_⟩;split at g3
   ·rename_i l el;have e3:=rv3.view;rw[el]at e3;cases (show v3=_ from e3);exact h2 j l H3 _ (k _ _ H3 (s1.trans (s2.trans s3)) (by exact rfl) g3)
   ·exact g3.elim
 ·exact g2.elim
def Jx{t:TD}{H₀:Hp}{e:Expr}{u:TE}(hp:PT X e (El u))(hl:∀ σ H Q,vq X.K H₀ t σ H Q->u σ H Q):PT X e (dt X.K H₀ (tBo t)):=impT hp λσ H Q h=>by
 obtain⟨ρ,o,R,φ,hφ,k⟩:=h;refine hl σ H _ ⟨ρ,o,R,_,hφ,λv r H' s1 rv h1=>?_⟩;obtain⟨kd,d⟩:=r;cases d with
 |bl b=>exact⟨b,rv.view,k b H' s1 h1⟩
 |_=>exact h1.elim
def Xn(ha:ED Γ X a ta)(hb:ED Γ X b tb)(hc:ED Γ X c tc)(hm:lastMarks [CmpOp.LtE,.LtE] [b,c]=false:=by with_unfolding_all rfl):ET Γ X (.Compare a [.LtE,.LtE] [b,c] pos) (tBo (Lq (λi j=>decide (i<=j)) (λi j=>decide (i<=j)) ta tb tc)):=λH₀ =>
 Jx (Jc z0z z0z (ha H₀) (hb H₀) (hc H₀) hm) (Qs (λi j H Q h=>⟨i,j,rfl,rfl,h⟩) λi j H Q h=>⟨i,j,rfl,rfl,h⟩)
def inR(m:Int)(ns:List Int):Prop:=ns.length<=1000/\(m<=0->1<=ns.length)/\∀n∈ns,0<m->0<=n/\n<m
variable{a:Addr}{m:Int}
def Ve:∀(its:List Value),(∀v∈its,∃(i:Int)(t:Tok),v=.int i t/\(0<m->0<=i/\i<m))->∃ns:List Int,ns.length=its.length/\(∀n∈ns,0<m->0<=n/\n<m)/\Vals (ns.map V.int) its
 |[],_=>⟨[],rfl,(λ_ h=>nomatch h),.nil⟩
 |v::its,h=>by
  obtain⟨i,t,rfl,h1⟩:=h v zao;obtain⟨ns,l,r,vs⟩:=Ve its λw hw=>h w (zal _ hw);refine⟨i::ns,by simp[l],λn hn=>?_,.cons ⟨t,rfl⟩ vs⟩
  rcases zam.mp hn with rfl|hn
  ·exact h1
  ·exact r n hn
def t81:∀{ns:List Int}{its:List Value},Vals (ns.map V.int) its->(∀n∈ns,0<m->0<=n/\n<m)->∀v∈its,∃(i:Int)(t:Tok),v=.int i t/\(0<m->0<=i/\i<m)
 |[],_,.nil,_,v,h=>nomatch h
 |n::ns,_,.cons r t,hr,v,h=>by
  obtain⟨tk,e⟩:=r;rcases zam.mp h with rfl|h
  ·exact⟨n,tk,e,hr n zao⟩
  ·exact t81 t (λk hk=>hr k (zal _ hk)) v h
def cc(I:Inv X pn σ H s)(h:H a=some (t6 a m))(m0:0<=m):∃ns:List Int,inR m ns/\Inv X pn σ (upd H a (.lst (ns.map V.int))) s:=by
 obtain⟨⟨_,its,n,e,sz,sz1,all⟩|⟨z,_⟩,_⟩:=(show xy X.prog X.w H s.heap a (t6 a m) from I.hok a _ h)
 rotate_left
 ·omega
 obtain⟨ns,l,r,vs⟩:=Ve its.toList λv hv=>all v (by simpa using hv)
 have ll:ns.length<=1000:=by rw[l,Array.length_toList];exact sz
 refine⟨ns,⟨ll,λhm=>by rw[l,Array.length_toList];exact sz1 hm,r⟩,?_⟩
 exact I.write (t':=s.toks) (h':=s.heap) (x:=a) (e:=a) (o:=.lst (ns.map V.int)) (by rw[h];exact True.intro) (.inl rfl) (λ_ _ _ z=>z) ⟨_,e⟩ (show xy X.prog X.w _ s.heap a (.lst _) from⟨by rw[zLm,sizeLine_eq];omega,its.toList,n,vs,by simpa using e⟩)
def B0{P:Program}{w:World}{H':Hp}{h':Heap}{its:Array Value}{n:Nat}(e:h'.get? a=some {cls:=.type "list",dict:=none,data:=.seq its n,slots:=#[]})(sz:its.size<=1000)(sz1:m<=0->1<=its.size)(all:∀ v∈its,∃ (i:Int) (t:Tok),v=.int i t/\(0<m->0<=i/\i<m))(m0:0<=m):xy P w H' h' a (t6 a m) :=
 ⟨.inl ⟨m0,its,n,e,sz,sz1,all⟩,⟨_,e⟩,λh1 h2 z k=>z.elim (λ⟨_,its',n',e',r⟩=>.inl ⟨m0,its',n',k _ e',r⟩) λz=>absurd z.1 (by omega)⟩
def su{ns:List Int}(I:Inv X pn σ H s)(h:H a=some (.lst (ns.map V.int)))(r:inR m ns)(m0:0<=m):Inv X pn σ (upd H a (t6 a m)) s:=by
 obtain⟨z,its,n,vs,e⟩:=(show xy X.prog X.w H s.heap a (.lst (ns.map V.int)) from I.hok a _ h);have l:its.length=ns.length:=by have:=vs.length;rw[zLm]at this;exact this.symm
 exact I.write (t':=s.toks) (h':=s.heap) (x:=a) (e:=a) (o:=t6 a m) (by rw[h];exact True.intro) (.inl rfl) (λ_ _ _ z=>z) ⟨_,e⟩ (B0 (its:=its.toArray) e (by rw[zap,l];exact r.1) (λhm=>by rw[zap,l];exact r.2.1 hm) (λv hv=>t81 vs r.2.2 v (by simpa using hv)) m0)
def Zk{K:W.Frag}{H:Hp}{O:List Addr}:∀{ns:List Int}{xs:List V},Reps K H O (ns.map D.int) xs->xs=ns.map V.int
 |[],_,h=>h
 |n::ns,xs,h=>by
  obtain⟨v,r,rfl,q,t⟩:=h;cases (show v=_ from q);rw[Zk t];rfl
def REnv.feed{K:W.Frag}{H₀ H:Hp}{σ:St}{ρ:DE}{o:List (Nat×Addr)}(R:REnv K H₀ H σ ρ o){i:Nat}{ns:List Int}{m:Int}(e:slot ρ i=some (dO (.lst (ns.map D.int)))) :
  ∃a o',H a=some (.lst (ns.map V.int))/\REnv K H₀ (upd H a (t6 a m)) σ (setS ρ i (dv (.fd m))) o'/\Grow (o.map Prod.snd) (o'.map Prod.snd) H (upd H a (t6 a m)):=by
 obtain⟨v,ev,q⟩:=R.slots i _ (Ye.mp e);obtain⟨a,rfl,mem,xs,hx,rp⟩:∃a,v=.ref a/\(i,a)∈o/\∃xs,H a=some (.lst xs)/\Reps K H (o.map Prod.snd) (ns.map D.int) xs:=by
  rcases q with⟨k,_⟩|⟨_,a,e1,m,c⟩
  ·cases k
  ·exact⟨a,e1,m,c⟩
 cases Zk rp
 have sub:∀p∈o.filter (λp=>decide (p.1≠i)),p∈o:=λp hp=>(List.mem_filter.mp hp).1;have ne:∀p∈o.filter (λp=>decide (p.1≠i)),p.2≠a:=λp hp z=>by
  have:=X6 R.nda (sub p hp) mem z;have hne:=of_decide_eq_true (List.mem_filter.mp hp).2;rw[this]at hne;exact hne rfl
 have subA:∀b∈(o.filter (λp=>decide (p.1≠i))).map Prod.snd,b∈o.map Prod.snd:=λb hb=>by
  obtain⟨p,hp,e⟩:=zah.mp hb;exact zah.mpr ⟨p,sub p hp,e⟩
 have ain:a∈o.map Prod.snd:=zah.mpr ⟨_,mem,rfl⟩;have aout:a∉(o.filter (λp=>decide (p.1≠i))).map Prod.snd:=λhb=>by
  obtain⟨p,hp,e⟩:=zah.mp hb;exact ne p hp e
 have g:Grow (o.map Prod.snd) ((o.filter (λp=>decide (p.1≠i))).map Prod.snd) H (upd H a (t6 a m)) :=
  ⟨λb u h n=>⟨by rw[zy (λz=>n (by rw[z];exact ain))];exact h,λz=>n (subA b z)⟩,λb ys h=>by rw[zy (λz=>by subst z;rw[hx]at h;cases h)];exact h,λb ob u h=>by rw[zy (λz=>by subst z;rw[hx]at h;cases h)];exact h⟩
 refine⟨a,_,hx,?_,g⟩;have hlen:=R.len;exact {
  same:=λb u h=>by
   have hb:b≠a:=λz=>by
    subst z;have:=R.fresh _ mem;rw[this]at h;cases h
   rw[zy hb];exact R.same b u h
  fresh:=λp hp=>R.fresh p (sub p hp)
  trk:=λp hp=>by rw[zy (ne p hp)];exact R.trk p (sub p hp)
  mtb:=λp hp=>by rw[zy (ne p hp)];exact R.mtb p (sub p hp)
  nda:=List.Nodup.sublist (List.Sublist.map _ List.filter_sublist) R.nda
  len:=by rw[uq,List.length_set];exact R.len
  slots:=λj r ej=>by
   rw[uq,List.getElem?_set]at ej;by_cases hj:i=j
   ·subst hj;rw[if_pos rfl]at ej;split at ej
    ·cases ej
     exact⟨.ref a,ev,.inl ⟨rfl,a,rfl,zu,aout⟩⟩
    ·cases ej
   ·rw[if_neg hj]at ej;obtain⟨v,evj,q⟩:=R.slots j r ej;refine⟨v,evj,?_⟩;rcases q with⟨k,q⟩|⟨k,b,e1,mb,c⟩
    ·exact .inl ⟨k,Rep.grow g _ _ q⟩
    ·have inb:(j,b)∈o.filter (λp=>decide (p.1≠i)):=List.mem_filter.mpr ⟨mb,decide_eq_true (Ne.symm hj)⟩;have nb:=ne _ inb;refine .inr ⟨k,b,e1,inb,?_⟩;obtain⟨kk,d⟩:=r;cases d with
     |lst ds=>obtain⟨xs,q,r⟩:=c;exact⟨xs,by rw[zy nb];exact q,Reps.grow g _ _ r⟩
     |dk ks ds=>obtain⟨xs,q,l,nd,r⟩:=c;exact⟨xs,by rw[zy nb];exact q,l,nd,Reps.grow g _ _ r⟩
     |fd m=>have c:H b=some (t6 b m):=c;show upd H _ _ b=_;rw[zy nb];exact c
     | _=>exact c.elim}
def An(i:Nat)(m:Int)(t:TDS):TDS:=λρ Z=>∃ns:List Int,slot ρ i=some (dO (.lst (ns.map D.int)))/\inR m ns/\t (setS ρ i (dv (.fd m))) Z
def D4(i:Nat)(m:Int){X:Cx}{st:Stmt}{t:TDS}(h:SD Γ X st t)(hm0:0<=m:=by decide):SD Γ X st (An i m t):=λH₀ pn s σ H EE I q=>by
 obtain⟨ρ,o,R,Z,⟨ns,e,r,hZ⟩,k1,k2,k3,k4⟩:=q;obtain⟨a,o',ha,R',g⟩:=R.feed (m:=m) e;refine h H₀ pn s σ _ EE (su I ha r hm0) ⟨_,o',R',Z,hZ,λρ2 σ2 H2 o2 g2 R2 q2=>k1 ρ2 σ2 H2 o2 (g.trans g2) R2 q2,λρ2 σ2 H2 o2 g2 R2 q2=>k2 ρ2 σ2 H2 o2 (g.trans g2) R2 q2,λρ2 σ2 H2 o2 g2 R2 q2=>k3 ρ2 σ2 H2 o2 (g.trans g2) R2 q2,k4⟩
section
variable{scope:Scope}{T F:List Str}{js:List Nat}{iter elt:Expr}{ifs:List Expr}{ti:TID}{g2:TG}{g:TGD}{tc:TDb}
def Rw(ti:TID)(n:Nat)(js:List Nat)(g:TGD)(tc:TDb)(te:TD):TD:=λρ φ=>ti ρ λds=>∃P:Nat->List D->Prop,ds.length<=10000000/\P 0 [] /\
 (∀(i:Nat)(d:D)(es:List D),ds[i]?=some d->es.length<=i->P i es->g d (ρ0 n js ρ) λρ'=>tc ρ' λc=>(c=true->te ρ' λr=>(match r.k with|.own=>False|_=>True)/\P (i+1) (es++[r.d]))/\(c=false->P (i+1) es))/\∀es,P ds.length es->φ (df (.lst es))
def Zr{H₀:Hp}(nd:js.Nodup)(hl:bu X.K g2 g):∀σ H Q,vq X.K H₀ (Rw ti T.length js g tc te) σ H Q->Ob (Jy X.K H₀ ti) T js g2 (dt X.K H₀ tc) (vq X.K H₀ te) σ H Q:=λσ H Q q=>by
  obtain⟨ρ,o,R,φ,hφ,k⟩:=q;refine⟨ρ,o,R,_,hφ,λJ ds P H1 s1 I hP ⟨PP,hlen,P0,turn,fin⟩ Da hDa=>?_⟩;have R1:=R.to s1;have gD:∀{H':Hp},Same H1 H'->Grow (o.map Prod.snd) (Da::o.map Prod.snd) H1 H':=λs=>⟨λb u h nb=>⟨s b u h,λz=>(zam.mp z).elim (λe=>zx h hDa e) nb⟩,λb xs h=>s b _ h,λb ob u h=>s b _ h⟩;refine⟨λi m ys H'=>m=ds.length-i/\i<=ds.length/\Same H1 H'/\H' Da=some (.lst ys)/\∃es,es.length<=i/\PP i es/\Reps X.K H' (Da::o.map Prod.snd) es ys,
   ⟨_,rfl,Nat.zero_le _,yd hDa _,zu,[],zaj _,P0,rfl⟩,?_⟩
  rintro i m ys H' ⟨rfl,hi',s2,hD',es,le,pe,rp⟩;refine⟨hD',?_⟩;have hP':=I.keep _ _ _ _ hP (gD s2);by_cases hlt:i<ds.length
  ·have ed:ds[i]?=some ds[i]:=by simp[hlt]
   obtain⟨j1,j2⟩:=I.go H' _ i _ hP' ed;refine .inr ⟨j1,λzs H2=>Same H1 H2/\H2 Da=some (.lst zs)/\∃es,es.length<=i+1/\PP (i+1) es/\Reps X.K H2 (Da::o.map Prod.snd) es zs,λzs H2 ⟨a1,a2,a3⟩=>⟨_,(by omega:ds.length-(i+1)<ds.length-i),rfl,hlt,a1,a2,a3⟩,λx H2 y=>?_⟩
   obtain⟨s3,rx⟩:=j2 x H2 y;have s13:=s2.trans s3;have hD2:=s3 _ _ hD';have RB:=j9 (n:=T.length) R1 nd hDa s13 hD2 T rfl;have hO:((T.length+js.length,Da)::o.map λp=>(ixO T.length js p.1,p.2)).map Prod.snd=Da::o.map Prod.snd:=by
    rw[List.map_cons,List.map_map];rfl
   have rpl:ys.length<=10000000:=by
    rw[rp.length];omega
   refine hl H₀ H2 (st0 T js σ) (ρ0 T.length js ρ) _ _ x _ _ RB (by rw[hO];exact rx) (turn i _ es ed le pe) λρ' σ' R' q'=>?_
   refine⟨ρ',_,R',_,q',λc H3 s4 h4=>?_⟩;have hD3:=s4 _ _ hD2;cases c with
   |false =>
    exact iteF ⟨s13.trans s4,hD3,es,Nat.le_succ_of_le le,h4.2 rfl,Reps.grow (Grow.same (s3.trans s4)) _ _ rp⟩
   |true =>
    refine iteT ⟨ρ',_,R'.to s4,_,h4.1 rfl,λv r H4 s5 rv h5=>?_⟩;have hD4:=s5 _ _ hD3;have rd:=rv.solid (re h5.1);rw[hO]at rd;have ne:∀b u,H1 b=some u->b≠Da:=λb u h=>zx h hDa;have gu:Grow (Da::o.map Prod.snd) (Da::o.map Prod.snd) H4 (upd H4 Da (.lst (ys++[v]))) :=
     ⟨λb u h n=>⟨by rw[zy (λz=>n (zam.mpr (.inl z)))];exact h,n⟩,λb xs h=>by rw[zy (λz=>by rw[z,hD4]at h;cases h)];exact h,λb ob u h=>by rw[zy (λz=>by rw[z,hD4]at h;cases h)];exact h⟩
    refine⟨hD4,Nat.lt_of_le_of_lt rpl (by decide),⟨λb u h=>?_,zu,es++[r.d],by rw[zLa];exact Nat.succ_le_succ le,h5.2,?_⟩⟩
    ·rw[zy (ne b u h)];exact s5 _ _ (s4 _ _ (s13 b u h))
    ·exact Reps.grow gu _ _ ((Reps.grow (Grow.same (s3.trans (s4.trans s5))) _ _ rp).append (Reps.one rd))
  ·have e:i=ds.length:=by omega
   subst e;refine .inl ⟨I.stop H' _ hP',?_⟩;exact k (.ref Da) (df (.lst es)) H' (s1.trans s2) ⟨Da,rfl,s1.free hDa,R.ofree (s1.free hDa),ys,hD',rp⟩ (fin es pe)
def yf(hi:EI Γ X tg iter ti)(S:zm X.env.scope scope T F)(hjs:Paired (λx j=>X.N[j]?=some x) F js)(nd:js.Nodup)(hg:∀ cl C fp s H,PG (x5 X (T++F) scope cl C fp s H) tg g2)(hk:Z4 T.length g2)(hl:bu X.K g2 g)(ht:∀ cl C fp s H,EIf Γ (x5 X (T++F) scope cl C fp s H) ifs tc)(he:∀ cl C fp s H,ED Γ (x5 X (T++F) scope cl C fp s H) elt te)(hc:X.calm=true:=by rfl)(hs:∀ x,foldedSetIterable iter X.env x=pure x:=by intro _;rfl):ED Γ X (.ListComp elt [⟨tg,iter,ifs,0⟩] scope pos) (Rw ti T.length js g tc te):=λH₀ =>
 impE (Uq (tc:=dt X.K H₀.1 tc) (te:=vq X.K H₀.1 te) hc (hi H₀) S hjs hg hk (λcl C fp s H=>ht cl C fp s H H₀) (λcl C fp s H=>he cl C fp s H H₀) hs) (Zr nd hl)
def zv{ti:TID}{n:Nat}{js:List Nat}{g:TGD}{tc:TDb}{te:TD}{ρ:DE}{φ:EV->Prop}(ds:List D)(h:∀ ψ:List D->Prop,ψ ds->ti ρ ψ)(P:Nat->List D->Prop)(hl:ds.length<=10000000)(h0:P 0 [])(ht:∀ (i:Nat) (d:D) (es:List D),ds[i]?=some d->es.length<=i->P i es->g d (ρ0 n js ρ) λρ'=>tc ρ' λc=>(c=true->te ρ' λr=>(match r.k with|.own=>False|_=>True)/\P (i+1) (es++[r.d]))/\(c=false->P (i+1) es))(hφ:∀ es,P ds.length es->φ (df (.lst es))):Rw ti n js g tc te ρ φ:=h _ ⟨P,hl,h0,ht,hφ⟩
end
def Vp{α β:Type}(f:α->β):∀(l:List α)(i:Nat),(l.map f).eraseIdx i=(l.eraseIdx i).map f
 |[],_=>rfl
 |_::_,0=>rfl
 |x::l,i+1=>by simp[Vp f l i]
def Gg{H:Hp}{a:Addr}{o u:HO}(h:H a=some u):upd (upd H a o) a u=H:=by
 rw[Pu]
 funext b
 by_cases e:b=a
 ·subst e;rw[zu,h]
 ·rw[zy e]
def Cm:IxR X (λx y H Q=>∃a m,x=.ref a/\H a=some (t6 a m)/\m=0/\y=.int 0/\∀c:Int,Q (.int c) H):=by
 intro value slice pn s σ H x y v u Q I rx ry h hs;obtain⟨a,m,rfl,ha,m0,rfl,q⟩:=h;obtain⟨ns,hr,I1⟩:=cc I ha (by omega)
 obtain⟨n,hn⟩:∃n,ns[0]?=some n:=⟨ns[0]'(hr.2.1 (by omega)),by simp⟩
 refine thn (c6 value slice pn s σ _ (.ref a) (.int 0) v u (λx' H'=>x'=.int n/\H'=upd H a (.lst (ns.map V.int))) I1 rx ry ⟨a,_,0,.int n,rfl,rfl,SqL.of zu,?_,rfl,rfl⟩ hs) λw s' ⟨x',H',I',r',e1,e2⟩=>?_
 ·exact U7 (by decide) (by rw[zai];show(ns[0]?).map _=_;rw[hn];rfl)
 ·subst e1 e2;have:=su (m:=m) I' zu hr (by omega)
  rw[Gg ha]at this;exact⟨.int n,H,this,r',q n⟩
def J1:PSet X (λo i v H Q=>∃a m c,o=.ref a/\H a=some (t6 a m)/\m=0/\i=.int 0/\v=.int c/\Q H):=by
 intro pn s σ H o i v ov iv u Q I ro ri rv h;obtain⟨a,m,c,rfl,ha,m0,rfl,rfl,q⟩:=h;obtain⟨ns,hr,I1⟩:=cc I ha (by omega)
 have h1:=hr.2.1 (by omega)
 refine thn (Kz pn s σ _ (.ref a) (.int 0) (.int c) ov iv u (λH'=>H'=upd (upd H a (.lst (ns.map V.int))) a (.lst ((ns.map V.int).set 0 (.int c)))) I1 ro ri rv ⟨a,ns.map V.int,0,0,rfl,rfl,zu,?_,rfl⟩) λ_ s' ⟨H',I',e⟩=>?_
 ·unfold ixN;rw[if_pos (by decide),if_pos (by rw[zLm];omega)]
  rfl
 ·subst e;have hq:upd (upd H a (.lst (ns.map V.int))) a (.lst ((ns.map V.int).set 0 (.int c))) a=some (.lst ((ns.set 0 c).map V.int)):=by
   rw[zu,<- List.map_set]
  have:=su (m:=m) I' hq ⟨by rw[List.length_set];exact hr.1,λ_=>by rw[List.length_set];exact h1,λn hn hm=>absurd m0 (by omega)⟩ (by omega)
  rw[Pu,Gg ha]at this;exact⟨H,this,q⟩
def dFd0(i:Nat):TD:=λρ φ=>match slot ρ i with
 |some ⟨.val,.fd m⟩=>m=0/\∀c:Int,φ (dv (.int c))
 |_=>False
def Td{K:W.Frag}{H₀ H:Hp}{σ:St}{ρ:DE}{o:List (Nat×Addr)}(R:REnv K H₀ H σ ρ o){i:Nat}{m:Int}(e:slot ρ i=some ⟨.val,.fd m⟩):∃a,σ[i]?=some (some (.ref a))/\H a=some (t6 a m):=by
 obtain⟨v,ev,q⟩:=R.slots i _ (Ye.mp e);rcases q with⟨_,a,rfl,h,_⟩|⟨k,_⟩
 ·exact⟨a,ev,h⟩
 ·cases k
def Rr(i:Nat){x:Str}{np pos:Pos} {j p2} (hN:X.N[i]?=some x:=by rfl) (hv:Vis X.env.scope x:=by walk_at "o") (hd:(x==("__debug__" : Str))=false:=by decide)
  (hcd:(x==("__classdict__" : Str))=false:=by decide) (hs:jm (.Constant (.int 0) j p2):=by intro _ _;rfl):ED Γ X (.Subscript (.Name x np) (.Constant (.int 0) j p2) pos) (dFd0 i):=λH₀ =>
 impE (Wj Cm (tj hN hv hd hcd) tm hs) λσ H Q q=>by
  obtain⟨ρ,oo,R,φ,hφ,kk⟩:=q;unfold dFd0 at hφ;split at hφ
  ·rename_i m es;obtain⟨m0,hφ⟩:=hφ;obtain⟨a,ev,ha⟩:=Td R es;exact⟨.ref a,ev,a,m,rfl,ha,m0,rfl,λc=>kk _ (dv (.int c)) H (Same.refl H) (by exact rfl) (hφ c)⟩
  ·exact hφ.elim
def Oy(i:Nat)(te:TD):TDS:=λρ Z=>match slot ρ i with
 | some ⟨.val,.fd m⟩=>m=0/\te ρ λr=>(match r.d with
  |.int _=>Z.nx ρ
  | _=>False)
 |_=>False
def Sf(i:Nat){x:Str}{e:Expr}{te:TD}{np pos pos':Pos} {j p2} (he:ED Γ X e te) (hN:X.N[i]?=some x:=by rfl) (hv:Vis X.env.scope x:=by walk_at "o") (hd:(x==("__debug__" : Str))=false:=by decide)
  (hcd:(x==("__classdict__" : Str))=false:=by decide) (hs:swapsWithSole [.Subscript (.Name x np) (.Constant (.int 0) j p2) pos'] e pos.line X.env=pure false:=by rfl) (hw:swappedStores [.Subscript (.Name x np) (.Constant (.int 0) j p2) pos'] e X.env=pure none:=by rfl)
  (h1:(assignEach [.Subscript (.Name x np) (.Constant (.int 0) j p2) pos'] X.env).map (·.2)=[assign (.Subscript (.Name x np) (.Constant (.int 0) j p2) pos') X.env]:=by rfl)
  (ha:∀v,assign (.Subscript (.Name x np) (.Constant (.int 0) j p2) pos') X.env v=(do
   let ov <- holding [v] (eval (.Name x np) X.env)
   let iv <- holding [v,ov] (eval (.Constant (.int 0) j p2) X.env)
   standAt pos'
   holding [v,ov,iv] (setItem ov iv v)
   release [v,ov,iv] []):=by intro _;rfl):SD Γ X (.Assign [.Subscript (.Name x np) (.Constant (.int 0) j p2) pos'] e pos) (Oy i te):=λH₀ =>
 impS (z0e (he H₀) (z0m (tj hN hv hd hcd) tm J1 ha) hs hw h1) λD σ H h=>by
  obtain⟨ρ,o,R,Z,hZ,k1,k2,k3,k4⟩:=h;unfold Oy at hZ;split at hZ
  ·rename_i m es;obtain⟨m0,hZ⟩:=hZ;obtain⟨a,ev,ha⟩:=Td R es;refine⟨ρ,o,R,_,hZ,λv r H1 s1 rv hz=>?_⟩;obtain⟨kd,d⟩:=r;cases d with
   |int c =>
    cases (show v=_ from rv.view)
    exact⟨.ref a,ev,a,m,c,rfl,s1 _ _ ha,m0,rfl,rfl,k1 ρ σ H1 o (Grow.same s1) (R.to s1) hz⟩
   |_=>exact hz.elim
  ·exact hZ.elim
def Ov(i:Nat):TDS:=λρ Z=>match slot ρ i with
 |some ⟨.val,.fd m⟩=>m=0/\∀c:Int,Z.rt (dv (.int c))
 |_=>False
def Kt(i:Nat){x:Str}{p0 p1 p2 p3 p4 p6 p7 p8 p9 p10 p11 p12 p13:Pos} {j1 j2 j3} (hml:X.mg "len" = none) (hN:X.N[i]?=some x:=by rfl) (hv:Vis X.env.scope x:=by walk_at "o")
  (hd:(x==("__debug__" : Str))=false:=by decide) (hcd:(x==("__classdict__" : Str))=false:=by decide) (hg:Gl X "len":=by rfl) (hm:behindInMarks .Gt (.Constant (.int 1) j1 p2)=false:=by with_unfolding_all rfl)
  (he:starEach [.Name x p1] X.env=(false,eval (.Name x p1) X.env)::starEach [] X.env:=by rfl) (hpl:(backTo p3 (starEach [] X.env)).any (·.1)=false:=by rfl)
  (hq:∀{to:TE},PE X (.Name x p7) to->PE X (.Call (.Attribute (.Name x p7) "pop" p8) [.Constant (.int 1) j2 p9] [] p10) (tBM X.K "list" Fb to (Kq (tC (.int 1)) tNil)):=by
   intro to h1;exact Yv PySem.F.plainAttrs_list PySem.F.slot_list_pop PySem.F.type_list_pop Jo h1 (xx tm vb)) :
  SDs Γ X [.If (.Compare (.Call (.Name "len" p0) [.Name x p1] [] p3) [.Gt] [.Constant (.int 1) j1 p2] p4) [.Return (some (.Call (.Attribute (.Name x p7) "pop" p8) [.Constant (.int 1) j2 p9] [] p10)) p11] [] p6,.Return (some (.Constant (.int 0) j3 p12)) p13] (Ov i):=λH₀ pn s σ H EE I h=>by
 obtain⟨ρ,o,R,Z,hZ,k1,k2,k3,k4⟩:=h;unfold Ov at hZ;split at hZ
 ·rename_i m es;obtain⟨m0,hZ⟩:=hZ;obtain⟨a,ev,ha⟩:=Td R es;obtain⟨ns,hr,I1⟩:=cc I ha (by omega)
  have body:=ut (Ul (rq Jk (qq u9 hg hml PySem.boot_len (xx (tj hN hv hd hcd (pos:=p1)) vb he) (by decide) (by decide) he hpl (p:=p0)) (tm (i:=1) (j:=j1) (pos:=p2)) hm (pos:=p4)) (vz (Zm (hq (tj hN hv hd hcd (pos:=p7))) (pos:=p11))) Ys (pos:=p6)) (vz (Zm (tm (i:=0) (j:=j3) (pos:=p12)) (pos:=p13)))
  let D1:Ends:={EE with nx:=λ_ _=>False,bk:=λ_ _=>False,ct:=λ_ _=>False,rt:=λv H2=>∃(c:Int)(ns':List Int),v=.int c/\H2 a=some (.lst (ns'.map V.int))/\inR m ns'/\∀b u,b≠a->H b=some u->H2 b=some u}
  refine thn (body pn s σ _ D1 I1 ?_) λfl s' p=>?_
  ·have h1:upd H a (HO.lst (ns.map V.int)) a=some (.lst (ns.map V.int)):=zu;have hk:∀b u,b≠a->H b=some u->upd H a (HO.lst (ns.map V.int)) b=some u:=λb u hb hbu=>by rw[zy hb];exact hbu
   refine⟨.ref a,ev,a,ns.map V.int,rfl,.inl (SqL.of h1),_,_,rfl,rfl,_,rfl,?_⟩;rw[zLm]
   dsimp only
   by_cases hl:(1:Int)<ns.length
   ·rw[if_pos (decide_eq_true hl)];have hl':1<ns.length:=by omega
    refine⟨.ref a,ev,.inl ⟨rfl,_,SqL.of h1⟩,a,_,1,1,.int ns[1],rfl,rfl,h1,by decide,by decide,?_,?_,?_⟩
    ·have:(1:Int)<(ns.map V.int).length:=by rw[zLm];exact hl
     simp[seqIndex?];omega
    ·rw[zai,zaf hl'];rfl
    ·refine⟨ns[1],ns.eraseIdx 1,rfl,?_,⟨?_,λ_=>?_,λn hn hm=>absurd m0 (by omega)⟩,λb u hb hbu=>by rw[zy hb];exact hk b u hb hbu⟩
     ·rw[zu,Vp]
     ·exact zak (List.length_eraseIdx_le ..) hr.1
     ·rw[List.length_eraseIdx_of_lt hl'];omega
   ·rw[if_neg (by simpa using hl)]
    exact⟨0,ns,rfl,h1,hr,hk⟩
  ·cases fl with
   |ret u =>
    obtain⟨v,σ',H2,I2,rv,c,ns',rfl,e2,r2,kp⟩:=p;refine⟨.int c,σ',upd H2 a (t6 a m),su I2 e2 r2 (by omega),rv,k4 _ (dv (.int c)) _ (R.same.trans λb u hb=>?_) (by exact rfl) (hZ c)⟩
    by_cases hba:b=a
    ·subst hba;rw[zu];rw[ha]at hb;exact hb
    ·rw[zy hba];exact kp b u hba hb
   |next=>obtain⟨_,_,_,f⟩:=p;exact f.elim
   |brk=>obtain⟨_,_,_,f⟩:=p;exact f.elim
   |cont=>obtain⟨_,_,_,f⟩:=p;exact f.elim
 ·exact hZ.elim
section
variable{scope:Scope}{T F:List Str}{js:List Nat}{iter elt:Expr}{ifs:List Expr}{ti:TID}{g2:TG}{g:TGD}{tc:TDb}
def yn(i:Nat){y:Str}{py spos:Pos}(hN:X.N.Nodup)(hi:EI Γ X tg iter ti)(S:zm X.env.scope scope T F)(hjs:Paired (λx j=>X.N[j]?=some x) F js)(nd:js.Nodup)(hg:∀ cl C fp s H,PG (x5 X (T++F) scope cl C fp s H) tg g2)(hk:Z4 T.length g2)(hl:bu X.K g2 g)(ht:∀ cl C fp s H,EIf Γ (x5 X (T++F) scope cl C fp s H) ifs tc)(he:∀ cl C fp s H,ED Γ (x5 X (T++F) scope cl C fp s H) elt te)(hc:X.calm=true:=by rfl)(hs:∀ x,foldedSetIterable iter X.env x=pure x:=by intro _;rfl)(hy:X.N[i]?=some y:=by rfl)(hlo:X.env.scope.names.lookup y=some .local:=by rfl)(hsw:swapsWith (.ListComp elt [⟨tg,iter,ifs,0⟩] scope pos) (some (.Name y py)) spos.line X.env=pure true:=by rfl):SD Γ X (.Assign [.Name y py] (.ListComp elt [⟨tg,iter,ifs,0⟩] scope pos) spos) (sSet i (Rw ti T.length js g tc te)):=λH₀ =>
 impS (Qb (tc:=dt X.K H₀.1 tc) (te:=vq X.K H₀.1 te) hc hN hy (.inl hlo) (hi H₀) S hjs hg hk (λcl C fp s H=>ht cl C fp s H H₀) (λcl C fp s H=>he cl C fp s H H₀) hsw hs (.inr hlo)) λD σ H h=>by
  obtain⟨ρ,o,R,Z,hZ,k1,k2,k3,k4⟩:=h;refine Zr nd hl σ H _ ⟨ρ,o,R,_,hZ,λv r H1 s1 rv h1=>?_⟩;obtain⟨o',R',g'⟩:=R.put s1 i rv (re h1.1);exact k1 _ _ H1 o' g' R' h1.2
end
def Ag{K:W.Frag}{H H':Hp}{a:Addr}{xs:List V}(kt:∀ b xs,H b=some (.tup xs)->H' b=some (.tup xs))(kf:∀ b o u,H b=some (.frz o u)->H' b=some (.frz o u))(h:SqR K H a xs):SqR K H' a xs:=by
 obtain⟨h1,h2⟩:=h;refine⟨?_,kt _ _ h2⟩;rcases h1 with(h|⟨o,h⟩)|h
 ·exact .inl (.inl (kt _ _ h))
 ·exact .inl (.inr ⟨o,kf _ _ _ h⟩)
 ·exact .inr h
def Al{K:W.Frag}{H H':Hp}{a:Addr}{ns:List Int}(kf:∀ b o u,H b=some (.frz o u)->H' b=some (.frz o u))(h:Scr K H a ns):Scr K H' a ns:=by
 rcases h with⟨o,h⟩|h
 ·exact .inl ⟨o,kf _ _ _ h⟩
 ·exact .inr h
mutual
def RepN.go{K:W.Frag}{P P':Addr->Prop}{H H':Hp}(kt:∀ b xs,H b=some (.tup xs)->H' b=some (.tup xs))(kf:∀ b o u,H b=some (.frz o u)->H' b=some (.frz o u))(g:∀ b u,P b->H b=some u->H' b=some u/\P' b):∀(d:D)(v:V),RepN K H P d v->RepN K H' P' d v
 |.non,_,h=>h
 |.bl _,_,h=>h
 |.int _,_,h=>h
 |.str _,_,h=>h
 |.ty _,_,h=>h
 |.cn _,_,h=>h
 |.tup ds,v,h=>by
  obtain⟨a,xs,e,q,r⟩:=h;exact⟨a,xs,e,Ag kt kf q,x6.go kt kf g ds xs r⟩
 |.lst ds,v,h=>by
  obtain⟨a,xs,e,q,n,r⟩:=h;exact⟨a,xs,e,(g a _ n q).1,(g a _ n q).2,x6.go kt kf g ds xs r⟩
 |.scr ns,v,h=>by
  obtain⟨a,e,q⟩:=h;exact⟨a,e,Al kf q⟩
 |.fd C,v,h=>by
  obtain⟨a,e,q,n⟩:=h;exact⟨a,e,(g a _ n q).1,(g a _ n q).2⟩
 |.dk ks ds,v,h=>by
  obtain⟨a,xs,e,q,n,l,nd,r⟩:=h;exact⟨a,xs,e,(g a _ n q).1,(g a _ n q).2,l,nd,x6.go kt kf g ds xs r⟩
def x6.go{K:W.Frag}{P P':Addr->Prop}{H H':Hp}(kt:∀ b xs,H b=some (.tup xs)->H' b=some (.tup xs))(kf:∀ b o u,H b=some (.frz o u)->H' b=some (.frz o u))(g:∀ b u,P b->H b=some u->H' b=some u/\P' b):∀(ds:List D)(xs:List V),x6 K H P ds xs->x6 K H' P' ds xs
 |[],_,h=>h
 |d::ds,xs,h=>by
  obtain⟨v,r,e,q,t⟩:=h;exact⟨v,r,e,RepN.go kt kf g d v q,x6.go kt kf g ds r t⟩
end
section
variable{scope:Scope}{T F:List Str}{js:List Nat}{iter elt:Expr}{ifs:List Expr}{ti:TID}{g2:TG}{g:TGD}{tc:TDb}
def Lp(ti:TID)(n:Nat)(js:List Nat)(g:TGD)(tc:TDb)(te:TD):TD:=λρ φ=>ti ρ λds=>∃P:Nat->List D->Prop,ds.length<=100000/\P 0 [] /\
 (∀(i:Nat)(d:D)(es:List D),ds[i]?=some d->es.length<=i->P i es->g d (ρ0 n js ρ) λρ'=>tc ρ' λc=>(c=true->te ρ' λr=>u5 r/\P (i+1) (es++[r.d]))/\(c=false->P (i+1) es))/\∀es,P ds.length es->φ ⟨.new,.lst es⟩
def Qr{H₀:Hp}(nd:js.Nodup)(hl:bu X.K g2 g):∀σ H Q,vq X.K H₀ (Lp ti T.length js g tc te) σ H Q->Ob (Jy X.K H₀ ti) T js g2 (dt X.K H₀ tc) (vq X.K H₀ te) σ H Q:=λσ H Q q=>by
  obtain⟨ρ,o,R,φ,hφ,k⟩:=q;refine⟨ρ,o,R,_,hφ,λJ ds P H1 s1 I hP ⟨PP,hlen,P0,turn,fin⟩ Da hDa=>?_⟩;have R1:=R.to s1;have gD:∀{H':Hp},Same H1 H'->Grow (o.map Prod.snd) (Da::o.map Prod.snd) H1 H':=λs=>⟨λb u h nb=>⟨s b u h,λz=>(zam.mp z).elim (λe=>zx h hDa e) nb⟩,λb xs h=>s b _ h,λb ob u h=>s b _ h⟩;refine⟨λi m ys H'=>m=ds.length-i/\i<=ds.length/\Same H1 H'/\H' Da=some (.lst ys)/\∃es,es.length<=i/\PP i es/\x6 X.K H' (λb=>b∉Da::o.map Prod.snd/\H1 b=none) es ys,
   ⟨_,rfl,Nat.zero_le _,yd hDa _,zu,[],zaj _,P0,rfl⟩,?_⟩
  rintro i m ys H' ⟨rfl,hi',s2,hD',es,le,pe,rp⟩;refine⟨hD',?_⟩;have hP':=I.keep _ _ _ _ hP (gD s2);by_cases hlt:i<ds.length
  ·have ed:ds[i]?=some ds[i]:=by simp[hlt]
   obtain⟨j1,j2⟩:=I.go H' _ i _ hP' ed;refine .inr ⟨j1,λzs H2=>Same H1 H2/\H2 Da=some (.lst zs)/\∃es,es.length<=i+1/\PP (i+1) es/\x6 X.K H2 (λb=>b∉Da::o.map Prod.snd/\H1 b=none) es zs,λzs H2 ⟨a1,a2,a3⟩=>⟨_,(by omega:ds.length-(i+1)<ds.length-i),rfl,hlt,a1,a2,a3⟩,λx H2 y=>?_⟩
   obtain⟨s3,rx⟩:=j2 x H2 y;have s13:=s2.trans s3;have hD2:=s3 _ _ hD';have RB:=j9 (n:=T.length) R1 nd hDa s13 hD2 T rfl;have hO:((T.length+js.length,Da)::o.map λp=>(ixO T.length js p.1,p.2)).map Prod.snd=Da::o.map Prod.snd:=by
    rw[List.map_cons,List.map_map];rfl
   have rpl:ys.length<=100000:=by
    rw[rp.length];omega
   refine hl H₀ H2 (st0 T js σ) (ρ0 T.length js ρ) _ _ x _ _ RB (by rw[hO];exact rx) (turn i _ es ed le pe) λρ' σ' R' q'=>?_
   refine⟨ρ',_,R',_,q',λc H3 s4 h4=>?_⟩;have hD3:=s4 _ _ hD2;cases c with
   |false =>
    exact iteF ⟨s13.trans s4,hD3,es,Nat.le_succ_of_le le,h4.2 rfl,x6.to (s3.trans s4) (λ_ z=>z) _ _ rp⟩
   |true =>
    refine iteT ⟨ρ',_,R'.to s4,_,h4.1 rfl,λv r H4 s5 rv h5=>?_⟩;have hD4:=s5 _ _ hD3;have rd:=rv.anew h5.1;rw[hO]at rd;have ne:∀b u,H1 b=some u->b≠Da:=λb u h=>zx h hDa;have gu:Grow (Da::o.map Prod.snd) (Da::o.map Prod.snd) H4 (upd H4 Da (.lst (ys++[v]))) :=
     ⟨λb u h n=>⟨by rw[zy (λz=>n (zam.mpr (.inl z)))];exact h,n⟩,λb xs h=>by rw[zy (λz=>by rw[z,hD4]at h;cases h)];exact h,λb ob u h=>by rw[zy (λz=>by rw[z,hD4]at h;cases h)];exact h⟩
    refine⟨hD4,Nat.lt_of_le_of_lt rpl (by decide),⟨λb u h=>?_,zu,es++[r.d],by rw[zLa];exact Nat.succ_le_succ le,h5.2,?_⟩⟩
    ·rw[zy (ne b u h)];exact s5 _ _ (s4 _ _ (s13 b u h))
    ·refine x6.append (x6.go (λb xs h=>gu.tups b xs h) (λb ob u h=>gu.frzs b ob u h) (λb u z h=>⟨(gu.keep b u h z.1).1,z⟩) _ _ (x6.to (s3.trans (s4.trans s5)) (λ_ z=>z) _ _ rp)) ⟨v,[],rfl,?_,rfl⟩;exact RepN.go (λb xs h=>gu.tups b xs h) (λb ob u h=>gu.frzs b ob u h) (λb u z h=>⟨(gu.keep b u h z.1).1,z.1,(s13.trans s4).free z.2⟩) _ _ rd
  ·have e:i=ds.length:=by omega
   subst e;refine .inl ⟨I.stop H' _ hP',?_⟩;exact k (.ref Da) ⟨.new,.lst es⟩ H' (s1.trans s2) ⟨Da,ys,rfl,hD',⟨R.ofree (s1.free hDa),s1.free hDa⟩,x6.to (Same.refl _) (λb z=>⟨λy=>z.1 (zal _ y),s1.free z.2⟩) _ _ rp⟩ (fin es pe)
def G0(hi:EI Γ X tg iter ti)(S:zm X.env.scope scope T F)(hjs:Paired (λx j=>X.N[j]?=some x) F js)(nd:js.Nodup)(hg:∀ cl C fp s H,PG (x5 X (T++F) scope cl C fp s H) tg g2)(hk:Z4 T.length g2)(hl:bu X.K g2 g)(ht:∀ cl C fp s H,EIf Γ (x5 X (T++F) scope cl C fp s H) ifs tc)(he:∀ cl C fp s H,ED Γ (x5 X (T++F) scope cl C fp s H) elt te)(hc:X.calm=true:=by rfl)(hs:∀ x,foldedSetIterable iter X.env x=pure x:=by intro _;rfl):ED Γ X (.ListComp elt [⟨tg,iter,ifs,0⟩] scope pos) (Lp ti T.length js g tc te):=λH₀ =>
 impE (Uq (tc:=dt X.K H₀.1 tc) (te:=vq X.K H₀.1 te) hc (hi H₀) S hjs hg hk (λcl C fp s H=>ht cl C fp s H H₀) (λcl C fp s H=>he cl C fp s H H₀) hs) (Qr nd hl)
def Lo{ti:TID}{n:Nat}{js:List Nat}{g:TGD}{tc:TDb}{te:TD}{ρ:DE}{φ:EV->Prop}(ds:List D)(h:∀ ψ:List D->Prop,ψ ds->ti ρ ψ)(P:Nat->List D->Prop)(hl:ds.length<=100000)(h0:P 0 [])(ht:∀ (i:Nat) (d:D) (es:List D),ds[i]?=some d->es.length<=i->P i es->g d (ρ0 n js ρ) λρ'=>tc ρ' λc=>(c=true->te ρ' λr=>u5 r/\P (i+1) (es++[r.d]))/\(c=false->P (i+1) es))(hφ:∀ es,P ds.length es->φ ⟨.new,.lst es⟩):Lp ti n js g tc te ρ φ:=h _ ⟨P,hl,h0,ht,hφ⟩
end
def cstD:Cst->D
 |.int i=>.int i
 |.str x=>.str x
 |.tup cs=>.cn (.tup cs)
def Yn:∀{c:Cst}{v:V},CRep K c v->Rep K H O (cstD c) v
 |.int _,_,h=>h
 |.str _,_,h=>h
 |.tup _,_,h=>h
def gm:∀{cs:List Cst}{xs:List V},Uc K cs xs->Reps K H O (cs.map cstD) xs
 |[],_,h=>h
 |c::cs,xs,h=>by
  obtain⟨v,r,e,q,t⟩:=h;exact⟨v,r,e,Yn q,gm t⟩
def Rx{cs:List Cst}{v:V}(h:CRep K (.tup cs) v):∃a xs,v=.ref a/\SqT K H a xs/\Uc K cs xs:=by
 obtain⟨a,o,its,n,xs,e,l,c,d,z,r,t⟩:=h;exact⟨a,xs,e,.inr ⟨o,its,n,l,c,d,z,r⟩,t⟩
def jh:∀ws:List Str,Uc K (ws.map Cst.str) (ws.map V.str)
 |[]=>rfl
 |w::ws=>⟨_,_,rfl,rfl,jh ws⟩
def cx:∀{cs:List Cst}{xs:List V},Uc K cs xs->xs.length=cs.length
 |[],_,h=>by cases (show _=[] from h);rfl
 |c::cs,xs,h=>by
  obtain⟨v,r,e,q,t⟩:=h;subst e;simp[cx t]
def Re{K:W.Frag}{mg:Str->Option Value}{x:Str}{a:Addr}{o:Obj}{its:Array Value}{n:Nat}{ws:List Str}(hm:mg x=some (.ref a))(hl:K.lookup a=some o)(hc:o.cls=.type "tuple")(hd:o.data=.seq its n)(hs:its.size<=sizeLine)(hv:Vals (ws.map V.str) its.toList) :
  GC K mg x (.cn (.tup (ws.map Cst.str))):=⟨.ref a,.ref a,hm,rfl,λ_ _=>⟨a,o,its,n,_,rfl,hl,hc,hd,hs,hv,jh ws⟩⟩
def G7(ws:List Str):(ws.map Cst.str).map cstD=ws.map D.str:=by
 rw[List.map_map];rfl
def dd(l:List Str)(k:Str):List Str:=if k∈l then l else l++[k]
def fm(val:Nat->Str)(i:Nat):List Str:=((List.range i).map val).foldl dd []
def Mw(val:Nat->Str)(i:Nat):fm val (i+1)=dd (fm val i) (val i):=by
 unfold fm;rw[List.range_succ,zMa,List.foldl_append];rfl
def z1j{l:List Str}{k x:Str}:x∈dd l k ↔ x∈l\/x=k:=by
 unfold dd;split
 ·rename_i h;exact⟨.inl,λq=>q.elim (λz=>z) λz=>z▸h⟩
 ·rw[zas,List.mem_singleton]
def Fk(l:List Str)(k:Str):(dd l k).length=if k∈l then l.length else l.length+1:=by
 unfold dd;split <;> simp
def fold_dd_le:∀(l acc:List Str),(l.foldl dd acc).length<=acc.length+l.length
 |[],acc=>zaj _
 |x::r,acc=>by
  have q:=fold_dd_le r (dd acc x);have z:=Fk acc x;rw[List.foldl_cons,zLc];split at z <;> omega
theorem Zt:∀(l acc:List Str),((l.foldl dd acc).length=acc.length+l.length) ↔ (l.Nodup/\∀x∈l,x∉acc)
 |[],acc=>by simp
 |x::r,acc=>by
  rw[List.foldl_cons,zLc,List.nodup_cons];by_cases h:x∈acc
  ·have e:dd acc x=acc:=by unfold dd;rw[if_pos h]
   rw[e];have q:=fold_dd_le r acc;constructor
   ·intro z;omega
   ·intro z;exact absurd h (z.2 x (zao ..))
  ·have e:dd acc x=acc++[x]:=by unfold dd;rw[if_neg h]
   have q:=Zt r (acc++[x]);rw[e];rw[zLa,List.length_singleton]at q;constructor
   ·intro z;obtain⟨n1,n2⟩:=q.mp (by omega)
    refine⟨⟨λhx=>n2 x hx (by simp),n1⟩,λy hy=>?_⟩
    rcases zam.mp hy with rfl|hy
    ·exact h
    ·exact λz=>n2 y hy (List.mem_append_left _ z)
   ·rintro⟨⟨n0,n1⟩,n2⟩;have:=q.mpr ⟨n1,λy hy z=>by
     rcases zas.mp z with z|z
     ·exact n2 y (zal _ hy) z
     ·rw[List.mem_singleton]at z;subst z;exact n0 hy⟩
    omega
def many(l:List Str):Nat:=(l.foldl dd []).length
def many_eq(l:List Str):many l=l.length ↔ l.Nodup:=by
 have q:=Zt l [];unfold many;rw[zLn,Nat.zero_add]at q;rw[q];exact⟨λz=>z.1,λz=>⟨z,λ_ _ h=>(by cases h)⟩⟩
def z4j(val:Nat->Str)(i:Nat):(fm val i).length<=i:=by
 have:=fold_dd_le ((List.range i).map val) [];unfold fm;simpa using this
def Se{P:Program}{w:World}{h:Heap}{a:Addr}{S S':Str->Bool}{n n':Nat}(q:h.SetOf (strKind P w) a S n)(e:∀ k,S k=S' k)(en:n=n'):h.SetOf (strKind P w) a S' n':=by
 have z:S=S':=funext e;subst z en;exact q
section
variable{R:Result->Shared->Prop}{it:Addr}{fp wr:List Addr}{G:Array GenState->Array GenState->Prop}{n:Nat}{Pv:Nat->Value->Prop}{St:Nat->Shared->Prop}
def Ky(W:WalksS P w A.in1 it fp wr G n Pv St)(d:Addr)(hd:d∉fp)(val:Nat->Str)(hv:∀ i v,Pv i v->∃ t,v=.str (val i) t)(hb:n+1<scanBound) :
  ∀(k i:Nat)(s:Shared),n-i=k->i<=n->St i s->s.heap.SetOf (strKind P w) d (λx=>decide (x∈fm val i)) (fm val i).length ->
   (∀z,Moved (d::wr) G s z->z.heap.SetOf (strKind P w) d (λx=>decide (x∈fm val n)) (fm val n).length->R (.ok (.ret .none)) z) ->
   codeAny (model P w) A (.builtin "set.update.loop" ⟨[.ref d,.ref it],[]⟩) R s:=by
 have hdw:d∉wr:=λh=>hd (W.sub _ h);have sub:∀b∈wr,b∈d::wr:=λb hb=>zal _ hb;intro k
 induction k with
 |zero =>
  intro i s hk hi st q hR;have e:i=n:=by omega
  subst e;refine codeAny_builtin F.entry_set_update_loop ?_;rw[Around.under_plainId F.plain_set_update_loop _];show wpAny _ A.in1 (pyNext (.ref it) >>= _) _ _ s;refine zaa (W.done s _ _ st λz hm=>?_);show wpAny _ A.in1 (ret Value.none) _ _ z;refine zab (hR z (hm.mono sub) ?_);obtain⟨o,es,ep,t,ho,more⟩:=q;exact⟨o,es,ep,t,hm.heap d _ hdw ho,more⟩
 |succ k ih =>
  intro i s hk hi st q hR;have lt:i<n:=by omega
  refine codeAny_builtin F.entry_set_update_loop ?_;rw[Around.under_plainId F.plain_set_update_loop _];show wpAny _ A.in1 (pyNext (.ref it) >>= _) _ _ s;refine zaa (W.item i s _ _ lt st λv z hP st2 hm=>?_);obtain⟨t,rfl⟩:=hv i v hP;have q2:z.heap.SetOf (strKind P w) d (λx=>decide (x∈fm val i)) (fm val i).length:=by
   obtain⟨o,es,ep,tb,ho,more⟩:=q;exact⟨o,es,ep,tb,hm.heap d _ hdw ho,more⟩
  show wpAny _ A.in1 (holding [Value.str (val i) t] (setAdd d (.str (val i) t)) >>= _) _ _ z;refine zaa (wpAny_holding ?_);unfold setAdd;refine wpAny_holding (zaa ((strKind P w).pyHash (k:=val i) (dz (val i) t) ?_));have room:(fm val i).length+1<scanBound:=by have:=z4j val i;omega
  refine wpAny_setAddHashed_of (knd:=strKind P w) (s:={z with toks:=z.toks+1}) (dz (val i) t) rfl q2 room λh1 sb q3=>?_;have q4:h1.SetOf (strKind P w) d (λx=>decide (x∈fm val (i+1))) (fm val (i+1)).length :=
   Se q3 (λx=>by rw[Mw,Bool.eq_iff_iff];simp[z1j]) (by rw[Mw,Fk];simp)
  refine zab ⟨plainId_quiet F.plain_set_update_loop _,ih (i+1) _ (by omega) lt (W.frame _ z _ _ st2 (Nat.le_succ _) λb hb o e=>?_) q4 λy hm2 q5=>?_⟩
  ·rw[sb.2 b λh=>hd (by rw[<- h];exact hb)];exact e
  ·refine hR y (Moved.trans W.gtrans ((hm.mono sub).then_heap (Nat.le_succ _) λb o hb e=>?_) hm2) q5;rw[sb.2 b λh=>hb (by rw[h];exact zao)];exact e
end
def Kx{l:Addr}{its:Array Value}{val:Nat->Str}{Q:Value->Shared->Prop}(hh:A.handled=none)(hl:s.heap.IsList l its)(hv:∀ (i:Nat) (v:Value),its[i]?=some v->∃ t,v=.str (val i) t)(hb:its.size+1<scanBound)(h:∀ (g:Heap) (tk:Nat),g.SetOf (strKind P w) s.heap.objs.size (λx=>decide (x∈fm val its.size)) (fm val its.size).length->(∀ b o,s.heap.get? b=some o->g.get? b=some o)->Q (.ref s.heap.objs.size) {s with heap:=g,toks:=tk}) :
  wpAny (model P w) A (call (.type "set") [.ref l]) Q E s:=by
 obtain⟨c,tl,hmro⟩:=F.called_set.mro;have hmade:=F.called_set.made;have hsub:=F.called_set.sub;refine wpAny_call (codeAny_of_tree ?_);show wpAny _ _ (callAny (.type "set") _) _ _ _;refine zab ⟨Code.quiet_builtin _ (by decide +kernel),codeAny_builtin F.entry_type_call ?_⟩
 rw[Around.under_plain (weight_type_call_type "set" [.ref l] []) rfl];have n1:=F.called_set.notType;have n2:=F.called_set.canCreate;have n3:=F.typeCall_set_1 (.ref l)
 repeat (any_goals (first|assumption|wp_step))
 refine codeAny_mono (code_set_new_1 (.ref l) (E:=E) (Q₁:=λobj z=>∃led:Bool,obj=.ref s.heap.objs.size/\z={s with heap:=s.heap.push {cls:=.type "set",dict:=none,data:=.set #[] 0 (.fresh 0 0 led)}}) λled=>⟨led,rfl,rfl⟩) λr z hr=>?_;cases r with
 |error e=>exact hr
 |ok fl =>
  cases fl with
  |ret obj =>
   obtain⟨led,rfl,rfl⟩:=hr;have there:(s.heap.push {cls:=.type "set",dict:=none,data:=.set #[] 0 (.fresh 0 0 led)}).get? s.heap.objs.size=some {cls:=.type "set",dict:=none,data:=.set #[] 0 (.fresh 0 0 led)}:=zad _ rfl;have ty:Shared.TypeIs {s with heap:=s.heap.push {cls:=.type "set",dict:=none,data:=.set #[] 0 (.fresh 0 0 led)}} (.ref s.heap.objs.size) "set":=⟨_,there,rfl⟩;have i1:=F.called_set.init.lookup;have i2:=F.called_set.init.bind (.ref s.heap.objs.size)
   repeat (any_goals (first|assumption|wp_step))
   refine codeAny_mono (codeAny_call_builtin (R:=wants (λr z=>r=.none/\∃g tk,z={s with heap:=g,toks:=tk}/\g.SetOf (strKind P w) s.heap.objs.size (λx=>decide (x∈fm val its.size)) (fm val its.size).length /\
     (∀b o,s.heap.get? b=some o->g.get? b=some o)) E) F.called_set.init.plain F.entry_set_init (check_set_init_1 ty ?_)) λr2 z2 hr2=>?_
   ·obtain⟨ol,hol,hcl,nl,hdl⟩:=hl;obtain⟨ocls,odict,odata,oslots⟩:=ol;simp only at hcl hdl;subst hcl hdl;have hol2:(s.heap.push {cls:=.type "set",dict:=none,data:=.set #[] 0 (.fresh 0 0 led)}).get? l=some {cls:=.type "list",dict:=odict,data:=.seq its nl,slots:=oslots}:=zac _ hol;have b1:=F.sub_list_set;have b2:=F.sub_list_frozenset;have b3:(Value.type "list"==Value.type "dict")=false:=by decide
    have hl2:(s.heap.push {cls:=.type "set",dict:=none,data:=.set #[] 0 (.fresh 0 0 led)}).IsList l its:=⟨_,hol2,rfl,nl,rfl⟩;unfold Builtin.«set.__init__» noKeywords Builtin.Frozenset.updateFrom;generalize hPI:pyIter=PI;wp_walk;subst hPI;refine wpAny_pyIter_list hl2 ?_;refine zaa (wpAny_runValue ?_);have ll:l<s.heap.objs.size:=zae hol;have hh3:A.in1.in1.in1.handled=none:=by simp[hh]
    have lne:l≠(s.heap.push {cls:=.type "set",dict:=none,data:=.set #[] 0 (.fresh 0 0 led)}).objs.size:=by
     rw[Heap.size_push];exact Nat.ne_of_lt (Nat.lt_succ_of_lt ll)
    have dn:s.heap.objs.size∉[(s.heap.push {cls:=.type "set",dict:=none,data:=.set #[] 0 (.fresh 0 0 led)}).objs.size,l]:=by
     rw[Heap.size_push];simp only[zam,List.mem_singleton,List.not_mem_nil,or_false,not_or];exact⟨Nat.ne_of_lt (Nat.lt_succ_self _),Nat.ne_of_gt ll⟩
    refine Ky ((Walks.list hh3 _ l lne its).toS) s.heap.objs.size dn val (λi v hx=>hv i v hx) hb (its.size-0) 0 _ (by omega) (Nat.zero_le _) ⟨⟨_,zad _ rfl,rfl,rfl⟩,(hl2.push _)⟩ ?first ?last
    case first =>
     have e1:((s.heap.push {cls:=.type "set",dict:=none,data:=.set #[] 0 (.fresh 0 0 led)}).push {cls:=.type "list_iterator",data:=.fields #[.ref l,.int 0 0]}).get? s.heap.objs.size
       = some {cls:=.type "set",dict:=none,data:=.set #[] 0 (.fresh 0 0 led)}:=zac _ there
     exact Se ((setObjOf_fresh (knd:=strKind P w) led).setOf e1 (by unfold scanBound;omega)) (λx=>by simp[fm]) rfl
    case last =>
     intro z hm q;obtain⟨g,g',d',tk',os'⟩:=z;have eg:g'=s.gens:=hm.gens;have ed:d'=s.drawn:=hm.drawn;have eo:os'=s.os:=hm.os;subst eg ed eo;show wpAny _ _ _ _ _ _;refine zab ?_;show wpAny _ _ (ret Value.none) _ _ _;refine zab ⟨rfl,g,tk',rfl,q,λb o e=>?_⟩;have lb:=zae e;have c1:b≠s.heap.objs.size:=Nat.ne_of_lt lb;have c2:b≠(s.heap.push {cls:=.type "set",dict:=none,data:=.set #[] 0 (.fresh 0 0 led)}).objs.size:=by
      rw[Heap.size_push];exact Nat.ne_of_lt (Nat.lt_succ_of_lt lb)
     exact hm.heap b o (by simp only[zam,List.mem_singleton,List.not_mem_nil,or_false,not_or];exact⟨c1,c2⟩) (zac _ (zac _ e))
   ·cases r2 with
    |error e=>exact hr2
    |ok f2 =>
     cases f2 with
     |ret r =>
      obtain⟨rfl,g,tk,rfl,q,kp⟩:=hr2
      repeat (any_goals (first|assumption|wp_step))
      exact h _ _ q kp
     |_=>exact hr2.elim
  |_=>exact hr.elim
def setO(P:Program)(w:World)(a:Addr)(n:Nat):HO:=.ext λh=>∃S,h.SetOf (strKind P w) a S n
def Pr:∀{ns:List Str}{us:List Value},Vals (ns.map V.str) us->∀(i:Nat)(v:Value),us[i]?=some v->∃t,v=.str (ns.getD i "") t
 |[],_,.nil,i,v,e=>by simp at e
 |n::ns,_,.cons r t,0,v,e=>by
  obtain⟨t',rfl⟩:=r;simp at e;exact⟨t',by rw[<- e];rfl⟩
 |n::ns,_,.cons r t,i+1,v,e=>by
  obtain⟨t',q⟩:=Pr (ns:=ns) t i v (by simpa using e)
  exact⟨t',by rw[q];rfl⟩
def z2d(ns:List Str):fm (λi=>ns.getD i "") ns.length=ns.foldl dd []:=by
 unfold fm
 congr 1
 apply List.ext_getElem
 ·simp
 ·intro i h1 h2;simp only[List.getElem_map,List.getElem_range,zaq];rw[zaf h2,Option.getD_some]
def call_set_strs(hc:X.calm=true):vt X (.type "set") (λxs H Q=>∃p ns,xs=[.ref p]/\SqL X.K H p (ns.map V.str)/\ns.length<=1000/\∀l,H l=none->Q (.ref l) (upd H l (setO X.prog X.w l (many ns)))):=by
 intro pn s σ H xs us Q I r h;obtain⟨p,ns,rfl,hq,hn,q⟩:=h;obtain⟨u,rfl,rx⟩:=uy r;cases rx;obtain⟨its,rv,pl,hz⟩:=I.list hq;have hlen:its.length=ns.length:=by have:=rv.length;rw[zLm]at this;exact this.symm
 refine Kx (val:=λi=>ns.getD i "") (I.ok.hd hc) pl.isList (λi v e=>Pr rv i v (by simpa using e)) (by rw[zap,hlen];unfold scanBound;omega) λg tk qs kp=>?_
 have ez:its.toArray.size=ns.length:=by rw[zap];exact hlen
 rw[ez,z2d]at qs;refine⟨.ref s.heap.objs.size,_,I.laid (t':=tk) kp (zaj _) ?_,rfl,q _ I.fresh⟩;obtain⟨o,es,ep,t,ho,more⟩:=id qs;refine⟨⟨_,qs⟩,⟨o,ho⟩,λh1 h2 z k=>?_⟩;obtain⟨S,o,es,ep,t,ho,more⟩:=z;exact⟨S,o,es,ep,t,k o ho,more⟩
def call_len_setO:vt X (.builtin "len") (λxs H Q=>∃p n,xs=[.ref p]/\H p=some (setO X.prog X.w p n)/\n<=1000/\Q (.int n) H):=by
 intro pn s σ H xs us Q I r h;obtain⟨p,n,rfl,hp,hn,q⟩:=h;obtain⟨u,rfl,rx⟩:=uy r;cases rx;obtain⟨⟨S,o,es,ep,t,ho,hex,hd,_,_,_,hf,hsz⟩,_⟩:=I.hok p _ hp;refine call_len_set ho hex hd hf (by rw[hsz];omega) ⟨.int n,H,I.tok _,⟨_,by rw[hsz]⟩,q⟩
def uo:entryFor table "dict.update.loop" = some Builtin.«dict.update.loop»:=entryFor_of_tree (by kernel_rfl)
def xu:plainId "dict.update.loop" = true:=by decide +kernel
def Qm:typeLookup (.type "tuple") "keys" = pure none:=am_miss_of_fast (by kernel_rfl)
def Ex(u:Value):Prop:=∃y:V,RelV y u
def Qu{a:Addr}{o:Obj}{xs:Array Value}{k:Nat}{Q:Option Value->Shared->Prop}(hx:s.heap.get? a=some o)(hc:o.cls=.type "tuple")(hdat:o.data=.seq xs k)(hd:o.dict=none)(hA:A.handled=none)(h:∀ g tk,(∀ b u,s.heap.get? b=some u->g.get? b=some u)->Q none {s with heap:=g,toks:=tk}):wpAny (model P w) A (getAttr? (.ref a) "keys") Q E s:=by
 obtain⟨c,dct,dat,sl⟩:=o;simp only at hc hdat hd;subst hc hdat hd;obtain⟨hp,g,d,tk,os⟩:=s;have hT:∀tk',(⟨hp,g,d,tk',os⟩:Shared).TypeIs (.ref a) "tuple":=λ_=>⟨_,hx,rfl⟩;have f1:=sub_AttributeError;have f3:=F.slot_tuple_getattribute.lookup;have f4:=F.slot_tuple_getattribute.bind (.ref a);have f5:=am_tuple_getattr_none;unfold getAttr? getAttrBy? getAttrBy
 repeat (any_goals (first|assumption|exact hT _|((with_reducible show wpAny _ _ (call (Value.builtin "tuple.__getattribute__") _ _) _ _ _);refine call_meets F.slot_tuple_getattribute (hT _) am_entry_tuple_getattribute (F.args_tuple_getattribute_2 _ _) (meets_getattribute_miss_tuple a xs k sl "keys" _ Qm (by decide)) ⟨hx,hA,λh' tk' e hx'=>?_⟩)|wp_step))
 obtain⟨t',u',he⟩:=hx'.there;have hE:∀tk'',(⟨h',g,d,tk'',os⟩:Shared).TypeIs (.ref e) "AttributeError":=λ_=>⟨_,he,rfl⟩;show wpAny _ _ (getattributeRaised _ _ _ _ _ _ _) _ _ _;unfold getattributeRaised
 repeat (any_goals (first|assumption|exact hE _|wp_step))
 exact h _ _ hx'.keeps
def tupD{pn:List (Addr×Obj)}{σ:St}{H:Hp}{s:Shared}{p:Addr}{ys:List V}(I:Inv X pn σ H s)(h:H p=some (.tup ys)):∃(its:List Value)(o:Obj)(n:Nat),Vals ys its/\s.heap.get? p=some o/\o.cls=.type "tuple"/\o.data=.seq its.toArray n/\o.dict=none:=by
 obtain⟨_,its,r,⟨o,ho,hc,n,hd⟩,o2,ho2,d2⟩:=I.hok p _ h;rw[ho]at ho2;cases ho2;exact⟨its,o,n,r,ho,hc,hd,d2⟩
structure ZAt1(g:Heap)(z ti to i1 i2 l1 l2:Addr)(f:Value)(k:Nat):Prop where
 zz:IsZip g z ti to f
 its:IsPair g ti (.ref i1) (.ref i2)
 out:∃a b,IsPair g to a b
 one:g.IsTupleIter i1 l1 k
 two:g.IsListIter i2 l2 k
structure ZNe1(z ti to i1 i2:Addr):Prop where
 ab:ti≠z
 ac:to≠z
 ad:i1≠z
 ae:i2≠z
 bc:ti≠to
 bd:ti≠i1
 be:ti≠i2
 cd:to≠i1
 ce:to≠i2
 de:i1≠i2
structure TopDict(P:Program)(w:World)(K:W.Frag)(a:Addr)(f:Str->Option Value):Prop where
 at_:∃es ep,K.lookup a=some {cls:=.type "dict",data:=.dict es ep}/\KeysOf (strKind P w) es/\∀k,findBy (strKind P w).is es k=f k
 ne:(a==sysModules)=false
variable{f:Str->Option Value}
def TopDict.map(T:TopDict X.prog X.w X.K a f)(I:Inv X pn σ H s):s.heap.MapOf (strKind X.prog X.w) a f:=by
 obtain⟨es,ep,lk,hk,hf⟩:=T.at_;exact⟨_,es,ep,I.kIn a _ lk,⟨rfl,rfl,rfl⟩,rfl,hk,hf⟩
def isStr_self{P:Program}{w:World}(x:Str)(t:Tok):(strKind P w).is x (.str x t)=true:=by show Value.isStrOf x (.str x t)=true;simp[Value.isStrOf]
def op_notInTop(T:TopDict X.prog X.w X.K a f):OpR X (compareOp .NotIn) (λx y H Q=>∃z,x=.str z/\y=.ref a/\Q (.bl (!(f z).isSome)) H):=by
 intro pn s σ H x y v u Q I rx ry h;obtain⟨z,rfl,rfl,q⟩:=h;obtain⟨t,rfl⟩:=rx;cases ry;exact wpAny_notIn_of (isStr_self z t) T.ne (T.map I) ⟨.bl _,H,I.tok _,rfl,q⟩
def ix_top(T:TopDict X.prog X.w X.K a f):IxR X (λx y H Q=>∃z v u,x=.ref a/\y=.str z/\f z=some u/\RelV v u/\Q v H):=by
 intro value slice pn s σ H x y v u Q I rx ry h hs;obtain⟨z,v',u',rfl,rfl,hf,rv,q⟩:=h;cases rx;obtain⟨t,rfl⟩:=ry;have m:=T.map I;exact tail_any m.typeIs PySem.F.slot_dict_getitem.lookup (wpAny_getItem_of (isStr_self z t) m hf ⟨v',H,I.tok _,rv,q⟩) hs
variable{a:Expr}{td:TD}
def z2t(td tk:TD):TD:=λρ φ=>td ρ λr=>match r.d with
 | .dk ks ds=>tk ρ λy=>(match keyD y.d with
  |some k=>φ (dv ((ud ks ds k).getD .non))
  | none=>False)
 |_=>False
def Lc(hu:X.A.units+64<cLine)(ho:ED Γ X o td)(he:ED Γ X e te)(m:M1 X o "get" apos e cpos:=by exact⟨rfl,rfl,rfl,rfl⟩):ED Γ X (.Call (.Attribute o "get" apos) [e] [] cpos) (z2t td te):=λH₀ =>
 impE (Jj (by omega) (ho H₀) (he H₀) m) λσ H Q q=>by
  obtain⟨ρ,o,R,φ,hφ,kk⟩:=q;refine⟨ρ,o,R,_,hφ,λv r H1 s1 rv h1=>?_⟩;obtain⟨kd,d⟩:=r;cases d with
  |dk ks ds =>
   obtain⟨a,xs,rfl,q,l,nd,rp⟩:=rv.view;refine⟨a,rfl,.inl ⟨_,.inl q⟩,ρ,o,R.to s1,_,h1,λv2 r2 H2 s2 rv2 h2=>?_⟩;split at h2
   ·rename_i k ek;have q3:=s2 _ _ q;have hk:v2=kV k:=X0 rv2.view ek;subst hk;have rp3:=Reps.grow (Grow.same s2) _ _ rp;refine⟨_,DGet.k q3,?_⟩;rw[gd];have s13:=s1.trans s2;cases el:ud ks ds k with
    |none =>
     rw[(qp (ks:=ks) (k:=k) rp3).2 el];rw[el]at h2;exact kk _ (dv .non) H2 s13 (by exact rfl) h2
    |some d =>
     obtain⟨w,ew,rw⟩:=(qp (ks:=ks) (k:=k) rp3).1 d el;rw[ew];rw[el]at h2;exact kk _ _ H2 s13 (RV.val rw) h2
   ·exact h2.elim
  |_=>exact h1.elim
def tabL:List (Str×Cst)->Str->Option Cst
 |[],_=>none
 |(k,c)::r,z=>if z=k then some c else tabL r z
structure GT(P:Program)(w:World)(K:W.Frag)(mg:Str->Option Value)(x:Str)(tab:List (Str×Cst)):Prop where
 ex:∃a f,mg x=some (.ref a)/\ZZ.TopDict P w K a f/\(∀z,tabL tab z=none->f z=none)/\∀z c,tabL tab z=some c->∃u v,f z=some u/\RelV v u/\CRep K c v
def Lk(tab:List (Str×Cst))(ta:TD):TD:=λρ φ=>ta ρ λr=>match r.d with
 |.str z=>φ (dv (.bl (!(tabL tab z).isSome)))
 |_=>False
def z1i{P:Program}{w:World}{K:W.Frag}{f:Str->Option Value}{tab:List (Str×Cst)}(h1:∀ z,tabL tab z=none->f z=none)(h2:∀ z c,tabL tab z=some c->∃ u v,f z=some u/\RelV v u/\CRep K c v)(z:Str):(f z).isSome=(tabL tab z).isSome:=by
 cases e:tabL tab z with
 |none=>rw[h1 z e];rfl
 |some c =>
  obtain⟨u,v,e',_⟩:=h2 z c e;rw[e'];rfl
def Vo{x:Str}{p:Pos}{tab:List (Str×Cst)}(G:GT X.prog X.w X.K X.mg x tab)(ha:ED Γ X a ta)(hg:Gl X x:=by rfl)(hd:(x==("__debug__" : Str))=false:=by decide)(hm:behindInMarks .NotIn (.Name x p)=false:=by with_unfolding_all rfl):ET Γ X (.Compare a [.NotIn] [.Name x p] pos) (tBo (Lk tab ta)):=λH₀=>by
 obtain⟨t,f,hmx,T,h1,h2⟩:=G.ex;refine impT (rq (ZZ.op_notInTop T) (ha H₀) (Yu hg hmx (v:=.ref t) rfl hd) hm) λσ H Q q=>?_;obtain⟨ρ,o,R,φ,hφ,kk⟩:=q;refine⟨ρ,o,R,_,hφ,λv r H1 s1 rv hh=>?_⟩;obtain⟨kd,d⟩:=r;cases d with
 |str z =>
  cases (show v=_ from rv.view)
  refine⟨z,rfl,rfl,_,rfl,?_⟩;rw[z1i (P:=X.prog) (w:=X.w) h1 h2];exact kk _ H1 s1 hh
 |_=>exact hh.elim
def E6(tab:List (Str×Cst))(ta:TD):TD:=λρ φ=>ta ρ λr=>match r.d with
 | .str z=>(match tabL tab z with
  |some c=>φ (dv (cstD c))
  | none=>False)
 |_=>False
def fc{x:Str}{p:Pos}{tab:List (Str×Cst)}(G:GT X.prog X.w X.K X.mg x tab)(ha:ED Γ X a ta)(hg:Gl X x:=by rfl)(hd:(x==("__debug__" : Str))=false:=by decide)(hs:jm a:=by intro _ _;rfl):ED Γ X (.Subscript (.Name x p) a pos) (E6 tab ta):=λH₀=>by
 obtain⟨t,f,hmx,T,h1,h2⟩:=G.ex;refine impE (Wj (ZZ.ix_top T) (Yu hg hmx (v:=.ref t) rfl hd) (ha H₀) hs) λσ H Q q=>?_;obtain⟨ρ,o,R,φ,hφ,kk⟩:=q;refine⟨ρ,o,R,_,hφ,λv r H1 s1 rv hh=>?_⟩;obtain⟨kd,d⟩:=r;cases d with
 |str z =>
  cases (show v=_ from rv.view)
  dsimp only at hh
  split at hh
  ·rename_i c ec;obtain⟨u,w,e',rw',cr⟩:=h2 z c ec;exact⟨z,w,u,rfl,rfl,e',rw',kk _ _ H1 s1 (RV.val (Yn cr)) hh⟩
  ·exact hh.elim
 |_=>exact hh.elim
def sIxC:D->D->(EV->Prop)->Prop:=λx y φ=>match x,y with
 | .cn (.tup cs),.int i=>(match atI cs i with
  |some c=>φ (dv (cstD c))
  | none=>False)
 |_,_=>False
def K3{K:W.Frag}{cs:List Cst}{xs:List V}{i:Int}{c:Cst}(r:Uc K cs xs)(h:atI cs i=some c):∃v,atI xs i=some v/\CRep K c v:=by
 unfold atI at h ⊢;rw[cx r];cases e:ixN cs.length i with
 |none=>rw[e]at h;cases h
 |some j =>
  rw[e]at h;have get:∀{cs:List Cst}{xs:List V}{j:Nat},Uc K cs xs->cs[j]?=some c->∃v,xs[j]?=some v/\CRep K c v:=by
   intro cs
   induction cs with
   |nil=>intro xs j _ h;simp at h
   |cons c0 cs ih =>
    intro xs j r h;obtain⟨v,ws,rfl,q,t⟩:=r;cases j with
    |zero =>
     simp at h;subst h;exact⟨v,rfl,q⟩
    |succ j =>
     obtain⟨v',h1,h2⟩:=ih (xs:=ws) (j:=j) t (by simpa using h)
     exact⟨v',by simpa using h1,h2⟩
  exact get r h
def Ju:qh X.K (rIx X.K) sIxC:=by
 intro H O x y vx vy φ Q ho hx hy h k;unfold sIxC at h;split at h
 ·rename_i cs i;obtain⟨a,xs,rfl,q,cr⟩:=Rx (H:=H) (show CRep X.K (.tup cs) vx from hx);split at h
  ·rename_i c ec;obtain⟨v,ev,rv⟩:=K3 cr ec;exact .inr (.inl ⟨a,xs,_,v,rfl,hy,q,ev,k _ _ H (Same.refl H) (RV.val (Yn rv)) h⟩)
  ·exact h.elim
 ·exact h.elim
def E2(ha:ED Γ X a ta)(hb:ED Γ X b tb)(hs:jm b:=by intro _ _;rfl):ED Γ X (.Subscript a b pos) (d2 sIxC ta tb):=λH₀=>impE (Wj Ml (ha H₀) (hb H₀) hs) (Md Ju)
def sInC(neg:Bool):D->D->(EV->Prop)->Prop:=λx y φ=>match y with
 |.cn (.tup cs)=>ca x=true/\(cs.map cstD).all ca=true/\φ (dv (.bl (if neg then !inD x (cs.map cstD) else inD x (cs.map cstD))))
 |_=>False
def Yx{neg:Bool}:qh X.K (rIn X.K neg) (sInC neg):=by
 intro H O x y vx vy φ Q ho hx hy h k;unfold sInC at h;split at h
 ·rename_i cs;obtain⟨f1,f2,h⟩:=h;obtain⟨a,xs,rfl,q,cr⟩:=Rx (H:=H) (show CRep X.K (.tup cs) vy from hy);obtain⟨g1,g2⟩:=X7 hx f1 (gm cr) f2;refine⟨a,xs,rfl,.inr q,(k6 hx f1).1,g1,?_⟩;rw[g2];exact k _ _ H (Same.refl H) (by exact rfl) h
 ·exact h.elim
def z2m(ha:ED Γ X a ta)(hb:ED Γ X b tb)(hm:behindInMarks .In b=false:=by with_unfolding_all rfl):ED Γ X (.Compare a [.In] [b] pos) (d2 (sInC false) ta tb):=cq qt Yx ha hb hm
def z2h(ha:ED Γ X a ta)(hb:ED Γ X b tb)(hm:behindInMarks .In b=false:=by with_unfolding_all rfl):ET Γ X (.Compare a [.In] [b] pos) (tBo (d2 (sInC false) ta tb)):=k9 qt Yx ha hb hm
section
variable{R:Result->Shared->Prop}{it d:Addr}{fp wr:List Addr}{n:Nat}{Pv:Nat->Value->Prop}{St:Nat->Heap->Prop}{h0:Heap}
def P8{more:List (Key×Value)}(hml:more.length=n)(hnd:(more.map (·.1)).Nodup)(W:Walks P w A.in1 it fp wr n Pv St)(hd:d∉fp)(hn:n<=1000)(hv:∀ i v,Pv i v->∃ a o k x t u,v=.ref a/\a≠d/\a∉wr/\h0.get? a=some o/\o.cls=.type "tuple"/\o.data=.seq #[.str x t,u] k/\more[i]?=some (Sum.inr x,u)) :
  ∀(k i:Nat)(s:Shared)(tk:Tok),n-i=k->i<=n->St i s.heap->(∀b o,b≠d->b∉wr->h0.get? b=some o->s.heap.get? b=some o)->s.heap.DictOf (yx P w) d (more.take i) ->
   (∀g tk,g.DictOf (yx P w) d more->(∀b o,b≠d->b∉wr->h0.get? b=some o->g.get? b=some o)->R (.ok (.ret .none)) {s with heap:=g,toks:=tk}) ->
   codeAny (model P w) A (.builtin "dict.update.loop" ⟨[.ref d,.ref it,.int i tk,.none],[]⟩) R s:=by
 have hdw:d∉wr:=λh=>hd (W.sub _ h);intro k
 induction k with
 |zero =>
  intro i s tk hk hi st hold q hR;have e:i=n:=by omega
  subst e;refine codeAny_builtin uo ?_;rw[Around.under_plainId xu _];show wpAny _ A.in1 (pyNext (.ref it) >>= _) _ _ s;refine zaa (W.done s _ _ st λg tk2 kp=>?_);show wpAny _ A.in1 (Builtin.Dict.addKeywords d [] >>= _) _ _ _;refine zaa (zab (zab (hR g tk2 ?_ λb o h1 h2 e=>kp b o h2 (hold b o h1 h2 e))));rw[List.take_of_length_le (by omega)]at q
  obtain⟨o,es,ep,ho,mm⟩:=q;exact⟨o,es,ep,kp d o hdw ho,mm⟩
 |succ k ih =>
  intro i s tk hk hi st hold q hR;have lt:i<n:=by omega
  refine codeAny_builtin uo ?_;rw[Around.under_plainId xu _];show wpAny _ A.in1 (pyNext (.ref it) >>= _) _ _ s;refine zaa (W.item i s _ _ lt st λv g tk2 hP st2 kp=>?_);obtain⟨a,o,c,x,t,u,rfl,had,haw,ho,hoc,hod,hm⟩:=hv i v hP;have ho2:g.get? a=some o:=kp a o haw (hold a o had haw ho);have q2:g.DictOf (yx P w) d (more.take i):=by
   obtain⟨o',es,ep,ho',mm⟩:=q;exact⟨o',es,ep,kp d o' hdw ho',mm⟩
  have hnew:(Sum.inr x:Key)∉(more.take i).map (·.1):=by
   have e:more.take (i+1)=more.take i++[(Sum.inr x,u)]:=by rw[List.take_succ,hm];rfl
   have h4:((more.take (i+1)).map (·.1)).Nodup:=hnd.sublist ((List.take_sublist _ _).map _);rw[e,zMa,List.nodup_append]at h4;intro z;exact h4.2.2 _ z (Sum.inr x) (by simp) rfl
  show wpAny _ A.in1 (holding [Value.ref a] _ >>= _) _ _ _;refine zaa (wpAny_holding (zaa (wpAny_tryCatch ?_)));unfold Builtin.Dict.pairItems;refine zaa (wpAny_typeOf (s:={s with heap:=g,toks:=tk2}) ⟨o,ho2,hoc⟩ ?_);rw[if_pos (by decide)]
  refine zaa (wpAny_seqItems (s:={s with heap:=g,toks:=tk2}) ho2 hod (zab ?_));show wpAny _ A.in1 (holding [Value.str x t,u] (dictSet d (.str x t) u)) _ _ _;refine wpAny_holding (wpAny_dictSet_pairs (s:={s with heap:=g,toks:=tk2}) (knd:=yx P w) (k:=Sum.inr x) (dj P w x t) q2 (λg2 q3 sb=>?_) (by rw[List.length_take];exact zak (Nat.min_le_left _ _) (zak hi (zak hn (by decide)))))
  refine zab ⟨plainId_quiet xu _,?_⟩;rw[Zd hnew,show more.take i++[((Sum.inr x:Key),u)]=more.take (i+1) by rw[List.take_succ,hm];rfl]at q3
  show codeAny (model P w) A (.builtin "dict.update.loop" ⟨[.ref d,.ref it,.int ((i:Int)+1) _,.none],[]⟩) R _;have ei:((i:Int)+1)=((i+1:Nat):Int):=by omega
  rw[ei];refine ih (i+1) _ _ (by omega) lt (W.frame _ _ _ st2 λb hb o' e=>sb.extBut b o' (λz=>hd (z▸hb)) e) (λb o' h1 h2 e=>sb.extBut b o' h1 (kp b o' h2 (hold b o' h1 h2 e))) q3 λg3 tk3 q4 k4=>hR g3 tk3 q4 k4
end
def Tx{more:List (Key×Value)}(hnd:(more.map (·.1)).Nodup){src:Addr}{T:String}{n:Nat}{Pv:Nat->Value->Prop}{Q:Value->Shared->Prop}(hA:A.handled=none)(hn:n<=1000)(hml:more.length=n)(hty:s.TypeIs (.ref src) T)(hT:(Value.type T != Value.type "dict")=true)(hsrc:src<s.heap.objs.size)(keys:∀ (A':Around) (z:Shared) (E':Value->Shared->Prop) (Q':Option Value->Shared->Prop),A'.handled=none->(∀ b u,s.heap.get? b=some u->z.heap.get? b=some u)->(∀ g tk,(∀ b u,z.heap.get? b=some u->g.get? b=some u)->Q' none {z with heap:=g,toks:=tk})->wpAny (model P w) A' (getAttr? (.ref src) "keys") Q' E' z)(iter:∀ (A':Around) (z:Shared) (E':Value->Shared->Prop) (Q':Value->Shared->Prop),(∀ b u,s.heap.get? b=some u->z.heap.get? b=some u) ->
   (∀ (ob:Obj) (St:Nat->Heap->Prop),(∀ A'':Around,A''.handled=none->Walks P w A'' z.heap.objs.size [z.heap.objs.size,src] [z.heap.objs.size] n Pv St)->St 0 (z.heap.push ob)->Q' (.ref z.heap.objs.size) {z with heap:=z.heap.push ob})->wpAny (model P w) A' (pyIter (.ref src)) Q' E' z)(hv:∀ i v,Pv i v->∃ a o k x t u,v=.ref a/\s.heap.get? a=some o/\o.cls=.type "tuple"/\o.data=.seq #[.str x t,u] k/\more[i]?=some (Sum.inr x,u))(h:∀ g tk,g.DictOf (yx P w) s.heap.objs.size more->(∀ b o,s.heap.get? b=some o->g.get? b=some o)->Q (.ref s.heap.objs.size) {s with heap:=g,toks:=tk}) :
  wpAny (model P w) A (call (.type "dict") [.ref src]) Q E s:=by
 refine callType_codes (Q₁:=λobj z=>obj=.ref s.heap.objs.size/\z={s with heap:=s.heap.push {cls:=.type "dict",data:=.dict #[]}}) F.kt_called_dict (F.kt_typeCall_dict_1 _) F.entry_dict_init (kt_code_dict_new _ ⟨rfl,rfl⟩) ?_;rintro obj z ⟨rfl,rfl⟩;have new:(s.heap.push {cls:=.type "dict",data:=.dict #[]}).DictOf (yx P w) s.heap.objs.size []:=Heap.DictOf.new s.heap;have kp1:∀b u,s.heap.get? b=some u->(s.heap.push {cls:=.type "dict",data:=.dict #[]}).get? b=some u:=λb u e=>zac _ e;have ty1:Shared.TypeIs {s with heap:=s.heap.push {cls:=.type "dict",data:=.dict #[]}} (.ref src) T:=by
  obtain⟨o,e,c⟩:=hty;exact⟨o,kp1 _ _ e,c⟩
 refine⟨new.typeIs,F.args_dict_init_2 _ _,?_⟩;unfold Builtin.«dict.__init__»;refine zaa ?_;unfold Builtin.Dict.selfAndRest;refine zaa (wpAny_notOrdered_dict new.typeIs ?_);show wpAny _ _ (pure (s.heap.objs.size,[Value.ref src])) _ _ _;refine zab ?_;show wpAny _ _ (Builtin.Dict.updateFrom "dict.__init__" s.heap.objs.size (.ref src) [] .none) _ _ _;unfold Builtin.Dict.updateFrom;refine zaa (wpAny_typeOf ty1 ?_);rw[if_pos hT];refine zaa (keys _ _ _ _ (by simpa using hA) kp1 λg tk kp2=>?_)
 rw[if_pos (show(Option.none:Option Value).isNone=true from rfl)];refine zaa (wpAny_rule (zaa (iter _ _ _ _ (λb u e=>kp2 b u (kp1 b u e)) λob St W st=>?_)));refine zab ⟨plainId_quiet xu _,?_⟩;have sz:s.heap.objs.size<g.objs.size:=by
  have e:=kp2 s.heap.objs.size _ (zad _ rfl);exact zae e
 have q0:(g.push ob).DictOf (yx P w) s.heap.objs.size []:=by
  obtain⟨o,es,ep,ho,mm⟩:=new;exact⟨o,es,ep,zac _ (kp2 _ _ ho),mm⟩
 have nin:s.heap.objs.size∉[g.objs.size,src]:=by
  simp only[zam,List.mem_singleton,List.not_mem_nil,or_false,not_or];exact⟨Nat.ne_of_lt sz,Nat.ne_of_gt hsrc⟩
 have old:∀b o,s.heap.get? b=some o->b≠s.heap.objs.size/\b∉[g.objs.size]:=λb o e=>by
  have lb:=zae e;refine⟨Nat.ne_of_lt lb,?_⟩;rw[List.mem_singleton];exact Nat.ne_of_lt (Nat.lt_trans lb sz)
 refine P8 (h0:=s.heap) hml hnd (W _ (by simpa using hA)) nin hn (λi v hP=>?_) (n-0) 0 _ _ (by omega) (Nat.zero_le _) st (λb o _ _ e=>zac _ (kp2 b o (kp1 b o e))) q0 λg2 tk2 q2 k2=>?_
 ·obtain⟨a,o,k,x,t,u,e1,e2,e3⟩:=hv i v hP;exact⟨a,o,k,x,t,u,e1,(old a o e2).1,(old a o e2).2,e2,e3⟩
 ·exact⟨rfl,h g2 tk2 q2 λb o e=>k2 b o (old b o e).1 (old b o e).2 e⟩
def Cj{a:List (Key×V)}{b:List (Key×Value)}(h:KV a b):b.map (·.1)=a.map (·.1):=by
 induction h with
 |nil=>rfl
 |cons h t ih=>rw[List.map_cons,List.map_cons,ih,h.1]
def call_dictT(hc:X.calm=true):vt X (.type "dict") (λxs H Q=>∃(p:Addr)(ys:List V)(kvs:List (Str×V)),xs=[.ref p]/\H p=some (.tup ys)/\ys.length<=1000/\S2 X.K H ys (kvs.map λq=>((Sum.inr q.1:Key),q.2))/\(kvs.map (·.1)).Nodup/\∀l,H l=none->Q (.ref l) (upd H l (.dK (kvs.map λq=>((Sum.inr q.1:Key),q.2))))):=by
 intro pn s σ H xs us Q I r h;obtain⟨p,ys,kvs,rfl,hq,hn,hp,hnd,q⟩:=h;obtain⟨u,rfl,rx⟩:=uy r;cases rx;obtain⟨its,o,k,rv,ho,hc1,hd1,hd2⟩:=tupD I hq;have hlen:its.length=ys.length:=rv.length.symm;have hlt:p<s.heap.objs.size:=zae ho;have ex:∃more:List (Key×Value),KV (kvs.map λq=>((Sum.inr q.1:Key),q.2)) more/\∀(j:Nat) v,its[j]?=some v->∃a o k x t u,v=.ref a/\s.heap.get? a=some o/\o.cls=.type "tuple"/\o.data=.seq #[.str x t,u] k/\more[j]?=some (Sum.inr x,u):=by
  clear hnd q hd1 hlen hq hn
  induction rv generalizing kvs with
  |nil =>
   cases kvs with
   |nil=>exact⟨[],.nil,λj v e=>by simp at e⟩
   |cons a b=>cases hp
  |cons r1 r2 ih =>
   cases kvs with
   |nil=>cases hp
   |cons kv kvs =>
    cases hp with
    |cons h t =>
     obtain⟨more,k1,k2⟩:=ih _ t;obtain⟨b,rfl,sq⟩:=h;cases r1;obtain⟨ts,rt,⟨o,e1,e2,n,e3⟩,_⟩:=I.tuple sq;obtain⟨u1,u2,rfl,⟨t1,rfl⟩,ru2⟩:=rt.two;refine⟨(Sum.inr kv.1,u2)::more,.cons ⟨rfl,ru2⟩ k1,λj v h1=>?_⟩;cases j with
     |zero =>
      simp at h1;subst h1;exact⟨b,o,n,kv.1,t1,u2,rfl,e1,e2,e3,rfl⟩
     |succ j =>
      obtain⟨a',o',k',x',t',u',q1,q2,q3,q4,q5⟩:=k2 j v (by simpa using h1)
      exact⟨a',o',k',x',t',u',q1,q2,q3,q4,by simpa using q5⟩
 obtain⟨more,k1,k2⟩:=ex;have hkeys:more.map (·.1)=(kvs.map λq=>((Sum.inr q.1:Key),q.2)).map (·.1):=Cj k1;have hml:(kvs.map λq=>((Sum.inr q.1:Key),q.2)).length=more.length:=k1.length;have hyl:ys.length=(kvs.map λq=>((Sum.inr q.1:Key),q.2)).length:=hp.length;have hb:=I.big;refine Tx (more:=more) (by
  rw[hkeys,List.map_map];refine List.Pairwise.map _ ?_ (List.pairwise_map.mp hnd);exact λa b h e=>h (Sum.inr.inj e)) (n:=its.toArray.size) (Pv:=λi v=>its.toArray[i]?=some v) (I.ok.hd hc) (by rw[zap,hlen];exact hn) (by rw[zap];omega) ⟨_,ho,hc1⟩ (by decide) hlt (λA' z E' Q' hA' kp hQ=>Qu (kp _ _ ho) hc1 hd1 hd2 hA' hQ)
  (λA' z E' Q' kp hQ=>?_) (λi v e=>k2 i v (by simpa using e)) (λg tk qd kp=>?_)
 ·have hl:z.heap.IsTuple p its.toArray:=⟨_,kp _ _ ho,hc1,k,hd1⟩;have hlz:p<z.heap.objs.size:=zae (kp _ _ ho);exact wpAny_pyIter_tuple hl (hQ _ _ (λA'' h''=>Walks.tuple h'' _ p (Nat.ne_of_lt hlz) its.toArray) ⟨⟨_,zad _ rfl,rfl,rfl⟩,hl.at λo' e=>zac _ e⟩)
 ·refine⟨.ref s.heap.objs.size,_,I.laid (o:=.dK _) (t':=tk) kp (zaj _) ?_,rfl,q _ I.fresh⟩;exact Ru (by rw[<- hyl];exact zak hn (by decide)) (by simpa using(Nat.ne_of_gt hb)) k1 qd
variable{td te:TE}
def Fl{a b:List (Key×V)}{x y:List (Key×Value)}(h:KV a x)(g:KV b y):KV (a++b) (x++y):=by
 induction h with
 |nil=>exact g
 |cons h t ih=>exact .cons h ih
def Hb{a:List (Key×V)}{b:List (Key×Value)}(h:KV a b):b.map (·.1)=a.map (·.1):=by
 induction h with
 |nil=>rfl
 |cons h t ih=>rw[List.map_cons,List.map_cons,ih,h.1]
def Aa(td te:TE):TE:=λσ H Q=>td σ H λx H1=>∃a kvs0,x=.ref a/\H1 a=some (.dK kvs0)/\te σ H1 λy H2=>∃b kvs more,y=.ref b/\a≠b/\H2 a=some (.dK kvs)/\H2 b=some (.dK more)/\kvs.length+more.length<=sizeLine/\((kvs++more).map (·.1)).Nodup/\Q .non (upd H2 a (.dK (kvs++more)))
def Dx(ho:PE X o td)(he:PE X e te)(m:M1 X o "update" apos e cpos):PE X (.Call (.Attribute o "update" apos) [e] [] cpos) (Aa td te):=by
 intro pn s σ H Q I h;refine wpAny_Call_method m.base m.few m.line PySem.F.plainAttrs_dict PySem.F.slot_dict_update PySem.F.type_dict_update (thn (ho pn s σ H _ I h) λu s1 ⟨x,H1,I1,rx,a,kvs0,ex,d,q1⟩=>?_);subst ex;obtain rfl:u=Value.ref a:=rx;obtain⟨t1,t2,_⟩:=Fs I1 (.inl ⟨_,.inl d⟩);refine⟨t1,t2,?_⟩;rw[m.trees];refine Calls.callWith_builtin rfl (Calls.evalArgs_plain (Calls.spliced_cons (thn (he pn s1 σ H1 _ I1 q1) λiv s2 ⟨y,H2,I2,ry,b,kvs,more,ey,hne,ha,hb,hl,hnd,q2⟩=>Calls.spliced_nil ?_)));subst ey;obtain rfl:iv=Value.ref b:=ry;obtain⟨z1,hd1,ks,r1,d1⟩:=Bb I2.hok ha;obtain⟨z2,hd2,ms,r2,d2⟩:=Bb I2.hok hb;refine call_meetsIn PySem.F.slot_dict_update d1.typeIs PySem.F.entry_dict_update (PySem.F.args_dict_update_2 _ _) (meets_dict_update (yx X.prog X.w) a b hne hd2) ⟨ks,ms,d1,d2,by rw[<- r1.length,<- r2.length];exact hl,λh' dd do' sb=>?_⟩
 have e:merged ks ms=ks++ms:=merged_append_of_fresh ks ms (by rw[Hb (Fl r1 r2)];exact hnd)
 rw[e]at dd;have he':∃q,h'.get? a=some q:=let ⟨q,_,_,hq,_⟩:=dd;⟨q,hq⟩
 exact⟨.non,_,Bc (t':=s2.toks) I2 (by rw[ha];exact True.intro) sb he' (Ru (by rw[zLa];exact hl) hd1 (Fl r1 r2) dd),rfl,q2⟩
variable{te:TD}
def D9(i:Nat)(te:TD):TDS:=λρ Z=>match slot ρ i with
 | some ⟨.own,.dk ks ds⟩=>te ρ λr=>(match r.k with|.own=>False|_=>True)/\(match r.d with
  |.dk ks' ds'=>ks.length+ks'.length<=100000/\(ks++ks').Nodup/\Z.nx (setS ρ i (dO (.dk (ks++ks') (ds++ds'))))
  | _=>False)
 |_=>False
def Ug{α β:Type}:∀(a:List α)(x:List β)(b:List α)(y:List β),a.length=x.length->(a++b).zip (x++y)=a.zip x++b.zip y
 |[],[],_,_,_=>rfl
 |_::_,[],_,_,h=>by cases h
 |[],_::_,_,_,h=>by cases h
 |a::as,x::xs,b,y,h=>by
  show(a,x)::(as++b).zip (xs++y)=(a,x)::(as.zip xs++b.zip y);rw[Ug as xs b y (by simpa using h)]
def D6(i:Nat)(he:ED Γ X e te)(hN:X.N[i]?=some x:=by rfl)(hv:Vis X.env.scope x:=by walk_at "o")(hd:(x==("__debug__" : Str))=false:=by decide)(hcd:(x==("__classdict__" : Str))=false:=by decide)(hp:∀ {ta tb:TE},PE X (.Name x np) ta->PE X e tb->PS X (.Expr (.Call (.Attribute (.Name x np) "update" apos) [e] [] cpos) pos) (Kp (Aa ta tb)):=by
   intro ta tb h1 h2;exact rz (Dx h1 h2 ⟨rfl,rfl,rfl,rfl⟩)):SD Γ X (.Expr (.Call (.Attribute (.Name x np) "update" apos) [e] [] cpos) pos) (D9 i te):=λH₀ =>
 impS (hp (tj hN hv hd hcd) (he H₀)) λD σ H h=>by
  obtain⟨ρ,o,R,Z,hZ,k1,k2,k3,k4⟩:=h;unfold D9 at hZ;split at hZ
  ·rename_i ks ds es;obtain⟨v0,ev0,q0⟩:=R.slots i _ (vv es);rcases q0 with⟨k,_⟩|⟨_,a,rfl,m,c⟩
   ·cases k
   obtain⟨xs,hx,hl,nd,rx⟩:=c;refine⟨.ref a,ev0,a,_,rfl,hx,ρ,o,R,_,hZ,λv r H1 s1 rv h1=>?_⟩;obtain⟨h0,h1⟩:=h1;obtain⟨kd,d⟩:=r;cases d with
   |dk ks' ds' =>
    obtain⟨hlen,hnd,h1⟩:=h1;obtain⟨b,ys,rfl,q,nb,hl',nd',rp⟩:=rv.solid (re h0);have hx1:=s1 _ _ hx;have rx1:=Reps.grow (Grow.same s1) _ _ rx;have xl:ks.length=xs.length:=by rw[hl,rx.length]
    have yl:ks'.length=ys.length:=by rw[hl',rp.length]
    have hne:a≠b:=λz=>nb (z▸zah.mpr ⟨_,m,rfl⟩);refine⟨b,_,_,rfl,hne,hx1,q,?_,?_,?_⟩
    ·rw[List.length_zip,List.length_zip,<- xl,<- yl,Nat.min_self,Nat.min_self];exact zak hlen (by decide)
    ·rw[<- Ug ks xs ks' ys xl,gq _ _ (by rw[zLa,zLa,xl,yl])]
     exact hnd
    ·rw[<- Ug ks xs ks' ys xl];obtain⟨R3,g3⟩:=(R.to s1).chg (d':=.dk (ks++ks') (ds++ds')) (ho:=.dK ((ks++ks').zip (xs++ys))) (vv es) ev0 m ⟨λ_ z=>(by cases z),λ_ _ z=>(by cases z)⟩ λgr =>
      ⟨xs++ys,zu,by rw[zLa,zLa,hl,hl'],hnd,gr _ _ (rx1.append rp)⟩
     exact k1 _ σ _ o ((Grow.same s1).trans g3) R3 h1
   |_=>exact h1.elim
  ·exact hZ.elim
def sDictT:FT:=λxs φ=>match xs with
 |[.tup l]=>∃(ks:List Str)(ds:List D),l=Zn (ks.map Sum.inr) ds/\ks.length=ds.length/\ks.length<=1000/\ks.Nodup/\φ (df (.dk (ks.map Sum.inr) ds))
 |_=>False
def Pj{β:Type}(ks:List Str)(xs:List β):(ks.zip xs).map (λq=>((Sum.inr q.1:Key),q.2))=(ks.map Sum.inr).zip xs:=by
 induction ks generalizing xs with
 |nil=>rfl
 |cons k ks ih =>
  cases xs with
  |nil=>rfl
  |cons x xs=>rw[List.zip_cons_cons,List.map_cons,ih,List.map_cons,List.zip_cons_cons]
def Hy{es:List Expr}{t:TDs}{p:Pos}(hm:X.mg "dict" = none)(ha:EA Γ X (e::es) t)(hc:X.calm=true:=by rfl)(hg:Gl X "dict":=by rfl)(he:starEach (e::es) X.env=(false,eval e X.env)::starEach es X.env:=by rfl)(hpl:(backTo pos (starEach es X.env)).any (·.1)=false:=by rfl):ED Γ X (.Call (.Name "dict" p) (e::es) [] pos) (dCB sDictT t) :=
 vg (ZZ.call_dictT hc) (λH O ds vs φ Q ho hv h k=>by
  unfold sDictT at h;split at h
  ·obtain⟨ks,ds,rfl,hl,h1000,nd,h⟩:=h;obtain⟨v,ws,rfl,⟨a,xs,rfl,q,r⟩,rfl⟩:=hv;obtain⟨zs,h1,h2⟩:=j8 (ks.map Sum.inr) ds xs (by rw[zLm];exact hl) r
   have hz:ks.length=zs.length:=by rw[hl,h2.length]
   have hi:(ks.map (Sum.inr:Str->Key)).Nodup:=List.Pairwise.map _ (λa b h e=>h (Sum.inr.inj e)) nd;refine⟨a,xs,ks.zip zs,rfl,q.2,?_,by rw[Pj];exact h1,by rw[gq ks zs hz];exact nd,λp hp=>k _ (df (.dk _ _)) _ (yd hp _) ⟨p,rfl,hp,ho p hp,zs,by rw[Pj];exact zu,by rw[zLm];exact hl,hi,Reps.grow (gx hp) _ _ h2⟩ h⟩
   have:=h1.length;rw[List.length_zip,zLm]at this;omega
  ·exact h.elim) hm jj ha hg (by decide) (by decide) he hpl
def d4{K:W.Frag}{H:Hp}{O:List Addr}:∀{ns:List Str}{xs:List V},Reps K H O (ns.map D.str) xs->xs=ns.map V.str
 |[],_,h=>h
 |n::ns,xs,h=>by
  obtain⟨v,r,rfl,q,t⟩:=h;cases (show v=_ from q);rw[d4 t];rfl
section
def Cc(ns:List Str):ZZ.many ns<=ns.length:=by
 have:=ZZ.fold_dd_le ns [];unfold ZZ.many;simpa using this
def Lx:bootBuiltins "set" = some (.type "set"):=by kernel_rfl
end
section
variable{p p2 pos2:Pos}
def Rv(te:TD):TD:=λρ φ=>te ρ λr=>match r.d with
 |.lst ds=>∃ns:List Str,ds=ns.map D.str/\ns.length<=1000/\φ (dv (.int (ZZ.many ns)))
 |_=>False
def P6(hm:X.mg "len" = none)(hm2:X.mg "set" = none)(he:ED Γ X e te)(hc:X.calm=true:=by rfl)(hg:Gl X "len":=by rfl)(hg2:Gl X "set":=by rfl)(h1:starEach [e] X.env=(false,eval e X.env)::starEach [] X.env:=by rfl)(h2:starEach [.Call (.Name "set" p2) [e] [] pos2] X.env=(false,eval (.Call (.Name "set" p2) [e] [] pos2) X.env)::starEach [] X.env:=by rfl)(hp1:(backTo pos2 (starEach [] X.env)).any (·.1)=false:=by rfl)(hp2:(backTo pos (starEach [] X.env)).any (·.1)=false:=by rfl) :
  ED Γ X (.Call (.Name "len" p) [.Call (.Name "set" p2) [e] [] pos2] [] pos) (Rv te):=λH₀ =>
 impE (qq ZZ.call_len_setO hg hm PySem.boot_len (xx (Wk (ZZ.call_set_strs hc) hg2 hm2 Lx (xx (he H₀) vb h1) (by decide) (by decide) h1 hp1) vb h2) (by decide) (by decide) h2 hp2) λσ H Q q=>by
  obtain⟨ρ,oo,R,φ,hφ,kk⟩:=q;refine⟨ρ,oo,R,_,hφ,λv r H1 s1 rv h1=>?_⟩;obtain⟨kd,d⟩:=r;cases d with
  |lst ds =>
   obtain⟨ns,rfl,hn,h1⟩:=h1;obtain⟨a,xs,rfl,q,rp⟩:=rv.view;cases d4 rp;refine⟨a,ns,rfl,SqL.of q,hn,λl hl=>⟨l,_,rfl,zu,zak (Cc ns) hn,?_⟩⟩;exact kk _ (dv (.int (ZZ.many ns))) _ (s1.trans (yd hl _)) (by exact rfl) h1
  |_=>exact h1.elim
def sListW:FT:=λds φ=>match ds with
 |[.lst l]=>φ (df (.lst l))
 |[.cn (.tup cs)]=>φ (df (.lst (cs.map cstD)))
 |_=>False
def Hw(hm:X.mg "list" = none)(ha:EA Γ X (e::es) t)(hg:Gl X "list":=by rfl)(he:starEach (e::es) X.env=(false,eval e X.env)::starEach es X.env:=by rfl)(hpl:(backTo pos (starEach es X.env)).any (·.1)=false:=by rfl):ED Γ X (.Call (.Name "list" p) (e::es) [] pos) (dCB sListW t) :=
 vg Vw (λH O ds vs φ Q ho hv h k=>by
  unfold sListW at h;split at h
  ·obtain⟨v,ws,rfl,⟨a,xs,rfl,q,r⟩,rfl⟩:=hv;exact⟨a,xs,rfl,.inl (SqL.of q),λl hl=>k _ _ _ (yd hl _) (fq ho hl r) h⟩
  ·rename_i cs;obtain⟨v,ws,rfl,h1,rfl⟩:=hv;obtain⟨a,xs,rfl,q,cr⟩:=Rx (H:=H) (show CRep X.K (.tup cs) v from h1);exact⟨a,xs,rfl,.inr q,λl hl=>k _ _ _ (yd hl _) (fq ho hl (gm cr)) h⟩
  ·exact h.elim) hm boot_list' ha hg (by decide) (by decide) he hpl
end
def Cv{K:W.Frag}(i j l m:Nat):bu K (gTup K 4 (bw (k5 i) (bw (k5 j) (bw (k5 l) (bw (k5 m) gNil))))) (gT4 i j l m):=λH₀ H σ ρ o d v ψ Q R h hg k=>by
 unfold gT4 at hg;split at hg
 ·rename_i a b c e;obtain⟨p,xs,rfl,q,r⟩:=h;obtain⟨v1,r1,rfl,h1,v2,r2,rfl,h2,v3,r3,rfl,h3,v4,r4,rfl,h4,rfl⟩:=r;refine⟨p,_,rfl,q.1,rfl,v1,_,rfl,v2,_,rfl,v3,_,rfl,v4,_,rfl,rfl,?_⟩;exact k _ _ ((((R.setV i h1).setV j h2).setV l h3).setV m h4) hg
 ·exact hg.elim
section
variable{p:Pos}
def Zj{K:W.Frag}{H:Hp}{O:List Addr}:∀{ns:List Int}{xs:List V},Reps K H O (ns.map D.int) xs->xs=ns.map V.int
 |[],_,h=>h
 |n::ns,xs,h=>by
  obtain⟨v,r,rfl,q,t⟩:=h;cases (show v=_ from q);rw[Zj t];rfl
def Q2:∀ns:List Int,((ns.map V.int).any λy=>jw y==some true)=ns.any λn=>n != 0
 |[]=>rfl
 |n::ns=>by
  rw[List.map_cons,List.any_cons,List.any_cons,Q2 ns];have e1:(jw (.int n)==some true)=(n != 0):=by
   show((some (n != 0):Option Bool)==some true)=(n != 0);cases (n != 0) <;> rfl
  rw[e1]
def sAnyI:FT:=λds φ=>match ds with
 |[.tup l]=>∃ns:List Int,l=ns.map D.int/\φ (dv (.bl (ns.any λn=>n != 0)))
 |_=>False
def Ba(hm:X.mg "any" = none)(ha:EA Γ X (e::es) t)(hc:X.calm=true:=by rfl)(hg:Gl X "any":=by rfl)(he:starEach (e::es) X.env=(false,eval e X.env)::starEach es X.env:=by rfl)(hpl:(backTo pos (starEach es X.env)).any (·.1)=false:=by rfl):ED Γ X (.Call (.Name "any" p) (e::es) [] pos) (dCB sAnyI t) :=
 kj (Vy hc) (λH O ds vs φ Q ho hv h k=>by
  unfold sAnyI at h;split at h
  ·obtain⟨ns,rfl,h⟩:=h;obtain⟨v,ws,rfl,⟨a,xs,rfl,q,r⟩,rfl⟩:=hv;cases Zj r;refine⟨a,_,rfl,.inr q.1,λy hy=>?_,?_⟩
   ·obtain⟨b,_,rfl⟩:=zah.mp hy;rfl
   ·show Q (.bl ((ns.map V.int).any λy=>jw y==some true)) H;rw[Q2 ns];exact k _ _ H (Same.refl H) (by exact rfl) h
  ·exact h.elim) hm (by kernel_rfl) ha hg (by decide) (by decide) he hpl
end
section
open PySem PySem.Spec PySem.W PyProof.Rows
def z3v(D:Addr)(i n ep:Nat)(x0 x1 o1 o2:Value):Obj:={cls:=.type "dict_itemiterator",dict:=none,data:=.fields #[x0,x1,.ref D,.int i 0,.int n 0,.int ep 0,o1,o2],slots:=#[]}
def RawJ(h:Heap)(J D:Addr)(i n ep:Nat):Prop:=∃x0 x1 o1 o2,h.get? J=some (z3v D i n ep x0 x1 o1 o2)/\((x0=.none/\x1=.bool false)\/∃(b:Addr)(f:Bool)(ob:Obj),x0=rawInt b/\x1=.bool f/\h.get? b=some ob/\b≠J)
def z3p(e:DictEntry):Obj:={cls:=.type "tuple",data:=.seq #[e.key,e.val]}
def RawJ.lt{h:Heap}{J D:Addr}{i n ep:Nat}(y:RawJ h J D i n ep):J<h.objs.size:=let ⟨_,_,_,_,e,_⟩:=y;zae e
def K7(h:Heap)(rows:Array DictEntry)(J:Addr)(as:List Addr):Prop:=(∀a∈as,J<a)/\as.Nodup/\∀(j:Nat) a,as[j]?=some a->∃e,rows[j]?=some e/\h.get? a=some (z3p e)
def K7.lt{h:Heap}{rows:Array DictEntry}{J a:Addr}{as:List Addr}(p:K7 h rows J as)(m:a∈as):a<h.objs.size:=by
 obtain⟨j,hj⟩:=List.getElem?_of_mem m;obtain⟨e,_,g⟩:=p.2.2 j a hj;exact zae g
def M6(acc:Array Value)(c:Nat):Obj:={cls:=.type "list",dict:=none,data:=.seq acc c,slots:=#[]}
def updM(H:Hp):List (Addr×HO)->Hp
 |[]=>H
 |p::ps=>upd (updM H ps) p.1 p.2
def Y7{H:Hp}{b:Addr}:∀{ps:List (Addr×HO)},b∉ps.map Prod.fst->updM H ps b=H b
 |[],_=>rfl
 |p::ps,h=>by
  rw[List.map_cons,zam,not_or]at h;rw[updM,zy h.1];exact Y7 h.2
def gf{H:Hp}:∀{ps:List (Addr×HO)}{p:Addr×HO},(ps.map Prod.fst).Nodup->p∈ps->updM H ps p.1=some p.2
 |[],_,_,h=>nomatch h
 |q::ps,p,nd,h=>by
  rw[List.map_cons,List.nodup_cons]at nd;rcases zam.mp h with rfl|h
  ·exact zu
  ·rw[updM,zy]
   ·exact gf nd.2 h
   ·intro z;exact nd.1 (z▸List.mem_map_of_mem h)
def W5{ps:List (Addr×HO)}(I:Inv X pn σ H s)(hp:∀ p∈ps,s.heap.objs.size<=p.1):Same H (updM H ps):=λb u e=>by
 rw[Y7]
 ·exact e
 ·intro hm;obtain⟨p,mp,ep⟩:=zah.mp hm;have h1:s.heap.objs.size<=p.1:=hp p mp;have h2:b<s.heap.objs.size:=I.hok.lt e;rw[ep]at h1;exact absurd h2 (Nat.not_lt.mpr h1)
def Inv.laidM{ps:List (Addr×HO)}{t':Nat}(I:Inv X pn σ H s)(k:∀ b u,s.heap.get? b=some u->h'.get? b=some u)(nd:(ps.map Prod.fst).Nodup)(hp:∀ p∈ps,s.heap.objs.size<=p.1)(new:∀ p∈ps,xy X.prog X.w (updM H ps) h' p.1 p.2):Inv X pn σ (updM H ps) {s with heap:=h',toks:=t'}:=by
 have same:=W5 I hp;refine I.un ⟨λb u q _ _ _=>k b u q,λb u q _ _ _=>⟨u.slots,k b u q⟩,λb u q n _=>?_,λb u q _=>⟨u,k b u q⟩,λb xs q=>same _ _ q,λb o u q=>same _ _ q,λb qs q=>⟨#[],by rw[same _ _ q];simp⟩⟩ λb u e=>?_
 ·rw[Y7]
  ·exact n
  ·intro hm;obtain⟨p,mp,ep⟩:=zah.mp hm;have h1:s.heap.objs.size<=p.1:=hp p mp;have h2:b<s.heap.objs.size:=zae q;rw[ep]at h1;exact absurd h2 (Nat.not_lt.mpr h1)
 ·by_cases hb:b∈ps.map Prod.fst
  ·obtain⟨p,mp,rfl⟩:=zah.mp hb;rw[gf nd mp]at e;cases e;exact new p mp
  ·rw[Y7 hb]at e;exact(I.hok b u e).stay (λc o _ q=>k c o q) (λc q=>same _ _ q) λc xs q=>same _ _ q
end
def Gc{α:Type}{M:Model}{A:Around}{a:Addr}{k:Option Obj->Sem α}{Q:α->Shared->Prop}{E:Value->Shared->Prop}{s:Shared}(h:wpAny M A (k (s.heap.get? a)) Q E s):wpAny M A (Sem.loadIfAlive a k) Q E s:=λΓ p hΓ=>by
 rw[Sem.wp_loadIfAlive];exact h Γ p hΓ
def ZipF(h:Heap)(z ti to a:Addr)(fb:Bool):Prop:=h.get? z=some {cls:=.type "zip",dict:=none,data:=.fields #[rawInt a,.bool fb,.bool false,.ref ti,.ref to],slots:=#[]}
def Mr{z ti to a:Addr}{fb:Bool}{o:Obj}{Q:Bool->Shared->Prop}(hz:ZipF s.heap z ti to a fb)(ha:s.heap.get? a=some o)(hQ:∀ g,ZipF g z ti to a true->Heap.SameBut z s.heap g->Q false {s with heap:=g}):wpAny (model P w) A (Builtin.SmallTypes.ownedTupleIsFree (.ref z)) Q E s:=by
 unfold Builtin.SmallTypes.ownedTupleIsFree;refine zaa (wpAny_field hz rfl (x:=rawInt a) rfl ?_);show wpAny _ _ (Sem.loadIfAlive (Int.toNat (a:Int)) _) _ _ _;refine Gc ?_;rw[Int.toNat_natCast,ha];show wpAny _ _ (field (.ref z) 1 >>= _) _ _ _;refine zaa (wpAny_field hz rfl (x:=.bool fb) rfl ?_);cases fb with
 |true=>exact zab (hQ s.heap hz (Heap.SameBut.refl _ _))
 |false =>
  show wpAny _ _ (setField (.ref z) 1 (.bool true) >>= _) _ _ _;refine zaa (wpAny_setField_rec hz (by simp) λg z1 s1=>?_)
  exact zab (hQ g z1 s1)
def Pi{b1 b2:Bool}{z ti to i1 i2 l1 l2 a:Addr}{fb:Bool}{o:Obj}{k:Nat}{xs ys:Array Value}{x y:Value}{Q:Value->Shared->Prop}(n1:i1≠z)(n2:i2≠z)(n12:i1≠i2)(nt:ti≠z)(nti1:ti≠i1)(l1z:l1≠z)(l2z:l2≠z)(l21:l2≠i1)(hz:ZipF s.heap z ti to a fb)(ha:s.heap.get? a=some o)(hti:IsPair s.heap ti (.ref i1) (.ref i2))(h1:ItAt b1 s.heap i1 l1 k)(h2:ItAt b2 s.heap i2 l2 k)(t1:SqAt b1 s.heap l1 xs)(t2:SqAt b2 s.heap l2 ys)(hx:xs[k]?=some x)(hy:ys[k]?=some y)(hQ:∀ g,ZipF g z ti to a true->ItAt b1 g i1 l1 (k+1)->ItAt b2 g i2 l2 (k+1)->IsPair g s.heap.objs.size x y->g.objs.size=s.heap.objs.size+1->(∀ c o,c≠z->c≠i1->c≠i2->s.heap.get? c=some o->g.get? c=some o)->Q (.ref s.heap.objs.size) {s with heap:=g}) :
  wpAny (model P w) A (Builtin.«zip.__next__» ⟨[.ref z],[]⟩) (λfin s'=>∃v,fin=.done (.ret v)/\Q v s') E s:=by
 show wpAny _ _ (field (.ref z) 2 >>= _) _ _ _;refine zaa (wpAny_field hz rfl (x:=.bool false) rfl ?_);show wpAny _ _ (field (.ref z) 3 >>= _) _ _ _;refine zaa (wpAny_field hz rfl (x:=.ref ti) rfl ?_);refine zaa (wpAny_seqItems hti rfl ?_);show wpAny _ _ (Builtin.SmallTypes.ownedTupleIsFree (.ref z) >>= _) _ _ _;refine zaa (Mr hz ha λg1 z1 s1=>?_);simp only[Bool.false_eq_true,if_false];refine zaa ?_;rw[<- Array.forIn_toList];simp only[List.forIn_cons,List.forIn_nil];refine zaa (zaa (wpAny_holding ?_));show wpAny _ _ (Builtin.SmallTypes.nextOf (.ref i1) >>= _) _ _ _;refine zaa (uh (h1.at λo e=>s1.extBut _ o n1 e) (t1.at λo e=>s1.extBut _ o l1z e) hx λg2 p2 s2=>zab (zab ?_));refine zaa (zaa (wpAny_holding ?_));show wpAny _ _ (Builtin.SmallTypes.nextOf (.ref i2) >>= _) _ _ _;refine zaa (uh (h2.at λo e=>s2.extBut _ o n12.symm (s1.extBut _ o n2 e)) (t2.at λo e=>s2.extBut _ o l21 (s1.extBut _ o l2z e)) hy λg3 p3 s3=>zab (zab (zab ?_)));show wpAny _ _ (newTuple [x,y] >>= _) _ _ _;refine zaa (wpAny_newTuple ?_);have sz:g3.objs.size=s.heap.objs.size:=by rw[s3.1,s2.1,s1.1]
 refine zab ⟨_,rfl,?_⟩;show Q (.ref g3.objs.size) _;rw[sz];have up:∀c o,c≠z->c≠i1->c≠i2->s.heap.get? c=some o->(g3.push {cls:=.type "tuple",data:=.seq #[x,y]}).get? c=some o:=λc o c1 c2 c3 e=>zac _ (s3.extBut _ _ c3 (s2.extBut _ _ c2 (s1.extBut _ _ c1 e)));refine hQ _ (zac _ (s3.extBut _ _ n2.symm (s2.extBut _ _ n1.symm z1))) ((p2.at λo e=>s3.extBut _ o n12 e).at λo e=>zac _ e) (p3.at λo e=>zac _ e) ?_ (by rw[Heap.size_push,sz]) up
 have:=zad g3 (o:=({cls:=.type "tuple",data:=.seq #[x,y]}:Obj)) rfl;rw[sz]at this;exact this
def Kc{b1 b2:Bool}{z ti to i1 i2 l1 l2 a:Addr}{fb:Bool}{o:Obj}{k:Nat}{xs:Array Value}{Q:Fin->Shared->Prop}(hh:A.handled=none)(n1:i1≠z)(l1z:l1≠z)(hz:ZipF s.heap z ti to a fb)(ha:s.heap.get? a=some o)(hti:IsPair s.heap ti (.ref i1) (.ref i2))(h1:ItAt b1 s.heap i1 l1 k)(t1:SqAt b1 s.heap l1 xs)(hx:xs[k]?=none)(hE:∀ g e,(∀ c o,c≠z->c≠i1->s.heap.get? c=some o->g.get? c=some o)->(∃ o,g.get? e=some o/\o.cls=.type "StopIteration")->E (.ref e) {s with heap:=g}) :
  wpAny (model P w) A (Builtin.«zip.__next__» ⟨[.ref z],[]⟩) Q E s:=by
 show wpAny _ _ (field (.ref z) 2 >>= _) _ _ _;refine zaa (wpAny_field hz rfl (x:=.bool false) rfl ?_);show wpAny _ _ (field (.ref z) 3 >>= _) _ _ _;refine zaa (wpAny_field hz rfl (x:=.ref ti) rfl ?_);refine zaa (wpAny_seqItems hti rfl ?_);show wpAny _ _ (Builtin.SmallTypes.ownedTupleIsFree (.ref z) >>= _) _ _ _;refine zaa (Mr hz ha λg1 z1 s1=>?_);simp only[Bool.false_eq_true,if_false];refine zaa ?_;rw[<- Array.forIn_toList];simp only[List.forIn_cons,List.forIn_nil];refine zaa (zaa (wpAny_holding ?_));show wpAny _ _ (Builtin.SmallTypes.nextOf (.ref i1) >>= _) _ _ _;refine zaa (di hh (h1.at λo e=>s1.extBut _ o n1 e) (t1.at λo e=>s1.extBut _ o l1z e) hx λg2 e k2 he=>?_);exact hE g2 e (λc o c1 c2 q=>k2 c o c2 (s1.extBut _ _ c1 q)) he
def Qj{b1 b2:Bool}{z ti to i1 i2 l1 l2 a:Addr}{fb:Bool}{o:Obj}{k:Nat}{xs ys:Array Value}{x y:Value}{Q:Option Value->Shared->Prop}(n1:i1≠z)(n2:i2≠z)(n12:i1≠i2)(nt:ti≠z)(nti1:ti≠i1)(l1z:l1≠z)(l2z:l2≠z)(l21:l2≠i1)(hz:ZipF s.heap z ti to a fb)(ha:s.heap.get? a=some o)(hti:IsPair s.heap ti (.ref i1) (.ref i2))(h1:ItAt b1 s.heap i1 l1 k)(h2:ItAt b2 s.heap i2 l2 k)(t1:SqAt b1 s.heap l1 xs)(t2:SqAt b2 s.heap l2 ys)(hx:xs[k]?=some x)(hy:ys[k]?=some y)(hQ:∀ g,ZipF g z ti to a true->ItAt b1 g i1 l1 (k+1)->ItAt b2 g i2 l2 (k+1)->IsPair g s.heap.objs.size x y->g.objs.size=s.heap.objs.size+1->(∀ c o,c≠z->c≠i1->c≠i2->s.heap.get? c=some o->g.get? c=some o)->Q (some (.ref s.heap.objs.size)) {s with heap:=g}) :
  wpAny (model P w) A (pyNext (.ref z)) Q E s:=by
 have ty:s.TypeIs (.ref z) "zip":=⟨_,hz,rfl⟩;unfold pyNext;exact zaa (wpAny_attempt (wpAny_callSpecial?_slot (name:=Str.ofString "__next__") ty F.slot_zip_next (wpAny_call_entry F.slot_zip_next ty F.entry_zip_next (Pi n1 n2 n12 nt nti1 l1z l2z l21 hz ha hti h1 h2 t1 t2 hx hy λg q1 q2 q3 q4 q5 q6=>zab (hQ g q1 q2 q3 q4 q5 q6)) (F.args_zip_next_1 _))))
def Nx{b1:Bool}{z ti to i1 i2 l1 a:Addr}{fb:Bool}{o:Obj}{k:Nat}{xs:Array Value}{Q:Option Value->Shared->Prop}(hh:A.handled=none)(n1:i1≠z)(l1z:l1≠z)(hz:ZipF s.heap z ti to a fb)(ha:s.heap.get? a=some o)(hti:IsPair s.heap ti (.ref i1) (.ref i2))(h1:ItAt b1 s.heap i1 l1 k)(t1:SqAt b1 s.heap l1 xs)(hx:xs[k]?=none)(hQ:∀ g,(∀ c o,c≠z->c≠i1->s.heap.get? c=some o->g.get? c=some o)->Q none {s with heap:=g}):wpAny (model P w) A (pyNext (.ref z)) Q E s:=by
 have ty:s.TypeIs (.ref z) "zip":=⟨_,hz,rfl⟩;unfold pyNext;refine zaa (wpAny_attempt (wpAny_callSpecial?_slot (name:=Str.ofString "__next__") ty F.slot_zip_next (wpAny_call_entry F.slot_zip_next ty F.entry_zip_next (Kc (b2:=b1) (l2:=l1) hh n1 l1z hz ha hti h1 t1 hx λg e kp he=>?_) (F.args_zip_next_1 _))));obtain⟨o,ho,hc⟩:=he;refine zaa (wpAny_isInstance (T:="StopIteration") (b:=true) ⟨o,ho,hc⟩ isSubtype_stop ?_);exact zab (hQ _ kp)
def vo(h:Heap)(xs ys:Array Value)(J:Addr)(as:List Addr):Prop:=(∀a∈as,J<a)/\as.Nodup/\∀(j:Nat) a,as[j]?=some a->∃x y,xs[j]?=some x/\ys[j]?=some y/\IsPair h a x y
def vo.lt{h:Heap}{xs ys:Array Value}{J a:Addr}{as:List Addr}(p:vo h xs ys J as)(m:a∈as):a<h.objs.size:=by
 obtain⟨j,hj⟩:=List.getElem?_of_mem m;obtain⟨x,y,_,_,g⟩:=p.2.2 j a hj;exact zae g
def vo.alive{h:Heap}{xs ys:Array Value}{J a:Addr}{as:List Addr}(p:vo h xs ys J as)(m:a∈as):∃o,h.get? a=some o:=by
 obtain⟨j,hj⟩:=List.getElem?_of_mem m;obtain⟨x,y,_,_,g⟩:=p.2.2 j a hj;exact⟨_,g⟩
def vo.to{h k:Heap}{xs ys:Array Value}{J:Addr}{as:List Addr}(p:vo h xs ys J as)(f:∀ a o,a∈as->h.get? a=some o->k.get? a=some o):vo k xs ys J as :=
 ⟨p.1,p.2.1,λj a e=>let ⟨x,y,e1,e2,g⟩:=p.2.2 j a e;⟨x,y,e1,e2,f a _ (zan e) g⟩⟩
def vo.snoc{h:Heap}{xs ys:Array Value}{J a:Addr}{as:List Addr}{x y:Value}(p:vo h xs ys J as)(ha:J<a)(nm:a∉as)(ex:xs[as.length]?=some x)(ey:ys[as.length]?=some y)(g:IsPair h a x y):vo h xs ys J (as++[a]):=by
 refine⟨λb hb=>?_,?_,λj b hj=>?_⟩
 ·rcases zas.mp hb with m|m
  ·exact p.1 b m
  ·rw[List.mem_singleton.mp m];exact ha
 ·rw[List.nodup_append];refine⟨p.2.1,by simp,λx hx y hy z=>?_⟩
  rw[List.mem_singleton.mp hy]at z;subst z;exact nm hx
 ·by_cases hl:j<as.length
  ·rw[List.getElem?_append_left hl]at hj;exact p.2.2 j b hj
  ·have:j=as.length:=by
    have:=(zag.mp hj).1;simp at this;omega
   subst this;have eb:a=b:=by simpa using hj
   subst eb;exact⟨x,y,ex,ey,g⟩
def ZS(b1 b2:Bool)(z ti to i1 i2 l1 l2:Addr)(as:List Addr)(i:Nat)(h:Heap):Prop :=
 (i=0/\ZAt b1 b2 h z ti to i1 i2 l1 l2 .none 0)\/(∃a fb,a∈as/\ZipF h z ti to a fb/\IsPair h ti (.ref i1) (.ref i2)/\ItAt b1 h i1 l1 i/\ItAt b2 h i2 l2 i)
def ZS.to{b1 b2:Bool}{z ti to i1 i2 l1 l2:Addr}{as:List Addr}{i:Nat}{h g:Heap}(Z:ZS b1 b2 z ti to i1 i2 l1 l2 as i h)(k:∀ c o,(c=z\/c=ti\/c=to\/c=i1\/c=i2)->h.get? c=some o->g.get? c=some o):ZS b1 b2 z ti to i1 i2 l1 l2 as i g:=by
 rcases Z with⟨e,Z⟩|⟨a,fb,m,z1,t1,p1,p2⟩
 ·obtain⟨zz,its,⟨a,b,out⟩,one,two⟩:=Z;exact .inl ⟨e,k _ _ (.inl rfl) zz,k _ _ (.inr (.inl rfl)) its,⟨a,b,k _ _ (.inr (.inr (.inl rfl))) out⟩,one.at λo e=>k _ o (.inr (.inr (.inr (.inl rfl)))) e,two.at λo e=>k _ o (.inr (.inr (.inr (.inr rfl)))) e⟩
 ·exact .inr ⟨a,fb,m,k _ _ (.inl rfl) z1,k _ _ (.inr (.inl rfl)) t1,p1.at λo e=>k _ o (.inr (.inr (.inr (.inl rfl)))) e,p2.at λo e=>k _ o (.inr (.inr (.inr (.inr rfl)))) e⟩
variable{b1 b2:Bool}{z ti to i1 i2 l1 l2 S:Addr}{xs ys:Array Value}
def Ed{as:List Addr}{i:Nat}{x y:Value}{Q:Option Value->Shared->Prop}(D:ZNe z ti to i1 i2)(d1:ZOff z to i1 i2 l1)(d2:ZOff z to i1 i2 l2)(Z:ZS b1 b2 z ti to i1 i2 l1 l2 as i s.heap)(pa:vo s.heap xs ys S as)(t1:SqAt b1 s.heap l1 xs)(t2:SqAt b2 s.heap l2 ys)(hx:xs[i]?=some x)(hy:ys[i]?=some y)(hQ:∀ g,ZS b1 b2 z ti to i1 i2 l1 l2 (as++[s.heap.objs.size]) (i+1) g->IsPair g s.heap.objs.size x y->(∀ c o,ZOff z to i1 i2 c->s.heap.get? c=some o->g.get? c=some o)->Q (some (.ref s.heap.objs.size)) {s with heap:=g}) :
  wpAny (model P w) A (pyNext (.ref z)) Q E s:=by
 rcases Z with⟨rfl,Z⟩|⟨a,fb,m,z1,ht,p1,p2⟩
 ·refine Ws D d1 d2 Z t1 t2 hx hy λg Z' pr kp=>hQ g (.inr ⟨s.heap.objs.size,false,List.mem_append_right _ (List.mem_singleton.mpr rfl),Z'.zz,Z'.its,Z'.one,Z'.two⟩) pr kp
 ·obtain⟨o,ho⟩:=pa.alive m;refine Qj D.ad D.ae D.de D.ab D.bd d1.1 d2.1 d2.2.2.1 z1 ho ht p1 p2 t1 t2 hx hy λg q1 q2 q3 q4 q5 q6=>hQ g (.inr ⟨a,true,List.mem_append_left _ m,q1,q6 _ _ D.ab D.bd D.be ht,q2,q3⟩) q4 λc o q e=>q6 c o q.1 q.2.2.1 q.2.2.2 e
def Bu{as:List Addr}{i:Nat}{Q:Option Value->Shared->Prop}(hh:A.handled=none)(D:ZNe z ti to i1 i2)(d1:ZOff z to i1 i2 l1)(d2:ZOff z to i1 i2 l2)(Z:ZS b1 b2 z ti to i1 i2 l1 l2 as i s.heap)(pa:vo s.heap xs ys S as)(t1:SqAt b1 s.heap l1 xs)(t2:SqAt b2 s.heap l2 ys)(hx:xs[i]?=none)(hQ:∀ g,(∀ c o,ZOff z to i1 i2 c->s.heap.get? c=some o->g.get? c=some o)->Q none {s with heap:=g}):wpAny (model P w) A (pyNext (.ref z)) Q E s:=by
 rcases Z with⟨rfl,Z⟩|⟨a,fb,m,z1,ht,p1,p2⟩
 ·exact R5 hh D d1 d2 Z t1 t2 (.inl hx) hQ
 ·obtain⟨o,ho⟩:=pa.alive m;exact Nx hh D.ad d1.1 z1 ho ht p1 t1 hx λg k=>hQ g λc o q e=>k c o q.1 q.2.2.1 e
def z2z{R:Result->Shared->Prop}(hh:A.handled=none)(D:ZNe z ti to i1 i2)(d1:ZOff z to i1 i2 l1)(d2:ZOff z to i1 i2 l2)(hzS:z<S)(htS:ti<S)(hoS:to<S)(h1S:i1<S)(h2S:i2<S)(l1S:l1≠S)(l2S:l2≠S)(hxy:xs.size=ys.size)(hn:xs.size<=sizeLine){h0:Heap}(hR:∀ h' tk acc c as,(∀ b o,b≠S->ZOff z to i1 i2 b->h0.get? b=some o->h'.get? b=some o)->h'.get? S=some (M6 acc c)->as.length=xs.size->vo h' xs ys S as->acc.toList=as.map Value.ref->R (.ok (.ret .none)) {s with heap:=h',toks:=tk}) :
  ∀(m i:Nat)(h:Heap)(tk c:Nat)(acc:Array Value)(as:List Addr),xs.size-i=m->i<=xs.size->ZS b1 b2 z ti to i1 i2 l1 l2 as i h->SqAt b1 h l1 xs->SqAt b2 h l2 ys->(∀b o,b≠S->ZOff z to i1 i2 b->h0.get? b=some o->h.get? b=some o) ->
   h.get? S=some (M6 acc c)->acc.toList=as.map Value.ref->as.length=i->vo h xs ys S as ->
   codeAny (model P w) A (.builtin "list.extend.loop" ⟨[.ref S,.ref z,.none],[]⟩) R {s with heap:=h,toks:=tk}:=by
 have oS:ZOff z to i1 i2 S:=⟨Nat.ne_of_gt hzS,Nat.ne_of_gt hoS,Nat.ne_of_gt h1S,Nat.ne_of_gt h2S⟩;have oA:∀{a:Addr},S<a->ZOff z to i1 i2 a:=λq=>⟨Nat.ne_of_gt (Nat.lt_trans hzS q),Nat.ne_of_gt (Nat.lt_trans hoS q),Nat.ne_of_gt (Nat.lt_trans h1S q),Nat.ne_of_gt (Nat.lt_trans h2S q)⟩;intro m
 induction m with
 |zero =>
  intro i h tk c acc as hm hi y x1 x2 kp gS ea el pa;have e:i=xs.size:=by omega
  subst e;refine codeAny_builtin PySem.F.entry_extend_loop (?_:_);rw[Around.under_plainId PySem.F.plain_extend_loop _];show wpAny _ A.in1 (pyNext (.ref z) >>= _) _ _ _;apply zaa;refine Bu (s:={s with heap:=h,toks:=tk}) (A:=A.in1) hh D d1 d2 y pa x1 x2 (by simp) λh' eb=>?_
  exact zab (hR h' tk acc c as (λb o b1 b2 q=>eb b o b2 (kp b o b1 b2 q)) (eb S _ oS gS) el (pa.to λa o ma q=>eb a o (oA (pa.1 a ma)) q) ea)
 |succ m ih =>
  intro i h tk c acc as hm hi y x1 x2 kp gS ea el pa;have lt:i<xs.size:=by omega
  obtain⟨x,ex⟩:∃k,xs[i]?=some k:=⟨xs[i],by simp[lt]⟩
  obtain⟨v,ev⟩:∃k,ys[i]?=some k:=⟨ys[i],by simp⟩
  have az:acc.size=i:=by rw[<- Array.length_toList,ea,zLm,el]
  refine codeAny_builtin PySem.F.entry_extend_loop (?_:_);rw[Around.under_plainId PySem.F.plain_extend_loop _];show wpAny _ A.in1 (pyNext (.ref z) >>= _) _ _ _;apply zaa;refine Ed (s:={s with heap:=h,toks:=tk}) D d1 d2 y pa x1 x2 ex ev λh' y' t' k'=>?_
  dsimp only at y' t' k' ⊢
  have gS':=k' S _ oS gS;have lS:S<h.objs.size:=zae gS;have up:∀b o,b≠S->h'.get? b=some o->(h'.update S (Obj.mapSeq (·.push (Value.ref h.objs.size)))).get? b=some o:=λb o nb q=>(Heap.get?_update_other _ _ (Ne.symm nb)).trans q;have gS2:(h'.update S (Obj.mapSeq (·.push (Value.ref h.objs.size)))).get? S=some (M6 (acc.push (Value.ref h.objs.size)) _):=Heap.get?_update_self _ gS' rfl;show wpAny _ A.in1 (updateSeq S (·.push (Value.ref h.objs.size)) >>= _) _ _ _;apply zaa;refine wpAny_updateSeq gS' rfl (zab ⟨plainId_quiet PySem.F.plain_extend_loop _,?_⟩) (by rw[az];omega) (by show(acc.push (Value.ref h.objs.size)).size<=sizeLine+1;rw[Array.size_push,az];omega)
  refine ih (i+1) _ tk _ (acc.push (Value.ref h.objs.size)) (as++[h.objs.size]) (by omega) lt (y'.to λq o hq e=>up q o ?_ e) ((x1.at λo e=>k' l1 o d1 e).at λo e=>up l1 o l1S e) ((x2.at λo e=>k' l2 o d2 e).at λo e=>up l2 o l2S e)
   (λb o b1 b2 q=>up b o b1 (k' b o b2 (kp b o b1 b2 q))) gS2 ?_ ?_ ?_
  ·rcases hq with rfl|rfl|rfl|rfl|rfl
   ·exact Nat.ne_of_lt hzS
   ·exact Nat.ne_of_lt htS
   ·exact Nat.ne_of_lt hoS
   ·exact Nat.ne_of_lt h1S
   ·exact Nat.ne_of_lt h2S
  ·rw[Array.toList_push,ea,zMa];rfl
  ·rw[zLa,el];rfl
  ·have pa':vo h' xs ys S as:=pa.to λa o ma q=>k' a o (oA (pa.1 a ma)) q;have pa2:=pa'.snoc (a:=h.objs.size) lS (λq=>Nat.lt_irrefl _ (pa.lt q)) (by rw[el];exact ex) (by rw[el];exact ev) t'
   refine pa2.to λa o ma q=>up a o ?_ q;exact Nat.ne_of_gt (pa2.1 a ma)
def Q5:typeLookup (.type "zip") "__len__" = pure none:=by rw[typeLookup_type,builtinLookup_eq_fast];kernel_rfl
def Ue:typeLookup (.type "zip") "__length_hint__" = pure none:=by rw[typeLookup_type,builtinLookup_eq_fast];kernel_rfl
def Hi{Q:Bool->Shared->Prop}(hT:s.TypeIs (.ref z) "zip")(h:Q true s):wpAny (model P w) A (Builtin.List.listLengthHint (.ref z)) Q E s:=by
 unfold Builtin.List.listLengthHint;refine zaa (wpAny_specialOf hT Q5 ?_);show wpAny _ A (specialOf (Value.ref z) (Str.ofString "__length_hint__") >>= _) _ _ _;refine zaa (wpAny_specialOf hT Ue ?_);exact zab h
def Jq{Q:Value->Shared->Prop}(hh:A.handled=none)(D:ZNe z ti to i1 i2)(d1:ZOff z to i1 i2 l1)(d2:ZOff z to i1 i2 l2)(Z:ZAt b1 b2 s.heap z ti to i1 i2 l1 l2 .none 0)(t1:SqAt b1 s.heap l1 xs)(t2:SqAt b2 s.heap l2 ys)(hxy:xs.size=ys.size)(hn:xs.size<=sizeLine)(hQ:∀ h' tk acc c as,(∀ b o,ZOff z to i1 i2 b->s.heap.get? b=some o->h'.get? b=some o)->h'.get? s.heap.objs.size=some (M6 acc c)->as.length=xs.size->vo h' xs ys s.heap.objs.size as->acc.toList=as.map Value.ref ->
   Q (.ref s.heap.objs.size) {s with heap:=h',toks:=tk}):wpAny (model P w) A (call (.type "list") [.ref z]) Q E s:=by
 refine callType_codes (Q₁:=λobj s₁=>obj=.ref s.heap.objs.size/\s₁={s with heap:=s.heap.push {cls:=.type "list",data:=.seq #[]}}) PySem.F.called_list (PySem.F.typeCall_list_1 _) PySem.F.entry_list_init
  (code_list_new _ ⟨rfl,rfl⟩) λobj s₁ h₁=>?_
 obtain⟨rfl,rfl⟩:=h₁;have hS:(s.heap.push {cls:=.type "list",data:=.seq #[]}).get? s.heap.objs.size=some {cls:=.type "list",data:=.seq #[]}:=zad _ rfl;obtain⟨zz,its,⟨oa,ob,out⟩,one,two⟩:=id Z;have lz:z<s.heap.objs.size:=zae zz;have lti:ti<s.heap.objs.size:=zae its;have lto:to<s.heap.objs.size:=zae out;have li:∀{b:Bool}{it l:Addr}{i:Nat},ItAt b s.heap it l i->it<s.heap.objs.size:=λ{b it l i} q=>by
  cases b with
  |true=>obtain⟨o,e,_⟩:=(show s.heap.IsTupleIter it l i from q);exact zae e
  |false=>obtain⟨o,e,_⟩:=(show s.heap.IsListIter it l i from q);exact zae e
 have ls:∀{b:Bool}{l:Addr}{xs:Array Value},SqAt b s.heap l xs->l<s.heap.objs.size:=λ{b l xs} q=>by
  cases b with
  |true=>obtain⟨o,e,_⟩:=(show s.heap.IsTuple l xs from q);exact zae e
  |false=>obtain⟨o,e,_⟩:=(show s.heap.IsList l xs from q);exact zae e
 refine⟨⟨_,hS,rfl⟩,PySem.F.args_list_init_2 _ _,?_⟩;show wpAny _ _ (do let old <- Builtin.List.listItems (.ref s.heap.objs.size);Builtin.List.listUpdate (.ref s.heap.objs.size) (λ_=>#[]);letGo old.toList.reverse;Builtin.List.listExtendWith (.ref s.heap.objs.size) (.ref z) .none) _ _ _
 apply zaa;unfold Builtin.List.listItems;apply zaa;refine wpAny_seqItems hS rfl (zab (?_:_));show wpAny _ _ (updateSeq s.heap.objs.size (λ_=>#[]) >>= λ_=>letGo (#[]:Array Value).toList.reverse >>= λ_=>Builtin.List.listExtendWith (.ref s.heap.objs.size) (.ref z) .none) _ _ _;apply zaa;refine wpAny_updateSeq hS rfl (?_:_);have hS₂:=Heap.get?_update_self (Obj.mapSeq (λ_=>(#[]:Array Value))) hS rfl;have oth:∀b o,s.heap.get? b=some o->((s.heap.push {cls:=.type "list",data:=.seq #[]}).update s.heap.objs.size (Obj.mapSeq (λ_=>(#[]:Array Value)))).get? b=some o :=
  λb o e=>(Heap.get?_update_other _ _ (Nat.ne_of_gt (zae e))).trans (zac _ e)
 apply zaa;refine wpAny_letGo (?_:_);generalize (s.heap.push {cls:=.type "list",data:=.seq #[]}).update s.heap.objs.size (Obj.mapSeq (λ_=>(#[]:Array Value)))=g at *;have zz2:IsZip g z ti to .none:=oth z _ zz;unfold Builtin.List.listExtendWith;apply zaa;refine wpAny_typeOf (T:="zip") ⟨_,zz2,rfl⟩ (?_:_);have h1:Builtin.List.listSameRef (.ref s.heap.objs.size) (.ref z)=false:=by simp[Builtin.List.listSameRef,Nat.ne_of_gt lz]
 simp only[h1,show(Value.type "zip"==Value.type "list")=false by decide,show(Value.type "zip"==Value.type "tuple")=false by decide,Bool.or_false,Bool.false_eq_true,if_false]
 apply zaa;refine wpAny_pyIter_zip zz2 (?_:_);apply zaa;apply wpAny_holding;refine Hi ⟨_,zz2,rfl⟩ (?_:_);have goal:∀(h:Heap)(c:Nat),(∀b o,b≠s.heap.objs.size->g.get? b=some o->h.get? b=some o)->h.get? s.heap.objs.size=some (M6 #[] c) ->
   codeAny (model P w) A.in1 (.builtin "list.extend.loop" ⟨[.ref s.heap.objs.size,.ref z,.none],[]⟩) (wants (λr s₂=>r=Value.none/\Q (Value.ref s.heap.objs.size) s₂) E) {s with heap:=h,toks:=s.toks}:=λh c hk hS3=>by
  have up:∀b o,s.heap.get? b=some o->h.get? b=some o:=λb o e=>hk b o (Nat.ne_of_lt (zae e)) (oth b o e);refine z2z (s:=s) (h0:=s.heap) (A:=A.in1) (b1:=b1) (b2:=b2) (S:=s.heap.objs.size) (ys:=ys) hh D d1 d2 lz lti lto (li one) (li two) (Nat.ne_of_lt (ls t1)) (Nat.ne_of_lt (ls t2)) hxy hn (λh' tk acc c as kp gS el pa ea=>?_) xs.size 0 _ _ _ #[] [] (Nat.sub_zero _) (Nat.zero_le _)
   (.inl ⟨rfl,up _ _ zz,up _ _ its,⟨oa,ob,up _ _ out⟩,one.at λo e=>up _ o e,two.at λo e=>up _ o e⟩) (t1.at λo e=>up _ o e) (t2.at λo e=>up _ o e) (λb o _ _ e=>up b o e) hS3 rfl rfl ⟨(λ_ q=>nomatch q),List.nodup_nil,λj a e=>by simp at e⟩
  exact⟨rfl,hQ h' tk acc c as (λb o q e=>kp b o (Nat.ne_of_lt (zae e)) q e) gS el pa ea⟩
 refine wpAny_ite_split (λ_=>?_) (λ_=>zab ⟨plainId_quiet PySem.F.plain_extend_loop _,goal _ _ (λb o _ e=>e) hS₂⟩);apply zaa;apply wpAny_rule;apply zaa;show wpAny _ _ (updateSeq s.heap.objs.size (·.push .none) >>= λ_=>updateSeq s.heap.objs.size (·.pop)) _ _ _;apply zaa;refine wpAny_updateSeq hS₂ rfl (?_:_);have hS3:=Heap.get?_update_self (Obj.mapSeq (·.push Value.none)) hS₂ rfl;refine wpAny_updateSeq (hz:=by seq_fits) hS3 rfl (?_:_)
 have hS4:=Heap.get?_update_self (Obj.mapSeq (·.pop)) hS3 rfl;refine zab ⟨plainId_quiet PySem.F.plain_extend_loop _,goal _ _ (λb o hb e=>?_) hS4⟩;exact(Heap.get?_update_other _ _ (Ne.symm hb)).trans ((Heap.get?_update_other _ _ (Ne.symm hb)).trans e)
def Kn(K:W.Frag)(ta:TA):TE:=λσ H Q=>ta σ H λvs H1=>∃l1 l2 xs ys,vs=[.ref l1,.ref l2]/\SqK true K H1 l1 xs/\SqK true K H1 l2 ys/\xs.length=ys.length/\xs.length<=1000 /\
 ∀(l:Addr)(H':Hp)(as:List Addr),Same H1 H'->H1 l=none->H' l=some (.lst (as.map V.ref))->as.length=xs.length->(∀(j:Nat) b,as[j]?=some b->∃x y,xs[j]?=some x/\ys[j]?=some y/\H' b=some (.tup [x,y]))->Q (.ref l) H'
def Pq{xs:List V}{us:List Value}(h:Vals xs us):∀{j:Nat}{u:Value},us[j]?=some u->∃x,xs[j]?=some x/\RelV x u:=by
 induction h with
 |nil=>intro j u e;simp at e
 |cons h t ih =>
  intro j u e;cases j with
  |zero=>simp at e;subst e;exact⟨_,rfl,h⟩
  |succ j =>
   obtain⟨x,e1,e2⟩:=ih (j:=j) (u:=u) (by simpa using e)
   exact⟨x,by simpa using e1,e2⟩
def Qe{X:Cx}{a b:Expr}{ta:TA}{p p2 pos pos2:Pos}(hc:X.calm=true)(hg:Gl X "list")(hm:X.mg "list" = none)(hg2:Gl X "zip")(hm2:X.mg "zip" = none)(ha:PA X [a,b] ta)(h1:starEach [.Call (.Name "zip" p2) [a,b] [] pos2] X.env=(false,eval (.Call (.Name "zip" p2) [a,b] [] pos2) X.env)::starEach [] X.env:=by rfl)(he:starEach [a,b] X.env=(false,eval a X.env)::starEach [b] X.env:=by rfl)(hpl:(backTo pos2 (starEach [b] X.env)).any (·.1)=false:=by rfl) :
  PE X (.Call (.Name "list" p) [.Call (.Name "zip" p2) [a,b] [] pos2] [] pos) (Kn X.K ta):=by
 intro pn s σ H Q I h;refine wpAny_Call_Name_kw (ju I hg hm ZZ.boot_list' ?_ (by decide) (by decide))
 refine PyProof.Rows.callWith_type1 ?_ h1 (by rfl)
 rw[h1];show wpAny _ _ (spliced ((false,eval _ X.env)::backTo pos (starEach [] X.env))) _ _ s;refine Calls.spliced_cons ?_;refine wpAny_Call_Name_kw (ju I hg2 hm2 U1 ?_ (by decide) (by decide))
 refine PyProof.Rows.callWith_type1 (thn (ha pos2 pn s σ H _ I h) λus s1 ⟨vs,H1,I1,r1,l1,l2,xs,ys,e,e1,e2,hl,hn,q⟩=>?_) he hpl;subst e;obtain⟨u,v,rfl,ru,rv⟩:=Ps r1;cases ru;cases rv;obtain⟨its1,r1,g1⟩:=Wc I1 e1;obtain⟨its2,r2,g2⟩:=Wc I1 e2;refine S3 (xs:=its1.toArray) (ys:=its2.toArray) g1 g2 λg Z kp=>Calls.spliced_nil ?_;have D:ZNe (s1.heap.objs.size+4) (s1.heap.objs.size+2) (s1.heap.objs.size+3) s1.heap.objs.size (s1.heap.objs.size+1):=by
  constructor <;> (intro z;exact absurd (show(_:Nat)=_ from z) (by omega))
 have off:∀{c:Addr},c<s1.heap.objs.size->ZOff (s1.heap.objs.size+4) (s1.heap.objs.size+3) s1.heap.objs.size (s1.heap.objs.size+1) c:=λ{c} q=>⟨Nat.ne_of_lt (Nat.lt_of_lt_of_le q (Nat.le_add_right _ _)),Nat.ne_of_lt (Nat.lt_of_lt_of_le q (Nat.le_add_right _ _)),Nat.ne_of_lt q,Nat.ne_of_lt (Nat.lt_of_lt_of_le q (Nat.le_add_right _ _))⟩;have lts:∀{l:Addr}{its:List Value},SqAt true s1.heap l its.toArray->l<s1.heap.objs.size:=λq=>by
  obtain⟨o,e,_⟩:=(show s1.heap.IsTuple _ _ from q);exact zae e
 have big:s1.heap.objs.size+4<g.objs.size:=zae Z.zz;have n1:=r1.length;have n2:=r2.length;refine Jq (s:={s1 with heap:=g}) (A:=X.A) (I1.ok.hd hc) D (off (lts g1)) (off (lts g2)) Z (g1.at λo e=>kp _ o e) (g2.at λo e=>kp _ o e) (by rw[zap,zap];omega) (by rw[zap,<- n1];exact zak hn (by decide)) λh' tk acc c as keep gS el pa ea=>?_
 dsimp only at keep gS pa ⊢
 have keep':∀b o,s1.heap.get? b=some o->h'.get? b=some o:=λb o e=>keep b o (off (zae e)) (kp b o e);have ix:∀(j:Nat) b,as[j]?=some b->∃x y u v,xs[j]?=some x/\ys[j]?=some y/\RelV x u/\RelV y v/\IsPair h' b u v:=λj b ej=>by
  obtain⟨u,v,eu,ev,pr⟩:=pa.2.2 j b ej;obtain⟨x,ex,rx⟩:=Pq r1 (by simpa using eu)
  obtain⟨y,ey,ry⟩:=Pq r2 (by simpa using ev)
  exact⟨x,y,u,v,ex,ey,rx,ry,pr⟩
 obtain⟨f,hf⟩:∃f:Addr->V×V,∀(j:Nat) b,as[j]?=some b->∃u v,xs[j]?=some (f b).1/\ys[j]?=some (f b).2/\RelV (f b).1 u/\RelV (f b).2 v/\IsPair h' b u v:=by
  have:∀b:Addr,∃p:V×V,∀(j:Nat),as[j]?=some b->∃u v,xs[j]?=some p.1/\ys[j]?=some p.2/\RelV p.1 u/\RelV p.2 v/\IsPair h' b u v:=λb=>by
   by_cases hb:b∈as
   ·obtain⟨j,ej⟩:=List.getElem?_of_mem hb;obtain⟨x,y,u,v,t1,t2,t3,t4,t5⟩:=ix j b ej;refine⟨(x,y),λj' ej'=>?_⟩;have:j'=j:=by
     obtain⟨l1,e1⟩:=zag.mp ej';obtain⟨l2,e2⟩:=zag.mp ej;exact(List.getElem_inj pa.2.1).mp (e1.trans e2.symm)
    subst this;exact⟨u,v,t1,t2,t3,t4,t5⟩
   ·exact⟨(.non,.non),λj ej=>absurd (zan ej) hb⟩
  exact⟨λb=>(this b).choose,λj b ej=>(this b).choose_spec j ej⟩
 have nd:((((g.objs.size:Addr),HO.lst (as.map V.ref))::as.map λb=>(b,HO.tup [(f b).1,(f b).2])).map Prod.fst).Nodup:=by
  rw[List.map_cons,List.map_map,List.nodup_cons];have e1:as.map (Prod.fst ∘ λb=>(b,HO.tup [(f b).1,(f b).2]))=as:=by
   rw[show(Prod.fst ∘ λb=>(b,HO.tup [(f b).1,(f b).2]))=id from rfl,List.map_id]
  rw[e1];exact⟨λm=>Nat.lt_irrefl _ (pa.1 _ m),pa.2.1⟩
 have gb:(s1.heap.objs.size:Nat)<=g.objs.size:=by have:(s1.heap.objs.size+4:Nat)<g.objs.size:=big;omega
 have hp:∀p∈((g.objs.size:Addr),HO.lst (as.map V.ref))::as.map (λb=>(b,HO.tup [(f b).1,(f b).2])),s1.heap.objs.size<=p.1:=λp mp=>by
  rcases zam.mp mp with rfl|mp
  ·exact gb
  ·obtain⟨b,mb,rfl⟩:=zah.mp mp;exact zak gb (Nat.le_of_lt (pa.1 b mb))
 have lf:H1 g.objs.size=none:=I1.hok.fresh gb;have I2:=I1.laidM (t':=tk) keep' nd hp (λp mp=>by
  rcases zam.mp mp with rfl|mp
  ·refine(show xy X.prog X.w _ h' _ (.lst _) from⟨by rw[zLm,el,zap,<- n1];exact zak hn (by decide),acc.toList,c,by rw[ea];exact W4 as,?_⟩)
   rw[Array.toArray_toList];exact gS
  ·obtain⟨b,mb,rfl⟩:=zah.mp mp;obtain⟨j,ej⟩:=List.getElem?_of_mem mb;obtain⟨u,v,t1,t2,t3,t4,t5⟩:=hf j b ej;refine(show xy X.prog X.w _ h' b (.tup [(f b).1,(f b).2]) from⟨by rw[sizeLine_eq];show(2:Nat)<=_;decide,[u,v],.cons t3 (.cons t4 .nil),⟨_,t5,rfl,_,rfl⟩,_,t5,rfl⟩))
 refine⟨.ref g.objs.size,_,I2,rfl,q _ _ as (W5 I1 hp) lf (gf nd zao) (by rw[el,zap,<- n1]) λj b ej=>?_⟩
 obtain⟨u,v,t1,t2,t3,t4,t5⟩:=hf j b ej;exact⟨(f b).1,(f b).2,t1,t2,gf (p:=(b,HO.tup [(f b).1,(f b).2])) nd (zal _ (zah.mpr ⟨b,zan ej,rfl⟩))⟩
theorem Sl{K:W.Frag}{H H':Hp}{O O':List Addr}(g:Grow O O' H H'):∀{ds es:List D}{xs ys:List V}{as:List Addr},Reps K H O ds xs->Reps K H O es ys->ds.length=es.length->as.length=ds.length ->
  (∀(j:Nat) b,as[j]?=some b->∃x y,xs[j]?=some x/\ys[j]?=some y/\H' b=some (.tup [x,y]))->Reps K H' O' (zipD ds es) (as.map V.ref)
 |[],es,xs,ys,as,_,_,_,la,_=>by
  cases as with
  |nil=>rfl
  |cons _ _=>simp at la
 |d::ds,[],_,_,_,_,_,l,_,_=>by simp at l
 |d::ds,e::es,xs,ys,[],_,_,_,la,_=>by simp at la
 |d::ds,e::es,xs,ys,a::as,r1,r2,l,la,h=>by
  obtain⟨v,r',rfl,q,t⟩:=r1;obtain⟨w,s',rfl,q2,t2⟩:=r2;obtain⟨x,y,e1,e2,e3⟩:=h 0 a (by simp)
  have:v=x:=by simpa using e1
  subst this;have:w=y:=by simpa using e2
  subst this;refine⟨.ref a,as.map V.ref,rfl,⟨a,_,rfl,⟨SqT.of e3,e3⟩,v,[w],rfl,Rep.grow g _ _ q,w,[],rfl,Rep.grow g _ _ q2,rfl⟩,?_⟩;exact Sl g t t2 (by simpa using l) (by simpa using la) λj b ej=>by
   obtain⟨x,y,f1,f2,f3⟩:=h (j+1) b (by simpa using ej)
   exact⟨x,y,by simpa using f1,by simpa using f2,f3⟩
section
variable{p p2 pos2:Pos}
def E4(t:TDs):TD:=λρ φ=>t ρ λrs=>match rs with
 |[⟨.val,.tup xs⟩,⟨.val,.cn (.tup cs)⟩]=>xs.length=cs.length/\xs.length<=1000/\φ (df (.lst (zipD xs (cs.map cstD))))
 |_=>False
def Hv(hm:X.mg "list" = none)(hm2:X.mg "zip" = none)(ha:EA Γ X [a,b] t)(hc:X.calm=true:=by rfl)(hg:Gl X "list":=by rfl)(hg2:Gl X "zip":=by rfl)(h1:starEach [.Call (.Name "zip" p2) [a,b] [] pos2] X.env=(false,eval (.Call (.Name "zip" p2) [a,b] [] pos2) X.env)::starEach [] X.env:=by rfl)(he:starEach [a,b] X.env=(false,eval a X.env)::starEach [b] X.env:=by rfl)(hpl:(backTo pos2 (starEach [b] X.env)).any (·.1)=false:=by rfl) :
  ED Γ X (.Call (.Name "list" p) [.Call (.Name "zip" p2) [a,b] [] pos2] [] pos) (E4 t):=λH₀ =>
 impE (Qe hc hg hm hg2 hm2 (ha H₀) h1 he hpl) λσ H Q q=>by
  obtain⟨ρ,oo,R,φ,hφ,kk⟩:=q;refine⟨ρ,oo,R,_,hφ,λvs rs H1 s1 rvs h1=>?_⟩;split at h1
  ·rename_i xs cs;obtain⟨hl,hn,h1⟩:=h1;obtain⟨v1,ws,rfl,rv1,v2,ws2,rfl,rv2,e⟩:=rvs;cases (show ws2=[] from e);obtain⟨p1,ys1,rfl,q1,rp1⟩:=rv1.view;obtain⟨p2,ys2,rfl,q2,cr⟩:=Rx (H:=H1) (show CRep X.K (.tup cs) v2 from rv2);have rp2:Reps X.K H1 (oo.map Prod.snd) (cs.map cstD) ys2:=gm cr;have m1:=rp1.length;have m2:=cx cr;refine⟨p1,p2,ys1,ys2,rfl,q1.1,q2,by omega,by omega,λlst H' as sm fl el la hp=>?_⟩
   have fl0:lst∉oo.map Prod.snd:=R.ofree (s1.free fl);have g:Grow (oo.map Prod.snd) (lst::oo.map Prod.snd) H1 H':=⟨λb u h n=>⟨sm b u h,λz=>(zam.mp z).elim (λe=>zx h fl e) n⟩,λb xs h=>sm b _ h,λb ob u h=>sm b _ h⟩;refine kk (.ref lst) (df (.lst (zipD xs (cs.map cstD)))) H' (s1.trans sm) ⟨lst,rfl,s1.free fl,fl0,as.map V.ref,el,?_⟩ h1;exact Sl g rp1 rp2 (by rw[zLm];exact hl) (by rw[la,m1]) hp
  ·exact h1.elim
end
def ku:∀{ts:List Str}{us:List Value},Vals (ts.map V.str) us->∃l:List (Str×Tok),us=strValues l/\l.map (·.1)=ts
 |[],_,.nil=>⟨[],rfl,rfl⟩
 |t::ts,_,.cons r q=>by
  obtain⟨k,rfl⟩:=r;obtain⟨l,rfl,e⟩:=ku q;exact⟨(t,k)::l,rfl,by rw[List.map_cons,e]⟩
def Wy(n:Nat):∀(ts:List Str)(a:Nat),ts.foldl (λacc (t:Str)=>acc+t.length+n) a=a+(ts.map λt=>t.length+n).sum
 |[],a=>by simp
 |t::ts,a=>by
  rw[List.foldl_cons,Wy n ts,List.map_cons,List.sum_cons];omega
def Cb:MtR X "str.join" (λx xs H Q=>∃sep p ts,x=.str sep/\xs=[.ref p]/\(SqL X.K H p (ts.map V.str)\/SqT X.K H p (ts.map V.str))/\(ts.map λt=>t.length+sep.length).sum<=sizeLine/\Q (.str (Str.join sep ts)) H):=by
 intro pn s σ H x xs v us Q I rx rs h;obtain⟨sep,p,ts,rfl,rfl,hq,hb,q⟩:=h;obtain⟨t,rfl⟩:=rx;obtain⟨u,rfl,ru⟩:=uy rs;cases ru;have fin:∀l:List (Str×Tok),l.map (·.1)=ts->(joinMade sep l).post (λv s'=>EP X pn σ Q v s') s:=λl el=>by
  have lg:(Builtin.Str.glued sep ts).length<=sizeLine:=by
   rw[size_glued];refine zak ?_ hb;have e:(ts.map λt=>t.length+sep.length).sum=(ts.map (·.length)).sum+ts.length*sep.length:=by
    clear hb q hq el
    induction ts with
    |nil=>simp
    |cons t ts ih=>simp[ih,Nat.add_mul];omega
   rw[e];exact Nat.add_le_add_left (Nat.mul_le_mul_right _ (Nat.sub_le _ _)) _
  have two:EP X pn σ Q (.str (Builtin.Str.glued sep ts) s.toks) {s with toks:=s.toks+1}:=⟨.str (Str.join sep ts),H,I.tok _,⟨s.toks,by rw[PySem.StrLaws.glued_eq_join]⟩,q⟩
  match l,el with
  |[],el=>subst el;exact⟨lg,two⟩
  |[p],el=>subst el;exact⟨.str p.1,H,I,⟨p.2,rfl⟩,q⟩
  |p::r::l,el=>subst el;exact⟨lg,two⟩
 have hl:∀l:List (Str×Tok),l.map (·.1)=ts->Builtin.Str.tooLong ((l.map (·.1)).toArray.foldl (·+·.length+sep.length) 0)=false:=λl el=>by
  rw[el];unfold Builtin.Str.tooLong;simp only[List.foldl_toArray];rw[Wy];simp;omega
 rcases hq with hq|hq
 ·obtain⟨its,rv,pl,hz⟩:=I.list hq;obtain⟨l,rfl,el⟩:=ku rv;exact call_meets PySem.F.slot_str_join (typeIs_str s sep t) PySem.F.entry_str_join (PySem.F.args_str_join_2 _ _) (meets_str_join_list sep t p l (hl l el)) ⟨pl.isList,fin l el⟩
 ·obtain⟨its,rv,pl,hz⟩:=I.tuple hq;obtain⟨l,rfl,el⟩:=ku rv;obtain⟨o,g,c,n,d⟩:=pl;exact call_meets PySem.F.slot_str_join (typeIs_str s sep t) PySem.F.entry_str_join (PySem.F.args_str_join_2 _ _) (meets_str_join_tuple sep t p l (hl l el)) ⟨⟨o,n,g,c,d⟩,fin l el⟩
def j7{K:W.Frag}{H:Hp}{O:List Addr}:∀{ns:List Str}{xs:List V},Reps K H O (ns.map D.str) xs->xs=ns.map V.str
 |[],_,h=>h
 |n::ns,xs,h=>by
  obtain⟨v,r,rfl,q,t⟩:=h;cases (show v=_ from q);rw[j7 t];rfl
variable{td:TD}
def E5(td te:TD):TD:=λρ φ=>td ρ λx=>match x.d with
 | .str sep=>te ρ λy=>(match y.d with
  |.lst ds=>∃ts:List Str,ds=ts.map D.str/\(ts.map λt=>t.length+sep.length).sum<=sizeLine/\φ (dv (.str (Str.join sep ts)))
  |.tup ds=>∃ts:List Str,ds=ts.map D.str/\(ts.map λt=>t.length+sep.length).sum<=sizeLine/\φ (dv (.str (Str.join sep ts)))
  | _=>False)
 |_=>False
def Rp(ho:ED Γ X o td)(he:ED Γ X e te)(hbase:attributeBase o "join" X.env (eval o X.env)=eval o X.env:=by rfl)(hfew:((backTo cpos (starEach [e] X.env)).all (λx=>!x.1)&&(backToKw cpos (keywordEach [] X.env)).all (λx=>x.1.isSome)&&decide (([e]:List Expr).length+([]:List Keyword).length+(if ([]:List Keyword).isEmpty then 0 else 1)<30))=true:=by rfl)(hline:(apos.endLine==cpos.line)=true:=by rfl)(hs:starEach [e] X.env=(false,eval e X.env)::starEach [] X.env:=by rfl)(hpl:(backTo cpos (starEach [] X.env)).any (·.1)=false:=by rfl) :
  ED Γ X (.Call (.Attribute o "join" apos) [e] [] cpos) (E5 td te):=λH₀ =>
 impE (Yv PySem.F.plainAttrs_str PySem.F.slot_str_join PySem.F.type_str_join Cb (ho H₀) (xx (he H₀) vb hs) hbase hfew hline hs hpl) λσ H Q q=>by
  obtain⟨ρ,oo,R,φ,hφ,kk⟩:=q;refine⟨ρ,oo,R,_,hφ,λv r H1 s1 rv h1=>?_⟩;obtain⟨kd,d⟩:=r;cases d with
  |str sep =>
   cases (show v=_ from rv.view)
   refine⟨rfl,ρ,oo,R.to s1,_,h1,λv2 r2 H2 s2 rv2 h2=>?_⟩;obtain⟨kd2,d2⟩:=r2;cases d2 with
   |lst ds =>
    obtain⟨ts,rfl,hb,h2⟩:=h2;obtain⟨a,xs,rfl,q,rp⟩:=rv2.view;cases j7 rp;exact⟨sep,a,ts,rfl,rfl,.inl (SqL.of q),hb,kk _ (dv (.str (Str.join sep ts))) H2 (s1.trans s2) (by exact rfl) h2⟩
   |tup ds =>
    obtain⟨ts,rfl,hb,h2⟩:=h2;obtain⟨a,xs,rfl,q,rp⟩:=rv2.view;cases j7 rp;exact⟨sep,a,ts,rfl,rfl,.inr q.1,hb,kk _ (dv (.str (Str.join sep ts))) H2 (s1.trans s2) (by exact rfl) h2⟩
   |_=>exact h2.elim
  |_=>exact h1.elim
variable{M:Model}
def Uj{Γ:PySem.Ctx}{p:Pos}{t:Sem Fin}{fs:List Frame}{s s':Shared}{e:End}(h:Runs M Γ p t fs s e s'):s.toks<=s'.toks:=by
 induction h <;> first
  |exact zaj _
  |assumption
  |exact zak (by assumption) (by assumption)
  |(rename_i ih;exact zak (Nat.le_succ _) ih)
def Kh{Γ:PySem.Ctx}{p:Pos}{g:Nat}{r:Resume}{s s':Shared}{res:GenResult}(h:Wakes M Γ p g r s res s'):s.toks<=s'.toks:=by
 unfold Wakes at h;split at h
 ·exact h.elim
 ·split at h
  ·obtain⟨e1,s1,h,_,_,rfl⟩:=h;have:=Uj h;exact this
  ·obtain⟨_,rfl⟩:=h;exact zaj _
  ·obtain⟨_,rfl⟩:=h;exact zaj _
 ·obtain⟨e1,s1,h,_,_,rfl⟩:=h;have:=Uj h;exact this
 ·obtain⟨_,rfl⟩:=h;exact zaj _
 ·obtain⟨_,rfl⟩:=h;exact zaj _
def z3c{α:Type}{Γ:PySem.Ctx}(n:Nat):∀(t:Sem α)(Q:α->Pos->Shared->Prop)(E:Value->Pos->Shared->Prop)(p:Pos)(s:Shared),n<=s.toks->Sem.wp M Γ t Q E p s->Sem.wp M Γ t (λa p s'=>Q a p s'/\n<=s'.toks) (λe p s'=>E e p s'/\n<=s'.toks) p s:=by
 intro t
 induction t with
 |pure a=>intro Q E p s hn h;exact⟨h,hn⟩
 |raise e=>intro Q E p s hn h;exact⟨h,hn⟩
 |unsupported _=>intro Q E p s hn h;exact h
 |finish _=>intro Q E p s hn h;exact h
 |rule _ k ih=>intro Q E p s hn h;exact ih () Q E p s hn h
 |«at» p' k ih=>intro Q E p s hn h;exact ih () Q E p' s hn h
 |load a _ k ih=>intro Q E p s hn h;obtain⟨o,ho,h⟩:=h;exact⟨o,ho,ih o Q E p s hn h⟩
 |update a _ f k ih=>intro Q E p s hn h;exact⟨h.1,ih () Q E p _ hn h.2⟩
 |loadIfAlive a k ih=>intro Q E p s hn h;exact ih _ Q E p s hn h
 |point _ k ih=>intro Q E p s hn h;exact ih () Q E p s hn h
 |register _ _=>intro Q E p s hn h;exact h
 |alloc o k ih=>intro Q E p s hn h;exact ih _ Q E p _ hn h
 |fresh k ih=>intro Q E p s hn h;exact ih _ Q E p _ (Nat.le_succ_of_le hn) h
 |ask k ih=>intro Q E p s hn h;exact ih _ Q E p s hn h
 |choose src m k ih=>intro Q E p s hn h;exact⟨h.1,ih _ Q E p _ hn h.2⟩
 |os q _ k ih=>intro Q E p s hn h;exact ih _ Q E p _ hn h
 |call c hd _ _ k ih=>intro Q E p s hn h;obtain⟨r,s',hr,h⟩:=h;exact⟨r,s',hr,ih r Q E p s' (zak hn (Uj hr)) h⟩
 |handled own k ih=>intro Q E p s hn h;exact ih _ Q E p s hn h
 |genState g k ih=>intro Q E p s hn h;obtain⟨st,hs,h⟩:=h;exact⟨st,hs,ih _ Q E p s hn h⟩
 |newGen c k ih=>intro Q E p s hn h;exact ih _ Q E p _ hn h
 |resume g r _ k ih=>intro Q E p s hn h;obtain⟨res,s',hw,h⟩:=h;exact⟨res,s',hw,ih _ Q E p s' (zak hn (Kh hw)) h⟩
 |yield _ _ _ _ _=>intro Q E p s hn h;exact h
 |stack k ih=>intro Q E p s hn h;exact ih _ Q E p s hn h
 |fork _ _=>intro Q E p s hn h;exact h
 |thread k ih=>intro Q E p s hn h;exact ih _ Q E p s hn h
 |await _ _=>intro Q E p s hn h;exact h
def wpAny_le{α:Type}{A:Around}{t:Sem α}{Q:α->Shared->Prop}{E:Value->Shared->Prop}{s:Shared}(h:wpAny M A t Q E s):wpAny M A t (λa s'=>Q a s'/\s.toks<=s'.toks) (λe s'=>E e s'/\s.toks<=s'.toks) s :=
 λΓ p hΓ=>z3c s.toks t _ _ p s (zaj _) (h Γ p hΓ)
def Nz:MtR X "str.startswith" (λx xs H Q=>∃a b,x=.str a/\xs=[.str b]/\Q (.bl (Txt.startswith a b)) H):=by
 intro pn s σ H x xs v us Q I rx rs h;obtain⟨a,b,rfl,rfl,q⟩:=h;obtain⟨t,rfl⟩:=rx;obtain⟨u,rfl,ru⟩:=uy rs;obtain⟨t2,rfl⟩:=ru;exact SC.startswith ⟨.bl _,H,I,rfl,q⟩
def Kv{prog:Program}{w:World}{A:Around}{E:Value->Shared->Prop}{s:Shared}{x y:Str}{t u:Tok}{Q:Value->Shared->Prop}(hy:(y.length==0)=false)(hsz:x.length<=sizeLine)(hsz2:(Txt.split x y).length<=sizeLine)(hq:∀ l tk,l.map (·.1)=Txt.split x y->Q (.ref s.heap.objs.size) {s with toks:=tk,heap:=s.heap.push {cls:=.type "list",data:=.seq (strValues l).toArray}}) :
  wpAny (model prog w) A (call (.builtin "str.split") [.str x t,.str y u]) Q E s:=by
 cases h1:(decide (x.length<y.length) || decide (Builtin.Str.strKind x<Builtin.Str.strKind y))
 ·cases hf:(Builtin.Str.occurrences x y 0 x.length (x.length+1)).isEmpty
  ·have e:Txt.split x y=Builtin.Str.partsBetween x (Builtin.Str.occurrences x y 0 x.length (x.length+1)) y.length:=(if_neg (ne_true_of_eq_false h1)).trans (if_neg (ne_true_of_eq_false hf));refine call_meets F.slot_str_split (typeIs_str _ _ _) F.entry_str_split (F.args_str_split_2 _ _) (meets_str_split_sep x y t u h1 hy hf hsz (by rw[<- e];exact hsz2)) ?_
   show wants Q E _ {s with toks:=_,heap:=s.heap.push {cls:=.type "list",data:=.seq (strsFrom s.toks (Builtin.Str.partsBetween x (Builtin.Str.occurrences x y 0 x.length (x.length+1)) y.length)).toArray}};rw[strsFrom_eq];exact hq (numbered s.toks _) _ ((numbered_texts _ _).trans e.symm)
  ·exact call_meets F.slot_str_split (typeIs_str _ _ _) F.entry_str_split (F.args_str_split_2 _ _) (meets_str_split_not_found x y t u h1 hy hf)
    (hq [(x,t)] s.toks ((if_neg (ne_true_of_eq_false h1)).trans (if_pos hf)).symm)
 ·exact call_meets F.slot_str_split (typeIs_str _ _ _) F.entry_str_split (F.args_str_split_2 _ _) (meets_str_split_cannot_occur x y t u h1)
   (hq [(x,t)] s.toks (if_pos h1).symm)
def qj:∀l:List (Str×Tok),Vals ((l.map (·.1)).map V.str) (strValues l)
 |[]=>.nil
 |p::l=>.cons ⟨p.2,rfl⟩ (qj l)
def Jn:MtR X "str.split" (λx xs H Q=>∃a b,x=.str a/\xs=[.str b]/\(b.length==0)=false/\a.length<=sizeLine/\(Txt.split a b).length<=sizeLine/\∀l,H l=none->Q (.ref l) (upd H l (.lst ((Txt.split a b).map V.str)))):=by
 intro pn s σ H x xs v us Q I rx rs h;obtain⟨a,b,rfl,rfl,hb,hl,hl2,q⟩:=h;obtain⟨t,rfl⟩:=rx;obtain⟨u,rfl,ru⟩:=uy rs;obtain⟨t2,rfl⟩:=ru;refine Kv hb hl hl2 λl tk el=>?_;have vs:=qj l;rw[el]at vs;exact⟨.ref s.heap.objs.size,_,I.lnew (its:=strValues l) (t':=tk) vs (by rw[zLm];exact hl2),rfl,q _ I.fresh⟩
def jp{K:W.Frag}{H:Hp}{O:List Addr}:∀ws:List Str,Reps K H O (ws.map D.str) (ws.map V.str)
 |[]=>rfl
 |w::ws=>⟨_,_,rfl,rfl,jp ws⟩
def Be(td te:TD):TD:=λρ φ=>td ρ λx=>match x.d with
 | .str a=>te ρ λy=>(match y.d with
  |.str b=>φ (dv (.bl (Txt.startswith a b)))
  | _=>False)
 |_=>False
def Vq(ho:ED Γ X o td)(he:ED Γ X e te)(hbase:attributeBase o "startswith" X.env (eval o X.env)=eval o X.env:=by rfl)(hfew:((backTo cpos (starEach [e] X.env)).all (λx=>!x.1)&&(backToKw cpos (keywordEach [] X.env)).all (λx=>x.1.isSome)&&decide (([e]:List Expr).length+([]:List Keyword).length+(if ([]:List Keyword).isEmpty then 0 else 1)<30))=true:=by rfl)(hline:(apos.endLine==cpos.line)=true:=by rfl)(hs:starEach [e] X.env=(false,eval e X.env)::starEach [] X.env:=by rfl)(hpl:(backTo cpos (starEach [] X.env)).any (·.1)=false:=by rfl) :
  ED Γ X (.Call (.Attribute o "startswith" apos) [e] [] cpos) (Be td te):=λH₀ =>
 impE (Yv PySem.F.plainAttrs_str PySem.F.slot_str_startswith PySem.F.type_str_startswith Nz (ho H₀) (xx (he H₀) vb hs) hbase hfew hline hs hpl) λσ H Q q=>by
  obtain⟨ρ,oo,R,φ,hφ,kk⟩:=q;refine⟨ρ,oo,R,_,hφ,λv r H1 s1 rv h1=>?_⟩;obtain⟨kd,d⟩:=r;cases d with
  |str a =>
   cases (show v=_ from rv.view)
   refine⟨rfl,ρ,oo,R.to s1,_,h1,λv2 r2 H2 s2 rv2 h2=>?_⟩;obtain⟨kd2,d2⟩:=r2;cases d2 with
   |str b =>
    cases (show v2=_ from rv2.view)
    exact⟨a,b,rfl,rfl,kk _ (dv (.bl _)) H2 (s1.trans s2) (by exact rfl) h2⟩
   |_=>exact h2.elim
  |_=>exact h1.elim
def z2r(td te:TD):TD:=λρ φ=>td ρ λx=>match x.d with
 | .str a=>te ρ λy=>(match y.d with
  |.str b=>(b.length==0)=false/\a.length<=sizeLine/\(Txt.split a b).length<=sizeLine/\φ (df (.lst ((Txt.split a b).map D.str)))
  | _=>False)
 |_=>False
def Ht(ho:ED Γ X o td)(he:ED Γ X e te)(hbase:attributeBase o "split" X.env (eval o X.env)=eval o X.env:=by rfl)(hfew:((backTo cpos (starEach [e] X.env)).all (λx=>!x.1)&&(backToKw cpos (keywordEach [] X.env)).all (λx=>x.1.isSome)&&decide (([e]:List Expr).length+([]:List Keyword).length+(if ([]:List Keyword).isEmpty then 0 else 1)<30))=true:=by rfl)(hline:(apos.endLine==cpos.line)=true:=by rfl)(hs:starEach [e] X.env=(false,eval e X.env)::starEach [] X.env:=by rfl)(hpl:(backTo cpos (starEach [] X.env)).any (·.1)=false:=by rfl) :
  ED Γ X (.Call (.Attribute o "split" apos) [e] [] cpos) (z2r td te):=λH₀ =>
 impE (Yv PySem.F.plainAttrs_str PySem.F.slot_str_split PySem.F.type_str_split Jn (ho H₀) (xx (he H₀) vb hs) hbase hfew hline hs hpl) λσ H Q q=>by
  obtain⟨ρ,oo,R,φ,hφ,kk⟩:=q;refine⟨ρ,oo,R,_,hφ,λv r H1 s1 rv h1=>?_⟩;obtain⟨kd,d⟩:=r;cases d with
  |str a =>
   cases (show v=_ from rv.view)
   refine⟨rfl,ρ,oo,R.to s1,_,h1,λv2 r2 H2 s2 rv2 h2=>?_⟩;obtain⟨kd2,d2⟩:=r2;cases d2 with
   |str b =>
    cases (show v2=_ from rv2.view)
    obtain⟨g1,g2,g3,h2⟩:=h2;refine⟨a,b,rfl,rfl,g1,g2,g3,λl hl=>?_⟩;have s12:=s1.trans s2;exact kk (.ref l) (df (.lst _)) _ (s12.trans (yd hl _)) ⟨l,rfl,s12.free hl,R.ofree (s12.free hl),_,zu,jp _⟩ h2
   |_=>exact h2.elim
  |_=>exact h1.elim
def thnP{α:Type}{t:Sem α}{Q Q':α->Shared->Prop}{M:Model}{A:Around}{E:Value->Shared->Prop}{s:Shared}(h:wpAny M A t Q E s)(hp:0<s.toks)(hQ:∀ a s,Q a s->0<s.toks->Q' a s):wpAny M A t Q' E s :=
 wpAny_mono (ZZ.wpAny_le h) (λa s' q=>hQ a s' q.1 (Nat.lt_of_lt_of_le hp q.2)) λ_ _ q=>q.1
def upP{α:Type}{t:Sem α}{Q:α->Shared->Prop}{M:Model}{A:Around}{E:Value->Shared->Prop}{s:Shared}(h:wpAny M A t (λa s=>0<s.toks->Q a s) E s)(hp:0<s.toks):wpAny M A t Q E s:=thnP h hp λ_ _ q=>q
def PEp(X:Cx)(e:Expr)(t:TE):Prop :=
 ∀(pn:List (Addr×Obj))(s:Shared)(σ:St)(H:Hp)(Q:VK),Inv X pn σ H s->0<s.toks->t σ H Q->wpAny (model X.prog X.w) X.A (eval e X.env) (EP X pn σ Q) X.xe s
def PSp(X:Cx)(st:Stmt)(t:TS):Prop :=
 ∀(pn:List (Addr×Obj))(s:Shared)(σ:St)(H:Hp)(D:Ends),Inv X pn σ H s->0<s.toks->t D σ H->wpAny (model X.prog X.w) X.A (exec st X.env) (SP X pn D) X.xe s
def PSsp(X:Cx)(st:List Stmt)(t:TS):Prop :=
 ∀(pn:List (Addr×Obj))(s:Shared)(σ:St)(H:Hp)(D:Ends),Inv X pn σ H s->0<s.toks->t D σ H->wpAny (model X.prog X.w) X.A (execs st X.env) (SP X pn D) X.xe s
section
variable{te:TE}{st:Stmt}{rest:List Stmt}{ts us:TS}
def PE.p(h:PE X e te):PEp X e te:=λpn s σ H Q I _ q=>h pn s σ H Q I q
def PSs.p(h:PSs X rest ts):PSsp X rest ts:=λpn s σ H D I _ q=>h pn s σ H D I q
def N2(h1:PSp X st ts)(h2:PSsp X rest us):PSsp X (st::rest) (tSeq ts us):=by
 intro pn s σ H D I hp h;refine wpAny_execs_cons (thnP (h1 pn s σ H {D with nx:=us D} I hp h) hp λf s1 q hp1=>?_);cases f with
 |next =>
  obtain⟨σ',H',I',q⟩:=q;exact h2 pn s1 σ' H' D I' hp1 q
 |ret v=>exact q
 |brk=>exact q
 |cont=>exact q
def Dg{i:Nat}{x:Str}{pos':Pos}(hN:X.N.Nodup)(hi:X.N[i]?=some x)(hx:Loc X.env.scope x)(he:PEp X e te)(hs:swapsWith e (some (.Name x pos')) pos.line X.env=pure false:=by rfl)(hf:X.fn x=true\/X.env.scope.names.lookup x=some .local:=by first|exact .inl rfl|exact .inr rfl|assumption) :
  PSp X (.Assign [.Name x pos'] e pos) (tAsg te (k5 i)):=by
 intro pn s σ H D I hp h;refine wpAny_Assign_Name (thn (he pn s σ H _ I hp h) λv s1 ⟨y,H1,I1,r1,q1⟩=>?_) hs;exact Yc I1 hN hi hx r1 (λs2 I2=>⟨_,H1,I2,q1⟩) hf
end
def Qk{M:Model}{A:Around}{E:Value->Shared->Prop}{s:Shared}{scope:Scope}{globals:Addr}{n:Str}{v:Value}{r:List (Str×Value)}{qual:Str}{func:Option Addr}{code:Value}{builtins:Addr}{Q:Env->Shared->Prop}(hk:scope.kind=.function)(hl:scope.names.lookup n=some .local)(hkind:∀ x∈r,scope.names.lookup x.1=some .local\/(scope.names.lookup x.1=some .cell/\((cellsFrom (s.heap.objs.size+1) scope.names []).lookup x.1).isSome=true))(hQ:∀ env,env=newEnv scope s.heap.objs.size globals (cellsFrom (s.heap.objs.size+1) scope.names []) qual func code none builtins ->
   ∀ s',InCallC s env.locals (bindL env.kindOf ((n,v)::r) λ_=>none) env.cells (bindC env.kindOf ((n,v)::r) λ_=>none) s'->0<s'.toks->Q env s') :
  wpAny M A (newFunctionEnv scope globals [] ((n,v)::r) qual func code none builtins) Q E s:=by
 simp only[newFunctionEnv,Option.isSome_none,Bool.false_eq_true,if_false];refine zaa (wpAny_alloc ?_);refine zaa (wpAny_layCells _ (λname kind cells=>by cases hkc:kind==NameKind.cell <;> simp[hkc]) _ _ _ _ ?_)
 have ok:=cellsFrom_ok scope.names (s.heap.push {cls:=.type "frame",data:=.dict #[]}) (s.heap.objs.size+1) [] ⟨λ_ _ hm=>(nomatch hm),List.Pairwise.nil⟩ (by rw[Heap.size_push];exact zaj _)
 rw[Heap.size_push]at ok;rw[show({s with heap:=s.heap.push {cls:=.type "frame",data:=.dict #[]}}:Shared).heap.objs.size=s.heap.objs.size+1 from Heap.size_push ..];have x:InCallC s s.heap.objs.size (λ_=>none) (cellsFrom (s.heap.objs.size+1) scope.names []) (λ_=>none) {s with heap:=pushCells (s.heap.push {cls:=.type "frame",data:=.dict #[]}) scope.names} :=
  ⟨⟨⟨_,_,rfl⟩,(Heap.Ns.new s.heap (.type "frame")).keeps (pushCells_keeps _ _),λb o e=>pushCells_keeps _ _ b o (zac _ e),zaj _⟩,
   λn c hc=>(ok.empty n c (mem_of_lookup hc)).1,ok.apart,λn c hm=>(ok.empty n c hm).2⟩
 refine zaa ?_;rw[List.forIn_cons];refine zaa (zaa (wpAny_storeName_local (env:=newEnv scope s.heap.objs.size globals (cellsFrom (s.heap.objs.size+1) scope.names []) qual func code none builtins) hl x.toInCall.ns (λh' hn' hs'=>?_) (by show(scope.kind==.class || (scope.kind==.module&&_))=false;rw[hk];rfl)))
 refine zab (upP (wpAny_bindParams (s₀:=s) (env:=newEnv scope s.heap.objs.size globals (cellsFrom (s.heap.objs.size+1) scope.names []) qual func code none builtins)
  _ (λ_ _ _=>rfl) hk r (λy=>if y=n then some v else none) (λ_=>none) _ _ ⟨⟨?_,hn',λb o e=>?_,x.toInCall.fresh⟩,λk c hc=>?_,x.apart,x.above⟩ hkind λs' x' hp=>zab (hQ _ rfl s' ?_ hp)) (Nat.succ_pos _))
 ·obtain⟨h₁,tk,e⟩:=x.toInCall.same;exact⟨h',_,rfl⟩
 ·exact hs'.extBut b o (Nat.ne_of_lt (Nat.lt_of_lt_of_le (zae e) x.toInCall.fresh)) (x.toInCall.keep b o e)
 ·exact(x.cell k c hc).sameBut hs' (Nat.ne_of_gt (x.above k c (mem_of_lookup hc)))
 ·have hl':(newEnv scope s.heap.objs.size globals (cellsFrom (s.heap.objs.size+1) scope.names []) qual func code none builtins).kindOf n=some .local:=hl;unfold bindL bindC;rw[if_pos hl',if_pos hl'];exact x'
def z2c{CX:CXT}{P:Program}{w:World}{K:W.Frag}{mg:Str->Option Value}{base:Heap}{k:Nat}{f:Addr}{name qual:Str}{params:Arguments}{body:List Stmt}{scope:Scope}{dV kV doc pm qZ ct oc:Value}{an od:Option Addr}{osl:Array (Option Value)}{N ps:List Str}{sp:Sp}(lk:K.lookup f=some ⟨oc,od,.func (W.fnOf name qual params body scope dV kV doc pm an qZ ct),osl⟩)(hcd:W.codeIn K qZ qual=true)(S:zo N ps scope)(hfst:∃ p,ps.head?=some p/\scope.names.lookup p=some .local)(len:∀ vs H Q E,sp vs H Q E->vs.length=ps.length)(qY:∀ (A:Around) (outer:List Env) (s:Shared) (H:Hp) (vs:List V) (Q:VK) (E:XK),Room k (A.deeper (envOfC qual scope s.heap.objs.size f qZ))->sp vs H Q E ->
   ∃ t,PSsp (cxOf CX P w K mg base N qual scope f qZ A outer s H E) body t/\t {nx:=λ_ H'=>Q .non H',rt:=Q} (start N vs) H) :
  FnOk P w K mg base CX (k+1) f (W.fnOf name qual params body scope dV kV doc pm an qZ ct) ps sp:=by
 refine⟨len,λA outer s H args us vs Q E hr e0 hb r hsp=>?_⟩;have hl:=len _ _ _ _ hsp;have KX:K.In s.heap:=e0.mod.kin.keeps λb o e=>(e0.bs b o e).1;have lim:s.heap.NoLimit:=e0.mod.nolimit.keeps λb o e=>(e0.bs b o e).1;have hkind:∀y∈ps.zip us,scope.names.lookup y.1=some .local\/(scope.names.lookup y.1=some .cell/\((cellsFrom (s.heap.objs.size+1) scope.names []).lookup y.1).isSome=true):=λ⟨n,v⟩ hy=>by
  rcases S.par n (List.of_mem_zip hy).1 with q|q
  ·exact .inl q
  ·exact .inr ⟨q,W.cellsFrom_some _ _ _ (.inl q)⟩
 obtain⟨p,hp1,hp2⟩:=hfst;obtain⟨ps',rfl⟩:∃ps',ps=p::ps':=by
  cases ps with
  |nil=>cases hp1
  |cons a b=>exact⟨b,by rw[Option.some.inj hp1]⟩
 obtain⟨u,us',rfl⟩:∃u us',us=u::us':=by
  cases us with
  |nil=>rw[r.length]at hl;cases hl
  |cons a b=>exact⟨a,b,rfl⟩
 refine codeAny_call_function hr.depth (KX _ _ lk) rfl S.co S.gen rfl (W.codeRec_of KX hcd) (hb _ _ _ _ ?_);refine Qk S.kind hp2 (λy hy=>hkind y (zal _ hy)) λenv he s1 x hp1=>?_;subst he;refine⟨lim.keeps x.toInCall.keep,codeAny_func ?_⟩;obtain⟨t,ht,hq⟩:=qY A outer s H vs Q E (hr.deeper _) hsp;have I:Inv (cxOf CX P w K mg base N qual scope f qZ A outer s H E) [] (start N vs) H s1:=Va S hr.hd e0 hl r x;refine wpAny_mono (ht [] s1 (start N vs) H _ I hp1 hq) (λfl s' hs=>?_) λe s' hs=>hs;have fin:∀{σ':St}{H':Hp}{v:V}{u:Value},Inv (cxOf CX P w K mg base N qual scope f qZ A outer s H E) [] σ' H' s'->RelV v u->Q v H'->CE outer P w H s Q u s' :=
  λ{σ' H' v u} J rv q=>⟨v,H',J.os,J.bare,J.base,J.hok,rv,q⟩
 cases fl with
 |ret u =>
  obtain⟨v,σ',H',J,rv,q⟩:=hs;exact fin J rv q
 |next =>
  obtain⟨σ',H',J,q⟩:=hs;exact fin (v:=V.non) (u:=Value.none) J rfl q
 |brk =>
  obtain⟨_,_,_,q⟩:=hs;exact False.elim q
 |cont =>
  obtain⟨_,_,_,q⟩:=hs;exact False.elim q
variable{to:TE}{y z:Str}{j1 j2:Nat}{p1 p2:Pos}
def z3e(y z:Str)(to:TE):TE:=λσ H Q=>to σ H λx H1=>∃a,x=.str a/\a.length+(a.length+1)*z.length<=16777216/\Q (.str (Txt.replace a y z)) H1
def Up(hyz:(y==z)=false)(ho:PEp X o to)(hbase:attributeBase o "replace" X.env (eval o X.env)=eval o X.env:=by rfl)(hfew:((backTo cpos (starEach [.Constant (.str y) j1 p1,.Constant (.str z) j2 p2] X.env)).all (λx=>!x.1)&&(backToKw cpos (keywordEach [] X.env)).all (λx=>x.1.isSome)&&decide (([.Constant (.str y) j1 p1,.Constant (.str z) j2 p2]:List Expr).length+([]:List Keyword).length+(if ([]:List Keyword).isEmpty then 0 else 1)<30))=true:=by rfl)(hline:(apos.endLine==cpos.line)=true:=by rfl)(hs:starEach [.Constant (.str y) j1 p1,.Constant (.str z) j2 p2] X.env=(false,eval (.Constant (.str y) j1 p1) X.env)::starEach [.Constant (.str z) j2 p2] X.env:=by rfl)(hs2:starEach [.Constant (.str z) j2 p2] X.env=(false,eval (.Constant (.str z) j2 p2) X.env)::starEach [] X.env:=by rfl)(hpl:(backTo cpos (starEach [.Constant (.str z) j2 p2] X.env)).any (·.1)=false:=by rfl) :
  PEp X (.Call (.Attribute o "replace" apos) [.Constant (.str y) j1 p1,.Constant (.str z) j2 p2] [] cpos) (z3e y z to):=by
 intro pn s σ H Q I hp h;refine wpAny_Call_method_late hbase hfew hline rfl (thnP (ho pn s σ H _ I hp h) hp λv s1 ⟨x,H1,I1,r1,a,ea,hb,q1⟩ hp1=>?_);subst ea;obtain⟨tk,rfl⟩:=r1;obtain⟨h1,h2⟩:=Px (T:="str") (x:=.str a) I1 ⟨tk,rfl⟩ (by first|exact trivial|exact rfl)
 refine⟨"str","str.replace",PySem.F.plainAttrs_str,PySem.F.slot_str_replace,PySem.F.type_str_replace,h1,h2,?_⟩;rw[hs];refine Calls.callWith_builtin (by show(false || (backTo cpos (starEach [.Constant (.str z) j2 p2] X.env)).any (·.1))=false;rw[hpl] <;> rfl) (Calls.evalArgs_plain ?_)
 show wpAny _ _ (spliced ((false,eval (.Constant (.str y) j1 p1) X.env)::backTo cpos (starEach [.Constant (.str z) j2 p2] X.env))) _ _ s1;refine Calls.spliced_cons (Calls.Constant_str ?_);rw[hs2];show wpAny _ _ (spliced ((false,eval (.Constant (.str z) j2 p2) X.env)::backTo cpos (starEach [] X.env))) _ _ _;refine Calls.spliced_cons (Calls.Constant_str ?_);refine Calls.spliced_nil ?_;exact SC.replace (Nat.ne_of_gt hp1) (Nat.succ_ne_zero _) (Nat.ne_of_lt (Nat.lt_succ_self _)) hyz hb λt' k=>⟨.str _,H1,I1.tok _,⟨_,rfl⟩,q1⟩
def PSsp.nox{X:Cx}{st:List Stmt}{t:TS}(h:PSsp X.nox st t):PSsp X st t:=λpn s σ H D I hp hw =>
 wpAny_mono (h pn s σ H D (I.wish _) hp hw) (λ_ _ q=>q.unwish) λ_ _ z=>False.elim z
def Fun.okL{x qual:Str}{st:Stmt}{f:Addr}{fd:FuncData}{N ps:List Str}{k:Nat}{sp:Sp}(F:Fun K x qual st f fd)(S:zo N ps (zd st))(hfst:∃ p,ps.head?=some p/\(zd st).names.lookup p=some .local)(len:∀ vs H Q E,sp vs H Q E->vs.length=ps.length)(qY:∀ (qZ:Value) (A:Around) (outer:List Env) (s:Shared) (H:Hp) (vs:List V) (Q:VK) (E:XK),Room k (A.deeper (envOfC qual (zd st) s.heap.objs.size f qZ))->sp vs H Q E ->
   ∃ t,PSsp (cxOf CX0 P w K mg base N qual (zd st) f qZ A outer s H E).nox (wv st) t/\t {nx:=λ_ H'=>Q .non H',rt:=Q} (start N vs) H):FnOk P w K mg base CX0 (k+1) f fd ps sp:=by
 obtain⟨oc,od,kV,doc,pm,an,qZ,ct,osl,rfl,lk,hcd⟩:=F.ex;refine z2c lk hcd S hfst len λA outer s H vs Q E hr hsp=>?_;obtain⟨t,h,q⟩:=qY qZ A outer s H vs Q E hr hsp;exact⟨t,h.nox,q⟩
def EDp(G:Hp->Prop)(X:Cx)(e:Expr)(t:TD):Prop:=∀H₀:{H:Hp // G H},PEp X e (vq X.K H₀.1 t)
def SDp(G:Hp->Prop)(X:Cx)(st:Stmt)(t:TDS):Prop:=∀H₀:{H:Hp // G H},PSp X st (Ux X.K H₀.1 t)
def SDsp(G:Hp->Prop)(X:Cx)(st:List Stmt)(t:TDS):Prop:=∀H₀:{H:Hp // G H},PSsp X st (Ux X.K H₀.1 t)
def z4c{X:Cx}{e:Expr}{t t':TE}(h:PEp X e t)(i:∀ σ H Q,t' σ H Q->t σ H Q):PEp X e t':=λpn s σ H Q I hp q=>h pn s σ H Q I hp (i σ H Q q)
def z4b{X:Cx}{st:Stmt}{t t':TS}(h:PSp X st t)(i:∀ D σ H,t' D σ H->t D σ H):PSp X st t':=λpn s σ H D I hp q=>h pn s σ H D I hp (i D σ H q)
def z1y{X:Cx}{st:List Stmt}{t t':TS}(h:PSsp X st t)(i:∀ D σ H,t' D σ H->t D σ H):PSsp X st t':=λpn s σ H D I hp q=>h pn s σ H D I hp (i D σ H q)
section
variable{st:Stmt}{rest:List Stmt}{ts us:TDS}
def ED.p(h:ED Γ X e te):EDp Γ X e te:=λH₀=>(h H₀).p
def SDs.p(h:SDs Γ X rest ts):SDsp Γ X rest ts:=λH₀=>(h H₀).p
def Ks(h1:SDp Γ X st ts)(h2:SDsp Γ X rest us):SDsp Γ X (st::rest) (sSeq ts us):=λH₀=>z1y (N2 (h1 H₀) (h2 H₀)) λD σ H h=>by
 obtain⟨ρ,o,R,Z,hZ,k1,k2,k3,k4⟩:=h;refine⟨ρ,o,R,_,hZ,λρ' σ' H' o' g R' q=>?_,k2,k3,k4⟩;exact⟨ρ',o',R',Z,q,λρ2 σ2 H2 o2 g2 R2 q2=>k1 ρ2 σ2 H2 o2 (g.trans g2) R2 q2,λρ2 σ2 H2 o2 g2 R2 q2=>k2 ρ2 σ2 H2 o2 (g.trans g2) R2 q2,λρ2 σ2 H2 o2 g2 R2 q2=>k3 ρ2 σ2 H2 o2 (g.trans g2) R2 q2,k4⟩
def D3(i:Nat){x:Str}{pos':Pos}(hN:X.N.Nodup)(he:EDp Γ X e te)(hi:X.N[i]?=some x:=by rfl)(hx:Loc X.env.scope x:=by first|exact Or.inl rfl|exact Or.inr rfl)(hs:swapsWith e (some (.Name x pos')) pos.line X.env=pure false:=by rfl)(hf:X.fn x=true\/X.env.scope.names.lookup x=some .local:=by first|exact .inl rfl|exact .inr rfl|assumption):SDp Γ X (.Assign [.Name x pos'] e pos) (sSet i te):=λH₀=>z4b (Dg hN hi hx (he H₀) hs hf) λD σ H h=>by
 obtain⟨ρ,o,R,Z,hZ,k1,k2,k3,k4⟩:=h;refine⟨ρ,o,R,_,hZ,λv r H1 s1 rv h1=>?_⟩;obtain⟨o',R',g⟩:=R.put s1 i rv (re h1.1);exact k1 _ _ H1 o' g R' h1.2
def z4n(y z:Str)(td:TD):TD:=λρ φ=>td ρ λx=>match x.d with
 |.str a=>a.length+(a.length+1)*z.length<=16777216/\φ (dv (.str (Txt.replace a y z)))
 |_=>False
def qg{y z:Str}{j1 j2:Nat}{p1 p2 apos cpos:Pos}(hyz:(y==z)=false)(ho:EDp Γ X o td)(hbase:attributeBase o "replace" X.env (eval o X.env)=eval o X.env:=by rfl)(hfew:((backTo cpos (starEach [.Constant (.str y) j1 p1,.Constant (.str z) j2 p2] X.env)).all (λx=>!x.1)&&(backToKw cpos (keywordEach [] X.env)).all (λx=>x.1.isSome)&&decide (([.Constant (.str y) j1 p1,.Constant (.str z) j2 p2]:List Expr).length+([]:List Keyword).length+(if ([]:List Keyword).isEmpty then 0 else 1)<30))=true:=by rfl)(hline:(apos.endLine==cpos.line)=true:=by rfl)(hs:starEach [.Constant (.str y) j1 p1,.Constant (.str z) j2 p2] X.env=(false,eval (.Constant (.str y) j1 p1) X.env)::starEach [.Constant (.str z) j2 p2] X.env:=by rfl)(hs2:starEach [.Constant (.str z) j2 p2] X.env=(false,eval (.Constant (.str z) j2 p2) X.env)::starEach [] X.env:=by rfl)(hpl:(backTo cpos (starEach [.Constant (.str z) j2 p2] X.env)).any (·.1)=false:=by rfl) :
  EDp Γ X (.Call (.Attribute o "replace" apos) [.Constant (.str y) j1 p1,.Constant (.str z) j2 p2] [] cpos) (z4n y z td):=λH₀ =>
 z4c (Up hyz (ho H₀) hbase hfew hline hs hs2 hpl) λσ H Q q=>by
  obtain⟨ρ,oo,R,φ,hφ,kk⟩:=q;refine⟨ρ,oo,R,_,hφ,λv r H1 s1 rv h1=>?_⟩;obtain⟨kd,d⟩:=r;cases d with
  |str a=>exact⟨a,rv.view,h1.1,kk _ (dv (.str _)) H1 s1 (by exact rfl) h1.2⟩
  |_=>exact h1.elim
end
def Cy{x qual:Str}{st:Stmt}{f:Addr}{fd:FuncData}{N ps:List Str}{k:Nat}{T:FT}(F:Fun K x qual st f fd)(S:zo N ps (zd st))(hfst:∃ p,ps.head?=some p/\(zd st).names.lookup p=some .local)(qY:∀ (qZ:Value) (A:Around) (outer:List Env) (s:Shared) (H:Hp) (E:XK) (ds:List D) (φ:EV->Prop),Room k (A.deeper (envOfC qual (zd st) s.heap.objs.size f qZ))->ds.length=ps.length->T ds φ ->
   ∃ t,SDsp (λ_=>True) (cxOf CX0 P w K mg base N qual (zd st) f qZ A outer s H E).nox (wv st) t/\t (vm N.length ds) {nx:=λ_=>φ (dv .non),rt:=λr=>u5 r/\φ r}):FnOk P w K mg base CX0 (k+1) f fd ps (spD K ps.length T):=by
 refine F.okL S hfst (λvs H Q E h=>?_) (λqZ A outer s H vs Q E hr h=>?_)
 ·obtain⟨ds,φ,hl,r,_⟩:=h;rw[r.length,hl]
 ·obtain⟨ds,φ,hl,r,hT,kk⟩:=h;obtain⟨t,ht,hq⟩:=qY qZ A outer s H E ds φ hr hl hT;have rl:=r.length;refine⟨Ux K H t,ht ⟨H,trivial⟩,vm N.length ds,[],⟨Same.refl H,(λ_ z=>absurd z (by simp)),(λ_ z=>absurd z (by simp)),(λ_ z=>absurd z (by simp)),List.nodup_nil,λi r' e=>?_,?_⟩,_,hq,λρ' σ' H' o' g R' q=>?_,λ_ _ _ _ _ _ q=>q.elim,λ_ _ _ _ _ _ q=>q.elim,λv r' H' s' rv q=>kk v r' H' s' rv q.1 q.2⟩
  ·unfold vm at e;rcases Nat.lt_or_ge i ds.length with hi|hi
   ·rw[List.getElem?_append_left (by simpa using hi),zai]at e
    have ed:ds[i]?=some ds[i]:=by simp[hi]
    rw[ed]at e;have e':some (dv ds[i])=some r':=Option.some.inj e;cases e';obtain⟨v,ev,rv⟩:=r.get ed;refine⟨v,?_,.inl ⟨rfl,rv⟩⟩;unfold ZZ.start;rw[List.getElem?_append_left (by rw[zLm,rl];exact hi),zai,ev]
    rfl
   ·rw[List.getElem?_append_right (by simpa using hi),List.getElem?_replicate]at e
    split at e <;> cases e
  ·unfold ZZ.start vm;simp[rl]
  ·exact kk .non (dv .non) H' R'.same rfl trivial q
def z2f{x qual:Str}{st:Stmt}{f:Addr}{fd:FuncData}{N ps:List Str}{k:Nat}{T:FT}(F:Fun K x qual st f fd)(S:zo N ps (zd st))(hfst:∃ p,ps.head?=some p/\(zd st).names.lookup p=some .local)(b:Z5 K fd ps [])(m:mg x=some (.ref f))(qY:∀ (qZ:Value) (A:Around) (outer:List Env) (s:Shared) (H:Hp) (E:XK) (ds:List D) (φ:EV->Prop),Room k (A.deeper (envOfC qual (zd st) s.heap.objs.size f qZ))->ds.length=ps.length->T ds φ ->
   ∃ t,SDsp (λ_=>True) (cxOf CX0 P w K mg base N qual (zd st) f qZ A outer s H E).nox (wv st) t/\t (vm N.length ds) {nx:=λ_=>φ (dv .non),rt:=λr=>u5 r/\φ r}):FD P w K mg base (k+1) x ps T:=⟨f,fd,Cy F S hfst qY,b,F.kp,m⟩
def B4{Γ:Hp->Prop}{X:Cx}{a b:Expr}{ta tb:TD}{pos:Pos}(ha:ED Γ X a ta)(hb:ED Γ X b tb)(hm:behindInMarks .NotIn b=false:=by with_unfolding_all rfl):ET Γ X (.Compare a [.NotIn] [b] pos) (tBo (d2 (sInC true) ta tb)):=k9 tu Yx ha hb hm
def Lv:vt X (.type "int") (λxs H Q=>∃z n,xs=[.str z]/\PySem.intText? z=some n/\z.length<=640/\Q (.int n) H):=by
 intro pn s σ H xs us Q I r h;obtain⟨z,n,rfl,hn,hl,q⟩:=h;obtain⟨u,rfl,ru⟩:=uy r;obtain⟨t,rfl⟩:=ru;exact W.KIN.call_text hn hl ⟨.int n,H,I.tok _,⟨_,rfl⟩,q⟩
variable{p:Pos}
def sIntS:FT:=λds φ=>match ds with
 |[.str z]=>∃n,PySem.intText? z=some n/\z.length<=640/\φ (dv (.int n))
 |_=>False
def B9(hm:X.mg "int" = none)(ha:EA Γ X (e::es) t)(hg:Gl X "int":=by rfl)(he:starEach (e::es) X.env=(false,eval e X.env)::starEach es X.env:=by rfl)(hpl:(backTo pos (starEach es X.env)).any (·.1)=false:=by rfl):ED Γ X (.Call (.Name "int" p) (e::es) [] pos) (dCB sIntS t) :=
 vg Lv (λH O ds vs φ Q ho hv h k=>by
  unfold sIntS at h;split at h
  ·obtain⟨n,hn,hl,h⟩:=h;obtain⟨v,ws,rfl,h1,rfl⟩:=hv;cases (show v=_ from h1);exact⟨_,n,rfl,hn,hl,k _ (dv (.int n)) H (Same.refl H) (by exact rfl) h⟩
  ·exact h.elim) hm ko ha hg (by decide) (by decide) he hpl
def Hh{i:Int}(h:i.natAbs<10 ^ 60):PySem.intText? (PySem.Str.ofString (toString i))=some i:=by
 have ec:(PySem.Str.ofString (toString i)).cps.toList=Vu i:=by unfold Vu;rfl
 have len:∀m:Nat,m<10 ^ 60->((Nat.toDigits 10 m).map Char.toNat).length<=60:=λm hm=>by
  rw[zLm];exact(Nat.length_toDigits_le_iff (b:=10) (n:=m) (k:=60) (by decide) (by decide)).mpr hm
 have ne:∀m:Nat,(Nat.toDigits 10 m).map Char.toNat≠[]:=λm e=>by
  have:=congrArg List.length e;rw[zLm]at this;exact absurd this (Nat.ne_of_gt (Nat.length_toDigits_pos))
 have sz:∀z:Str,z.length=z.cps.toList.length:=λz=>(Array.length_toList).symm;cases i with
 |ofNat m =>
  have e1:(PySem.Str.ofString (toString (Int.ofNat m))).cps.toList=(Nat.toDigits 10 m).map Char.toNat:=cz m;have hm:m<10 ^ 60:=h;have:=PySem.intText_digits (x:=PySem.Str.ofString (toString (Int.ofNat m))) (by rw[e1];exact λc hc=>uv hc) (by rw[e1];exact ne m) (by rw[sz,e1];exact zak (len m hm) (by decide))
  rw[this,e1,W.KIN.val_back];rfl
 |negSucc m =>
  have e1:(PySem.Str.ofString (toString (Int.negSucc m))).cps.toList=45::(Nat.toDigits 10 (m+1)).map Char.toNat:=cy m;have hm:m+1<10 ^ 60:=h;have:=PySem.intText_neg (x:=PySem.Str.ofString (toString (Int.negSucc m))) e1 (λc hc=>uv hc) (ne _) (by rw[sz,e1,zLc];have:=len (m+1) hm;omega)
  rw[this,W.KIN.val_back];rfl
section
end
def cutS(x:Str)(lo hi:Option Int):Str:=⟨((x.cps.toList.drop (ZZ.sIx x.length 0 lo)).take (ZZ.sIx x.length x.length hi-ZZ.sIx x.length 0 lo)).toArray⟩
def Bi(n:Nat)(lo:Option Int):(match lo with|none=>(0:Int)|some i=>max 0 (min (if i<0 then i+(n:Int) else i) (n:Int)))=((min (ZZ.sIx n 0 lo) n:Nat):Int):=by
 cases lo with
 |none=>simp[ZZ.sIx]
 |some i =>
  simp only[ZZ.sIx];by_cases h:i<0
  ·simp only[h,if_true] <;> omega
  ·simp only[h,if_false] <;> omega
def Bj(n:Nat)(hi:Option Int):(match hi with|none=>(n:Int)|some i=>max 0 (min (if i<0 then i+(n:Int) else i) (n:Int)))=((min (ZZ.sIx n n hi) n:Nat):Int):=by
 cases hi with
 |none=>simp[ZZ.sIx]
 |some i =>
  simp only[ZZ.sIx];by_cases h:i<0
  ·simp only[h,if_true] <;> omega
  ·simp only[h,if_false] <;> omega
def Zh1(n d:Nat)(hd:d<=n)(o:Option Int):ZZ.sIx n d o<=n:=by
 cases o with
 |none=>exact hd
 |some i =>
  simp only[ZZ.sIx];by_cases h:i<0
  ·simp only[h,if_true] <;> omega
  ·simp only[h,if_false] <;> omega
def Ck(lo hi:Option Int)(n:Nat):Builtin.Str.strSliceIndices lo hi 1 n=(List.range (ZZ.sIx n n hi-ZZ.sIx n 0 lo)).map (ZZ.sIx n 0 lo+·):=by
 have e:Builtin.Str.strSliceIndices lo hi 1 n=sliceRange (match lo with|none=>(0:Int)|some i=>max 0 (min (if i<0 then i+(n:Int) else i) (n:Int))) (match hi with|none=>(n:Int)|some i=>max 0 (min (if i<0 then i+(n:Int) else i) (n:Int))) 1:=by
  unfold Builtin.Str.strSliceIndices;simp only[show(1:Int) > 0 by decide,if_true]
  cases lo <;> cases hi <;> rfl
 rw[e,Bi,Bj,Nat.min_eq_left (Zh1 n 0 (Nat.zero_le _) lo),Nat.min_eq_left (Zh1 n n (zaj _) hi),sliceRange_one]
def Ol(x:Str)(lo hi:Option Int):Txt.slice x lo hi=cutS x lo hi:=by
 unfold Txt.slice;rw[Ck];have pk:=pick_run x.cps (ZZ.sIx x.length 0 lo) (ZZ.sIx x.length x.length hi-ZZ.sIx x.length 0 lo);rw[pk];have n:x.length=x.cps.toList.length:=(Array.length_toList).symm;split
 ·rename_i h;simp only[zLm,List.length_range,Bool.and_eq_true,beq_iff_eq]at h;have h2:=Zh1 x.length x.length (zaj _) hi;have h1:=Zh1 x.length 0 (Nat.zero_le _) lo;have h3:ZZ.sIx x.length 0 lo=0:=by omega
  have h4:ZZ.sIx x.length x.length hi=x.length:=by omega
  unfold cutS;rw[h3,h4,Nat.sub_zero,List.drop_zero,n,List.take_length]
 ·rfl
def Nl{v:Value}{o:Option Int}(h:IsPart v o):∃p:Option (Int×Tok),p.map (·.1)=o/\v=partValue p:=by
 cases o with
 |none=>exact⟨none,rfl,by cases h;rfl⟩
 |some i=>first|(obtain⟨t,rfl⟩:=h;exact⟨some (i,t),rfl,rfl⟩)|(cases h;exact⟨some (i,_),rfl,rfl⟩)
def Ai:SlR X (λx lo hi H Q=>∃z,x=.str z/\z.length<=sizeLine/\Q (.str (cutS z lo hi)) H):=by
 intro pn s σ H x v vl vu lo hi sl Q I rx hs pl pu h;obtain⟨z,rfl,hz,q⟩:=h;obtain⟨t,rfl⟩:=rx;obtain⟨p1,rfl,rfl⟩:=Nl pl;obtain⟨p2,rfl,rfl⟩:=Nl pu;obtain⟨o,ho,hc,hd⟩:=hs;refine⟨"str",_,F.slot_str_getitem.lookup,typeIs_str _ _ _,wpAny_getItem_str_slice (l:=p1) (u:=p2) (st:=none) ⟨o,ho,hc,hd⟩ rfl ?_⟩;refine post_val_or_str ⟨zak (Txt.slice_le z _ _) hz,λt' k=>⟨.str (cutS z (p1.map (·.1)) (p2.map (·.1))),H,I.tok _,⟨t',?_⟩,q⟩⟩;rw[<- Ol];rfl
def sSlS:D->Option Int->Option Int->(EV->Prop)->Prop:=λx lo hi φ=>match x with
 |.str z=>z.length<=sizeLine/\φ (dv (.str (cutS z lo hi)))
 |_=>False
def dSlS(te:TD)(tl th:TDo):TD:=λρ φ=>te ρ λx=>tl ρ λl=>th ρ λu=>sSlS x.d l u φ
def La{lo hi:Option Expr}{tl th:TDo}{p2:Pos}(he:ED Γ X e te)(hl:EO Γ X lo tl)(hu:EO Γ X hi th):ED Γ X (.Subscript e (.Slice lo hi none p2) pos) (dSlS te tl th):=λH₀ =>
 impE (Su Ai (he H₀) (hl H₀) (hu H₀)) λσ H Q q=>by
  obtain⟨ρ,o,R,φ,hφ,k⟩:=q;refine⟨ρ,o,R,_,hφ,λv r H1 s1 rv h1=>⟨ρ,o,R.to s1,_,h1,λl H2 s2 h2=>⟨ρ,o,R.to (s1.trans s2),_,h2,λu H3 s3 h3=>?_⟩⟩⟩;have s13:=(s1.trans s2).trans s3;obtain⟨kd,d⟩:=r;cases d with
  |str z =>
   cases (show v=_ from rv.view)
   exact⟨z,rfl,h3.1,k _ (dv (.str _)) H3 s13 (by exact rfl) h3.2⟩
  |_=>exact h3.elim
def spI(K:W.Frag)(n:Nat)(T:List D->Prop):Sp:=λvs H Q _=>∃ds v ws,vs=v::ws/\ds.length=n/\Reps K H [] ds vs/\T ds/\∀H',Same H H'->Q v H'
structure FI(P:Program)(w:World)(K:W.Frag)(mg:Str->Option Value)(base:Heap)(k:Nat)(x:Str)(ps:List Str)(T:List D->Prop):Prop where
 ex:∃f fd,FnOk P w K mg base CX0 k f fd ps (spI K ps.length T)/\Z5 K fd ps []/\W.keepIn K (.ref f)=true/\mg x=some (.ref f)
def E7(n:Nat)(T:List D->Prop)(t:TDs):TD:=λρ φ=>t ρ λrs=>Nat.beq rs.length n=true/\T (rs.map EV.d)/\∃r,rs[0]?=some r/\φ r
variable{ps:List Str}{T:List D->Prop}{k:Nat}
def sv(F:FI X.prog X.w X.K X.mg X.base k x ps T)(hr:Room k X.A)(ha:EA Γ X (e::es) t)(hg:Gl X x:=by rfl)(hdb:(x==("__debug__" : Str))=false:=by decide)(he:starEach (e::es) X.env=(false,eval e X.env)::starEach es X.env:=by rfl)(hpl:(backTo pos (starEach es X.env)).any (·.1)=false:=by rfl):ED Γ X (.Call (.Name x p) (e::es) [] pos) (E7 ps.length T t):=λH₀=>by
 obtain⟨f,fd,ok,b,kp,m⟩:=F.ex;refine impE (Nk ok hr hg m kp b .nil z0t (ha H₀) hdb he hpl) λσ H Q q=>?_;obtain⟨ρ,o,R,φ,hφ,kk⟩:=q;refine⟨ρ,o,R,_,hφ,λvs rs H1 s1 rvs h1=>?_⟩;obtain⟨h1,h2,r,hr0,hφr⟩:=h1;show spI X.K ps.length T (vs++[]) H1 Q E0;rw[List.append_nil];have rp:=rvs.reps0;cases rs with
 |nil=>cases hr0
 |cons r' rs =>
  cases hr0
  obtain⟨v,ws,rfl,rv,_⟩:=rvs;exact⟨_,v,ws,rfl,by rw[zLm];exact Nat.eq_of_beq_eq_true h1,rp,h2,λH2 s2=>kk v r H2 (s1.trans s2) (rv.same s2) hφr⟩
def z2e{x y qual:Str}{st:Stmt}{f:Addr}{fd:FuncData}{N ps:List Str}{k:Nat}{T:List D->Prop}{c:Expr}{rs:List Stmt}{p1 p2 p3:Pos}(F:Fun K x qual st f fd)(S:zo N ps (zd st))(b:Z5 K fd ps [])(m:mg x=some (.ref f))(hb:wv st=[.If c rs [] p1,.Return (some (.Name y p2)) p3])(hy:N[0]?=some y)(hps:1<=ps.length)(hv:Vis (zd st) y)(hd:(y==("__debug__" : Str))=false)(hcd:(y==("__classdict__" : Str))=false)(qY:∀ (qZ:Value) (A:Around) (outer:List Env) (s:Shared) (H:Hp) (E:XK) (ds:List D),Room k (A.deeper (envOfC qual (zd st) s.heap.objs.size f qZ))->ds.length=ps.length->T ds ->
   ∃ t,ET (λ_=>True) (cxOf CX0 P w K mg base N qual (zd st) f qZ A outer s H E).nox c t/\t (vm N.length ds) λb=>b=false):FI P w K mg base (k+1) x ps T:=by
 refine⟨f,fd,F.ok S (λvs H Q E h=>?_) (λqZ A outer s H vs Q E hr h=>?_),b,F.kp,m⟩
 ·obtain⟨ds,v,ws,rfl,hl,r,_⟩:=h;rw[r.length,hl]
 ·obtain⟨ds,v,ws,rfl,hl,r,hT,kk⟩:=h;obtain⟨t,ht,hq⟩:=qY qZ A outer s H E ds hr hl hT;rw[hb];refine⟨_,ut (Ul (ht ⟨H,trivial⟩) d7 Ys) (vz (Zm (tj hy hv hd hcd))),?_⟩;refine⟨vm N.length ds,[],Qa r,_,hq,λbb H' s' hbb=>?_⟩;subst hbb;exact iteF ⟨v,rfl,kk H' s'⟩
variable{a:Addr}
def Eo(f:Str->Option Value)(ty:TE):TE:=λσ H Q=>ty σ H λy H1=>∃z v,y=.str z/\RelV v ((f z).getD .none)/\Q v H1
def pe_getTop(T:TopDict X.prog X.w X.K a f)(hg:Gl X x)(hm:X.mg x=some (.ref a))(hd:(x==("__debug__" : Str))=false)(he:PE X e ty)(m:M1 X (.Name x p) "get" apos e cpos):PE X (.Call (.Attribute (.Name x p) "get" apos) [e] [] cpos) (Eo f ty):=by
 intro pn s σ H Q I h;refine wpAny_Call_method m.base m.few m.line PySem.F.plainAttrs_dict PySem.F.slot_dict_get PySem.F.type_dict_get (thn (Yu hg hm (v:=.ref a) rfl hd pn s σ H (λv H1=>v=.ref a/\H1=H) I ⟨rfl,rfl⟩) λu s1 ⟨y,H1,I1,ry,ey,eH⟩=>?_);subst ey eH;cases (show u=Value.ref a from ry);have mp:=T.map I1;obtain⟨es,ep,lk,hk,hf⟩:=T.at_;refine⟨mp.typeIs,λb q=>?_,?_⟩
 ·cases q
  exact⟨_,I1.kIn a _ lk,rfl⟩
 rw[m.trees];refine Calls.callWith_builtin rfl (Calls.evalArgs_plain (Calls.spliced_cons (thn (he pn s1 σ _ _ I1 h) λiv s2 ⟨y,H2,I2,ry,z,v,ey,rv,q2⟩=>Calls.spliced_nil ?_)));subst ey;obtain⟨t,rfl⟩:=ry;exact call_meetsIn PySem.F.slot_dict_get (T.map I2).typeIs PySem.F.entry_dict_get (PySem.F.args_dict_get_2 _ _) (meets_dict_get (strKind X.prog X.w) a (isStr_self z t) T.ne) ⟨_,T.map I2,v,H2,I2.tok _,rv,q2⟩
variable{a:Expr}
def Lm(tab:List (Str×Cst))(ta:TD):TD:=λρ φ=>ta ρ λr=>match r.d with
 |.str z=>φ (dv ((tabL tab z).elim .non cstD))
 |_=>False
def Vt{x:Str}{tab:List (Str×Cst)}(G:GT X.prog X.w X.K X.mg x tab)(ha:ED Γ X a ta)(hg:Gl X x:=by rfl)(hd:(x==("__debug__" : Str))=false:=by decide)(m:M1 X (.Name x p) "get" apos a cpos:=by exact⟨rfl,rfl,rfl,rfl⟩):ED Γ X (.Call (.Attribute (.Name x p) "get" apos) [a] [] cpos) (Lm tab ta):=λH₀=>by
 obtain⟨t,f,hmx,T,h1,h2⟩:=G.ex;refine impE (ZZ.pe_getTop T hg hmx hd (ha H₀) m) λσ H Q q=>?_;obtain⟨ρ,o,R,φ,hφ,kk⟩:=q;refine⟨ρ,o,R,_,hφ,λv r H1 s1 rv hh=>?_⟩;obtain⟨kd,d⟩:=r;cases d with
 |str z =>
  cases (show v=_ from rv.view)
  dsimp only at hh
  cases ec:tabL tab z with
  |some c =>
   rw[ec]at hh;obtain⟨u,w,e',rw',cr⟩:=h2 z c ec;exact⟨z,w,rfl,by rw[e'];exact rw',kk _ _ H1 s1 (RV.val (Yn cr)) hh⟩
  |none =>
   rw[ec]at hh;exact⟨z,.non,rfl,by rw[h1 z ec];rfl,kk _ (dv .non) H1 s1 (by exact rfl) hh⟩
 |_=>exact hh.elim
def P3(l:Addr)(xs:Array Value)(n:Nat)(b:Addr)(ys:Array Value)(m:Nat)(dd:Option Addr)(sl:Array (Option Value))(h0:¬(!xs.isEmpty&&Builtin.List.listTooLong (xs.size+ys.size))=true)(h1:xs.size<=sizeLine)(h2:xs.size+ys.size<=sizeLine+1) :
  Meets (Builtin.«list.extend» ⟨[.ref l,.ref b],[]⟩) (λ_ R s=>s.heap.get? l=some {cls:=.type "list",dict:=none,data:=.seq xs n,slots:=#[]}/\s.heap.get? b=some {cls:=.type "tuple",dict:=dd,data:=.seq ys m,slots:=sl}/\R (.ok (.ret Value.none)) {s with heap:=s.heap.update l (Obj.mapSeq λx=>x++ys),toks:=s.toks}) :=
 .of_wp λprog w A R s h=>by
  obtain⟨hp,g,d,tk,os⟩:=s;obtain⟨ha,hb,h⟩:=h;have f2:=AutoSeq1.sub_tuple_tuple;have f3:=AutoSeq1.sub_list_list;have f4:=AutoSeq1.sub_tuple_list;have f5:=AutoSeq1.sub_list_tuple;have h3:(xs++ys).size<=sizeLine+1:=by rw[Array.size_append];exact h2
  wp_walk using(wpAny_updateSeq ha rfl (hz:=h1) (_hz':=h3)),AutoSeq1.wpAny_loadPart' ha,AutoSeq1.wpAny_loadPart' hb;exact⟨_,rfl,h⟩
def Av(K:W.Frag):V->List V->Hp->VK->Prop:=λx vs H Q=>∃l b xs zs,x=.ref l/\vs=[.ref b]/\H l=some (.lst xs)/\SqT K H b zs/\xs.length+zs.length<=sizeLine/\Q .non (upd H l (.lst (xs++zs)))
def Ql:MtM X "list.extend" (Av X.K):=by
 intro pn s σ H x vs v us Q I rx rv h;obtain⟨l,b,xs,zs,rfl,rfl,hH,hB,hz,q⟩:=h;cases rx;obtain⟨u,rfl,ru⟩:=rv.one;cases ru;obtain⟨z,its,n,r,hl,e⟩:=I.lstM hH;obtain⟨its2,r2,⟨o,e2,hc,n2,hd⟩,z2⟩:=I.tuple hB;have hl2:=r2.length;obtain⟨oc,od,dat,sl⟩:=o;cases hc;cases hd;have hsz:its.toArray.size+its2.toArray.size<=sizeLine:=by rw[zap,zap];omega
 refine call_meets F.slot_list_extend ⟨_,e,rfl⟩ F.entry_list_extend (F.args_list_extend_2 _ _)
  (P3 l its.toArray n b its2.toArray n2 od sl (by rw[Sy hsz,Bool.and_false];exact Bool.false_ne_true) (by rw[zap];omega) (by omega)) ⟨e,e2,?_⟩
 refine⟨.non,_,I.lset (its':=its++its2) hH e (by simp) (r.append r2) ?_,rfl,q⟩
 rw[zLa];omega
def D8(i:Nat)(te:TD):TDS:=λρ Z=>match slot ρ i with
 |some ⟨.own,.lst ds⟩=>te ρ λr=>∃gs,r=dv (.tup gs)/\ds.length+gs.length<=sizeLine/\Z.nx (setS ρ i (dO (.lst (ds++gs))))
 |_=>False
def D5(i:Nat){x:Str}{np apos cpos:Pos}(he:ED Γ X e te)(hi:X.N[i]?=some x:=by rfl)(hv:Vis X.env.scope x:=by walk_at "o")(hd:(x==("__debug__" : Str))=false:=by decide)(hcd:(x==("__classdict__" : Str))=false:=by decide)(hp:∀ {ta tb:TE},PE X (.Name x np) ta->PE X e tb->PS X (.Expr (.Call (.Attribute (.Name x np) "extend" apos) [e] [] cpos) pos)
    (Kp (tBM X.K "list" (Av X.K) ta (Kq tb tNil))):=by
   intro ta tb h1 h2;exact rz (Yv PySem.F.plainAttrs_list PySem.F.slot_list_extend PySem.F.type_list_extend Ql h1 (xx h2 vb))) :
  SD Γ X (.Expr (.Call (.Attribute (.Name x np) "extend" apos) [e] [] cpos) pos) (D8 i te):=λH₀=>impS (hp (tj hi hv hd hcd) (he H₀)) λD σ H h=>by
 obtain⟨ρ,o,R,Z,hZ,k1,k2,k3,k4⟩:=h;unfold D8 at hZ;split at hZ
 ·rename_i ds es';obtain⟨v0,ev0,q0⟩:=R.slots i _ (vv es');rcases q0 with⟨k,_⟩|⟨_,a,rfl,m,c⟩
  ·cases k
  obtain⟨xs,hx,rx⟩:=c;refine⟨.ref a,ev0,.inl ⟨rfl,xs,SqL.of hx⟩,?_⟩;refine⟨ρ,o,R,_,hZ,λv r H1 s1 rv h1=>?_⟩;obtain⟨gs,rfl,hle,hn⟩:=h1;obtain⟨p,ys,rfl,hy,ry⟩:=rv;have R1:=R.to s1;have rx1:=Reps.grow (Grow.same s1) _ _ rx;refine⟨a,p,xs,ys,rfl,rfl,s1 _ _ hx,hy.1,by rw[rx.length,ry.length];exact hle,?_⟩
  obtain⟨R2,g2⟩:=R1.chg (d':=.lst (ds++gs)) (ho:=.lst (xs++ys)) (vv es') ev0 m ⟨λ_ z=>(by cases z),λ_ _ z=>(by cases z)⟩ λgr=>⟨xs++ys,zu,gr _ _ (rx1.append ry)⟩
  exact k1 _ σ _ o ((Grow.same s1).trans g2) R2 hn
 ·exact hZ.elim
def Lu:vt X (.builtin "isinstance") (λxs H Q=>∃x q,xs=[x,.ref q]/\SqT X.K H q [.ty "int",.ty "str"]/\((∃i,x=.int i)\/∃z,x=.str z)/\Q (.bl true) H):=by
 intro pn s σ H xs us Q I r h;obtain⟨x,q,rfl,hq,hx,hQ⟩:=h;obtain⟨u,v,rfl,ru,rv⟩:=Ps r;cases (show v=Value.ref q from rv);obtain⟨its,vr,ht,_⟩:=I.tuple hq;obtain⟨a,b,rfl,ra,rb⟩:=Ps vr;cases (show a=Value.type "int" from ra);cases (show b=Value.type "str" from rb);obtain⟨⟨cls,dd,data,sl⟩,ho,hc,n,hd⟩:=id ht;simp only at hc hd;subst hc hd;have fin:∀tk,EP X pn σ Q (.bool true) {s with toks:=tk}:=λtk=>⟨.bl true,H,I.tok tk,rfl,hQ⟩;rcases hx with⟨i,rfl⟩|⟨z,rfl⟩
 ·obtain⟨k,rfl⟩:=ru;exact W.kia_tup W.kitx_int I.kIn True.intro ho (by unfold W.kitAny W.kitOne;rfl) (λz=>nomatch z) fin
 ·obtain⟨k,rfl⟩:=ru;have e1:=Mn (K:=X.K) (c7 z);refine W.kia_tup W.kitx_str I.kIn True.intro ho ?_ (λz=>nomatch z) fin;have e1:W.kitOne X.K (.type "str") (.type "int")=some false:=e1;unfold W.kitAny;rw[e1];rfl
def sIsIS:FT:=λds φ=>match ds with
 |[.int _,.tup [.ty a,.ty b]]=>a = "int"/\b = "str"/\φ (dv (.bl true))
 |[.str _,.tup [.ty a,.ty b]]=>a = "int"/\b = "str"/\φ (dv (.bl true))
 |_=>False
def B8(hm:X.mg "isinstance" = none)(ha:EA Γ X (e::es) t)(hg:Gl X "isinstance":=by rfl)(he:starEach (e::es) X.env=(false,eval e X.env)::starEach es X.env:=by rfl)(hpl:(backTo pos (starEach es X.env)).any (·.1)=false:=by rfl):ED Γ X (.Call (.Name "isinstance" p) (e::es) [] pos) (dCB sIsIS t) :=
 kj Lu (λH O ds vs φ Q ho hv h k=>by
  unfold sIsIS at h;split at h
  ·obtain⟨rfl,rfl,h⟩:=h;obtain⟨v,ws,rfl,h1,v2,ws2,rfl,⟨q,xs,rfl,hq,x1,r1,rfl,e1,x2,r2,rfl,e2,rfl⟩,rfl⟩:=hv;cases (show v=_ from h1);cases (show x1=_ from e1);cases (show x2=_ from e2);exact⟨_,q,rfl,hq.1,.inl ⟨_,rfl⟩,k _ _ H (Same.refl H) (by exact rfl) h⟩
  ·obtain⟨rfl,rfl,h⟩:=h;obtain⟨v,ws,rfl,h1,v2,ws2,rfl,⟨q,xs,rfl,hq,x1,r1,rfl,e1,x2,r2,rfl,e2,rfl⟩,rfl⟩:=hv;cases (show v=_ from h1);cases (show x1=_ from e1);cases (show x2=_ from e2);exact⟨_,q,rfl,hq.1,.inr ⟨_,rfl⟩,k _ _ H (Same.refl H) (by exact rfl) h⟩
  ·exact h.elim) hm ux ha hg (by decide) (by decide) he hpl
def xp{α:Type}{us:List α}(h:us.length=1):∃a0,us=[a0]:=match us,h with
 |[a0],_=>⟨a0,rfl⟩
def Qt{α:Type}{us:List α}(h:us.length=2):∃a0 a1,us=[a0,a1]:=match us,h with
 |[a0,a1],_=>⟨a0,a1,rfl⟩
def Mf{α:Type}{us:List α}(h:us.length=3):∃a0 a1 a2,us=[a0,a1,a2]:=match us,h with
 |[a0,a1,a2],_=>⟨a0,a1,a2,rfl⟩
def Ci{α:Type}{us:List α}(h:us.length=4):∃a0 a1 a2 a3,us=[a0,a1,a2,a3]:=match us,h with
 |[a0,a1,a2,a3],_=>⟨a0,a1,a2,a3,rfl⟩
def Me{α:Type}{us:List α}(h:us.length=5):∃a0 a1 a2 a3 a4,us=[a0,a1,a2,a3,a4]:=match us,h with
 |[a0,a1,a2,a3,a4],_=>⟨a0,a1,a2,a3,a4,rfl⟩
def z1k{α:Type}{us:List α}(h:us.length=6):∃a0 a1 a2 a3 a4 a5,us=[a0,a1,a2,a3,a4,a5]:=match us,h with
 |[a0,a1,a2,a3,a4,a5],_=>⟨a0,a1,a2,a3,a4,a5,rfl⟩
def z3u{α:Type}{us:List α}(h:us.length=8):∃a0 a1 a2 a3 a4 a5 a6 a7,us=[a0,a1,a2,a3,a4,a5,a6,a7]:=match us,h with
 |[a0,a1,a2,a3,a4,a5,a6,a7],_=>⟨a0,a1,a2,a3,a4,a5,a6,a7,rfl⟩
local macro_rules|`(tactic| walk_at "dl")=>do
 let ids <- (("q_ Q_ sNil sSeq sRet sIf sSet Ao d2 d1 G5 dC slot setS EV.sto EV.ret aNil z2w dTup dLst Bg dCB Ze vAnd vOr vNot vIf bAnd bOr bNot bYes tTru tBo truD sSub sFd sMod sPow sLt sGt sGe sI sI0 sAdd sMul sNeg sEq sNe Sg Cp sIx1 sSl dSl z1g z1f sLen sIsI sStr sTupC sIntC sApp iSeq iR1 iR2 Fo gN gT2 vm T3 V3 Qy T9 T6 V6 T5 c7 T2 X1 T1 V0 V4 X4 T7 List.map_cons List.map_nil zLc zLn List.cons_append List.nil_append List.replicate_succ List.replicate_zero Nat.reduceAdd Nat.reduceSub Nat.zero_add Nat.sub_self Bool.and_self Bool.and_true Bool.true_and true_and and_true Bool.not_true Bool.not_false forall_const true_implies false_implies Bool.true_eq_false Bool.false_eq_true reduceCtorEq implies_true d9 z1e xg Nq Tt v6 z2j u5 sw ve Bool.not_eq_eq_eq_not beq_eq_false_iff_ne beq_iff_eq ne_eq decide_eq_true_eq decide_eq_false_iff_not Bool.not_eq_true Bool.not_eq_false not_true_eq_false not_false_eq_true bj bh K4 and_self Nat.beq_eq Nat.ble_eq Nat.reduceLeDiff eq_self Nat.reduceEqDiff sIxx dFmt Ll keyD sIn ca cp10 Int.reduceLE Int.reduceToNat O0 W0 zLm Option.map_some Int.zero_add Ap Int.reduceEq Int.reduceNeg Int.reduceLT Option.map_none sFrz frzS iZ J4 J2 J3 Vb sPop sIsB Yh z2q z2u z2s Sr Yr J7 V2 X2 X3 V8 X5 V1 T4 V5 Qx T8 V7 sDictC sDictP seqD An E5 dFd0 Oy Ov Am So z2t Lk E6 sIxC sInC D9 Rv gT4 sListW cstD Lq sAnyI E4 E7 Lm D8 sIsIS".splitOn " ").toArray).mapM λs=>`(Lean.Parser.Tactic.simpLemma| $(Lean.mkIdent s.toName):ident)
 `(tactic| simp only[$ids,*])
seal SDs SD ED EA ET EW
structure Tops(mg:Str->Option Value):Prop where
 ValueError:mg "ValueError" = none
 all:mg "all" = none
 any:mg "any" = none
 bool:mg "bool" = none
 dict:mg "dict" = none
 int:mg "int" = none
 isinstance:mg "isinstance" = none
 len:mg "len" = none
 list:mg "list" = none
 range:mg "range" = none
 set:mg "set" = none
 str:mg "str" = none
 tuple:mg "tuple" = none
 zip:mg "zip" = none
variable{f:Addr}{fd:FuncData}
def j5:List Str:=["num","list","tree"]
def cs(ws:List Str):Cst:=.tup (ws.map Cst.str)
def Ms:List (Str×Cst):=[("nil",.tup [cs [],.str "list"]),("cons",.tup [cs ["num","list"],.str "list"]),("leaf",.tup [cs [],.str "tree"]),("node",.tup [cs ["tree","num","tree"],.str "tree"]),("add",.tup [cs ["num","num"],.str "num"]),("sub",.tup [cs ["num","num"],.str "num"])]
def Xw:List (Str×Cst):=[("list",cs ["num","list"]),("tree",cs ["tree","num","tree"])]
structure Con2(P:Program)(w:World)(K:W.Frag)(mg:Str->Option Value):Prop where
 c_SHAPES:GC K mg "SHAPES" (.cn (cs j5))
 c_NO_NAMES:GC K mg "NO_NAMES" (.cn (cs ["nil","leaf"]))
 c_LETTERS:GC K mg "LETTERS" (.str "abcdefghijklmnopqrstuvwxyz")
 t_FORMS:GT P w K mg "FORMS" Ms
 t_BROUGHT:GT P w K mg "BROUGHT" Xw
def optD:Option Str->D
 |some s=>.str s
 |none=>.non
def prD(p:Str×Str):D:=.tup [.str p.1,.str p.2]
def yq(rows:List (Str×Str)):D:=.dk (rows.map λp=>Sum.inr p.1) (rows.map λp=>.str p.2)
def rn:List (Str×Str)->Str->Option Str
 |[],_=>none
 |p::r,z=>if z=p.1 then some p.2 else rn r z
def dm(z:Str):∀rows:List (Str×Str),ud (rows.map λp=>(Sum.inr p.1:Key)) (rows.map λp=>D.str p.2) (Sum.inr z)=(rn rows z).map D.str
 |[]=>rfl
 |p::r=>by
  show(if (Sum.inr p.1:Key)=Sum.inr z then some (D.str p.2) else ud (r.map λp=>(Sum.inr p.1:Key)) (r.map λp=>D.str p.2) (Sum.inr z))=_
  unfold rn;by_cases h:z=p.1
  ·rw[if_pos h,if_pos (by rw[h])]
   rfl
  ·rw[if_neg h,if_neg (λe=>h (Sum.inr.inj e).symm)];exact dm z r
structure Fn where
 name:Str
 params:List (Str×Str)
 shape:Str
 size:List Int
 body:D
def fnD(f:Fn):D:=.tup [.str f.name,.tup (f.params.map prD),.tup [.str f.shape,.tup (f.size.map D.int)],f.body]
def xb(fs:List Fn):D:=.dk (fs.map λf=>Sum.inr f.name) (fs.map fnD)
def fnL:List Fn->Str->Option Fn
 |[],_=>none
 |f::r,z=>if z=f.name then some f else fnL r z
def R6(z:Str):∀fs:List Fn,ud (fs.map λf=>(Sum.inr f.name:Key)) (fs.map fnD) (Sum.inr z)=(fnL fs z).map fnD
 |[]=>rfl
 |f::r=>by
  show(if (Sum.inr f.name:Key)=Sum.inr z then some (fnD f) else ud (r.map λf=>(Sum.inr f.name:Key)) (r.map fnD) (Sum.inr z))=_
  unfold fnL;by_cases h:z=f.name
  ·rw[if_pos h,if_pos (by rw[h])]
   rfl
  ·rw[if_neg h,if_neg (λe=>h (Sum.inr.inj e).symm)];exact R6 z r
theorem Fy(z:Str):∀fs:List Fn,((Sum.inr z:Key)∈fs.map λf=>(Sum.inr f.name:Key)) ↔ (fnL fs z).isSome=true
 |[]=>by simp[fnL]
 |f::r=>by
  unfold fnL;rw[List.map_cons,zam];by_cases h:z=f.name
  ·rw[if_pos h];simp[h]
  ·rw[if_neg h,<- Fy z r];simp only[or_iff_right_iff_imp];exact λe=>absurd (Sum.inr.inj e) h
def ifS(rs:List (Option Str))(ks:List Str)(s:Str):Option Str:=if rs=ks.map some then some s else none
def U0(fs:List Fn)(f:Str)(rs:List (Option Str)):Option Str:=match fnL fs f with
 |none=>none
 |some g=>ifS rs (g.params.map Prod.snd) g.shape
def qc(o:Str):Option (List Str×Str):=if o = "nil" then some ([],"list") else if o = "cons" then some (["num","list"],"list") else if o = "leaf" then some ([],"tree") else if o = "node" then some (["tree","num","tree"],"tree") else if o = "add" then some (["num","num"],"num") else if o = "sub" then some (["num","num"],"num") else none
def Hn(o:Str):tabL Ms o=(qc o).map λp=>.tup [cs p.1,.str p.2]:=by
 unfold qc Ms;simp only[tabL]
 repeat' split
 all_goals rfl
def Cw(o:Str)(rs:List (Option Str)):Option Str:=match qc o with
 |some p=>ifS rs p.1 p.2
 |none=>none
def wx{α:Type}(R:D->α->Prop)(es:List D)(rs:List α):Prop:=es.length=rs.length/\∀(i:Nat) e c,es[i]?=some e->rs[i]?=some c->R e c
def Sh1(fs:List Fn)(env:List (Str×Str)):Nat->D->Option Str->Prop
 |0,_,_=>False
 |n+1,e,r=>(∃i:Int,e=.tup [.str "num",.int i]/\r=some "num")\/(∃z,e=.tup [.str "var",.str z]/\r=rn env z) \/
  (∃f es rs,e=.tup [.str "call",.str f,.tup es]/\wx (Sh1 fs env n) es rs/\es.length<=100/\r=U0 fs f rs) \/
  (∃(o:Str)(es:List D)(rs:List (Option Str)),o≠"num"/\o≠"var"/\o≠"call"/\e=.tup (.str o::es)/\wx (Sh1 fs env n) es rs/\es.length<=100/\r=Cw o rs)
def g3'(g:D->D->D->(EV->Prop)->Prop):FT:=λds φ=>∃a b c,ds=[a,b,c]/\g a b c φ
def g5'(g:D->D->D->D->D->(EV->Prop)->Prop):FT:=λds φ=>∃a b c d e,ds=[a,b,c,d,e]/\g a b c d e φ
def qm(n:Nat):FT:=g3' λe na kn φ=>∃fs env r,(∀f∈fs,f.params.length<=100)/\na=yq env/\kn=xb fs/\Sh1 fs env n e r/\φ (dv (optD r))
def OkK(fs:List Fn):Prop:=∀f∈fs,f.params.length<=100
def Mv{z:Str}{g:Fn}:∀{fs:List Fn},fnL fs z=some g->g∈fs
 |[],h=>by cases h
 |f::r,h=>by
  unfold fnL at h;split at h
  ·cases h
   exact zao
  ·exact zal _ (Mv h)
def Zb(n:Nat):FT:=g3' λe na kn φ=>∃fs env f es rs,OkK fs/\e=.tup [.str "call",.str f,.tup es]/\na=yq env/\kn=xb fs/\wx (Sh1 fs env n) es rs/\es.length<=100/\φ (dv (optD (U0 fs f rs)))
def Y8(n:Nat):FT:=g5' λpa wa sh na kn φ=>∃(fs:List Fn)(env:List (Str×Str))(es:List D)(rs:List (Option Str))(ws:List Str)(s:Str),(∀f∈fs,f.params.length<=100)/\pa=.tup es/\(wa=.lst (ws.map D.str)\/wa=.cn (cs ws))/\ws.length<=100/\sh=.str s/\na=yq env/\kn=xb fs/\wx (Sh1 fs env n) es rs/\es.length<=100/\φ (dv (optD (ifS rs ws s)))
def Yw(r:Option Str):sw (optD r):=by cases r <;> trivial
def Ho{o:Str}{p:List Str×Str}(h:qc o=some p):p.1.length<=100:=by
 unfold qc at h
 repeat' split at h
 all_goals first|(cases h;decide)|cases h
def F0(m:Nat):¬(ZZ.sIx (m+1) 0 (some 1)=0/\ZZ.sIx (m+1) (m+1) none=m+1):=λz=>by
 have:=z.1;unfold ZZ.sIx at this;simp at this
def Qg{α:Type}{R:D->α->Prop}{es:List D}{rs:List α}{i:Nat}{e:D}(g:α->D)(h:wx R es rs)(he:es[i]?=some e):∃c,rs[i]?=some c/\R e c/\(rs.take (i+1)).map g=(rs.take i).map g++[g c]:=by
 have hl:=(zag.mp he).1;have hc:rs[i]?=some (rs[i]'(by rw[<- h.1];exact hl)):=by simp
 refine⟨_,hc,h.2 i e _ he hc,?_⟩;rw[List.take_succ,hc,Option.toList_some,zMa];rfl
def C6(rs:List (Option Str)):okD 40 (D.lst (rs.map optD)):=by
 rw[qa (by decide)]
 intro x hx;obtain⟨r,_,rfl⟩:=zah.mp hx;cases r with
 |none=>show okD 39 .non;rw[Nq];trivial
 |some z=>show okD 39 (.str z);rw[xg];trivial
def Nn(ws:List Str):okD 40 (D.lst (ws.map D.str)):=by
 rw[qa (by decide)]
 intro x hx;obtain⟨z,_,rfl⟩:=zah.mp hx;rw[xg];trivial
def B5:∀(rs:List (Option Str))(ws:List Str),eqD (.lst (rs.map optD)) (.lst (ws.map D.str))=decide (rs=ws.map some):=by
 intro rs ws;show eqDs (rs.map optD) (ws.map D.str)=_
 induction rs generalizing ws with
 |nil =>
  cases ws with
  |nil=>rfl
  |cons w ws=>rfl
 |cons r rs ih =>
  cases ws with
  |nil=>cases r <;> rfl
  |cons z ws =>
   show(eqD (optD r) (.str z)&&eqDs (rs.map optD) (ws.map D.str))=_;rw[ih];cases r with
   |none =>
    show(false&&_)=_;simp
   |some y =>
    show(eqD (.str y) (.str z)&&_)=_;rw[v6];by_cases hy:y=z
    ·subst hy;simp
    ·simp[hy]
def E9(ws:List Str):(ws.map Cst.str).map cstD=ws.map D.str:=G7 ws
def cf{n:Nat}(T:Tops mg)(z5e:FD P w K mg base (3*n+2) "shape_of" ["expression","names","known"] (qm n))(F:Fun K "shape_if" "shape_if" (top 20) f fd)(m:mg "shape_if" = some (.ref f)):FD P w K mg base (3*n+3) "shape_if" ["parts","wanted","shape","names","known"] (Y8 n):=by
 have S:zo ["parts","wanted","shape","names","known"] ["parts","wanted","shape","names","known"] (zd (top 20)):=by walk_at "f"
 walk_at "b";refine⟨_,(ze (yh (xr hu (yf (T:=["part"]) (F:=["names","known"]) (js:=[3,4]) (yj (za 0)) (show zm (zd (top 20)) _ _ _ from by walk_at "c") (.cons rfl (.cons rfl .nil)) (by decide) (λcl C fp s H=>(zn (i:=0) (show(["part","names","known"]:List Str).Nodup by decide +kernel) rfl (by walk_at "o"))) (zw (by decide)) (yc 0) (λcl C fp s H=>ya) (λcl C fp s H=>(zg z5e hr.d (z9 (za 0) (z9 (za 1) (z9 (za 2) zb)))))) (Hw T.list (z9 (za 1) zb))) (zi (zp (za 2))) y7)
   (zi (zp Vr))),?_⟩
 obtain⟨a0,b0,c0,d0,e0,rfl,fs,env,es,rs,ws,s,ok,rfl,hw,wl,rfl,rfl,rfl,hp,hl1,h⟩:=hT;walk_at "dl";refine zv es (λψ hψ=>?_) (λi gs=>gs=(rs.take i).map optD) (by omega) rfl ?_ ?_
 ·walk_at "dl";exact hψ
 ·rintro i e gs he hle rfl;obtain⟨c,hc,hr',eq⟩:=Qg optD hp he;walk_at "p";walk_at "dl";exact⟨_,_,_,rfl,fs,env,c,ok,rfl,rfl,hr',trivial,eq.symm⟩
 rintro gs rfl;rw[hp.1,List.take_length];have fin:okD 40 (D.lst (rs.map optD))/\okD 40 (D.lst (ws.map D.str))/\(eqD (D.lst (rs.map optD)) (D.lst (ws.map D.str))=true->φ ⟨.val,.str s⟩)/\(eqD (D.lst (rs.map optD)) (D.lst (ws.map D.str))=false->φ ⟨.val,.non⟩):=by
  rw[B5];unfold ifS at h;refine⟨C6 rs,Nn ws,λz=>?_,λz=>?_⟩
  ·rw[if_pos (of_decide_eq_true z)]at h;exact h
  ·rw[if_neg (of_decide_eq_false z)]at h;exact h
 rcases hw with rfl|rfl
 ·walk_at "dl";exact fin
 ·unfold cs;walk_at "dl";rw[E9];exact fin
def Xi{n:Nat}(T:Tops mg)(z5t:FD P w K mg base (3*n+3) "shape_if" ["parts","wanted","shape","names","known"] (Y8 n))(F:Fun K "call_shape" "call_shape" (top 19) f fd)(m:mg "call_shape" = some (.ref f)):FD P w K mg base (3*n+4) "call_shape" ["call","names","known"] (Zb n):=by
 have S:zo ["call","names","known","called"] ["call","names","known"] (zd (top 19)):=by walk_at "f"
 walk_at "b";refine⟨_,(ze (zj (yh (Xl hu (zk hu (za 0) zc) (za 2)) (zi (zp Vr)) y7))
   (ze (zj (zt 3 S.nd (zk hu (za 2) (zk hu (za 0) zc))))
   (zi (zp (zg z5t hr.d (z9 (zk hu (za 0) zc) (z9 (yf (T:=["name","shape"]) (F:=[]) (js:=[]) (yj (zk hu (za 3) zc)) (show zm (zd (top 19)) _ _ _ from by walk_at "c") .nil (by decide) (λcl C fp s H=>(wt (K0:=K) (n:=2) (by rfl) (by rfl) (yb (zn (i:=0) (show(["name","shape"]:List Str).Nodup by decide +kernel) rfl (by walk_at "o")) (yb (zn (i:=1) (show(["name","shape"]:List Str).Nodup by decide +kernel) rfl (by walk_at "o")) wq)))) (uk (ym y9 (xo y9 xc) (zw (by decide)) (ym y9 xc (zw (by decide)) ul))) (v5 0 1) (λcl C fp s H=>ya) (λcl C fp s H=>(za 1))) (z9 (zk hu (zk hu (za 3) zc) zc) (z9 (za 1) (z9 (za 2) zb)))))))))),?_⟩
 obtain⟨a0,b0,c0,rfl,fs,env,f,es,rs,ok,rfl,rfl,rfl,hp,hl1,h⟩:=hT;have lk:=R6 f fs;have mem:((Sum.inr f:Key)∈fs.map λg=>(Sum.inr g.name:Key)) ↔ (fnL fs f).isSome=true:=Fy f fs;refine zf (λρ=>∃g,fnL fs f=some g/\ρ=[q_ (.tup [.str "call",.str f,.tup es]),q_ (yq env),q_ (xb fs),none]) ?_ ?_
 ·unfold xb;walk_at "dl";refine⟨λz=>?_,λz=>?_⟩
  ·have z':=(if_pos trivial).symm.trans z;have nn:fnL fs f=none:=by
    cases e:fnL fs f with
    |none=>rfl
    |some g =>
     have:=mem.mpr (by rw[e];rfl)
     rw[decide_eq_true this]at z';cases z'
   unfold U0 at h;rw[nn]at h;exact h
  ·have z':=(if_pos trivial).symm.trans z;have:=mem.mp (of_decide_eq_true (by simpa using z'))
   exact Option.isSome_iff_exists.mp this
 rintro _ ⟨g,eg,rfl⟩;rw[eg]at lk;have gp:=ok g (Mv eg);have gp100:g.params.length<=100000:=by omega
 refine zf (λρ=>ρ=[q_ (.tup [.str "call",.str f,.tup es]),q_ (yq env),q_ (xb fs),q_ (fnD g)]) ?_ ?_
 ·unfold xb;walk_at "dl";rw[lk];rfl
 rintro _ rfl;simp only[fnD];walk_at "dl";refine zv (g.params.map prD) (λψ hψ=>?_) (λi gs=>gs=((g.params.take i).map Prod.snd).map D.str) (by rw[zLm];exact(zak gp100 (by decide))) rfl ?_ ?_
 ·walk_at "dl";exact hψ
 ·rintro i e gs he hle rfl;rw[zai]at he;obtain⟨p,hp',rfl⟩:=zar.mp he;walk_at "p";simp only[prD];walk_at "dl";rw[List.take_succ,hp'];simp
 rintro gs rfl;rw[zLm,List.take_length];walk_at "dl";unfold U0 at h;rw[eg]at h;refine⟨_,_,_,_,_,rfl,fs,env,es,rs,g.params.map Prod.snd,g.shape,ok,rfl,.inl rfl,by rw[zLm];omega,rfl,rfl,rfl,hp,hl1,?_,h⟩
 cases ifS rs (g.params.map Prod.snd) g.shape <;> trivial
def Ts(T:Tops mg)(F:Fun K "is_whole" "is_whole" (top 10) f fd)(m:mg "is_whole" = some (.ref f)):FD P w K mg base 1 "is_whole" ["thing"] Z6:=by
 have S:zo ["thing"] ["thing"] (zd (top 10)):=by walk_at "f"
 walk_at "b";refine⟨_,(zi (zp (cu (wc T.isinstance (z9 (za 0) (z9 (ga T.int ko) zb))) (cj (Lb (wc T.isinstance (z9 (za 0) (z9 (ga T.bool Zz) zb)))))))),?_⟩;obtain⟨a,rfl,h⟩:=z3d hT;walk_at "dl";exact h
def Tf{n:Nat}(T:Tops mg)(Z:Con2 P w K mg)(z5u:FD P w K mg base 1 "is_whole" ["thing"] Z6)(z6r:FD P w K mg base (3*n+4) "call_shape" ["call","names","known"] (Zb n))(z5t:FD P w K mg base (3*n+3) "shape_if" ["parts","wanted","shape","names","known"] (Y8 n))(F:Fun K "shape_of" "shape_of" (top 18) f fd)(m:mg "shape_of" = some (.ref f)):FD P w K mg base (3*n+5) "shape_of" ["expression","names","known"] (qm (n+1)):=by
 have S:zo ["expression","names","known","kind"] ["expression","names","known"] (zd (top 18)):=by walk_at "f"
 walk_at "b";refine⟨_,(ze (zt 3 S.nd (zk hu (za 0) zc))
   (ze (yh (xr hu (za 3) zh) (zi (zp (Rq (xm (zg z5u hr.d (z9 (zk hu (za 0) zc) zb))) zh Vr))) y7)
   (ze (yh (xr hu (za 3) zh) (zi (zp (Lc hu (za 1) (zk hu (za 0) zc)))) y7)
   (ze (yh (xr hu (za 3) zh) (zi (zp (zg z6r hr.d (z9 (za 0) (z9 (za 1) (z9 (za 2) zb)))))) y7)
   (ze (yh (Vo Z.t_FORMS (za 3)) (zi (zp Vr)) y7)
   (zi (zp (zg z5t hr.d (z9 (xf (za 0) (x8 zc) vi) (z9 (E2 (fc Z.t_FORMS (za 3)) zc) (z9 (E2 (fc Z.t_FORMS (za 3)) zc) (z9 (za 1) (z9 (za 2) zb))))))))))))),?_⟩
 obtain⟨a0,b0,c0,rfl,fs,env,r,ok,rfl,rfl,he,h⟩:=hT;rcases he with⟨i,rfl,rfl⟩|⟨z,rfl,rfl⟩|⟨f,es,rs,rfl,hp,hl1,rfl⟩|⟨o,es,rs,n1,n2,n3,rfl,hp,hl1,rfl⟩
 ·walk_at "dl";simp only[Z6,w1];exact⟨λ_=>h,λz=>(nomatch z)⟩
 ·have lk:=dm z env;unfold yq;walk_at "dl";rw[lk];refine⟨λz=>absurd z (by decide),λ_=>?_⟩
  have hh:(Option.map D.str (rn env z)).getD D.non=optD (rn env z):=by cases rn env z <;> rfl
  rw[hh];exact⟨Yw _,h⟩
 ·walk_at "dl";refine⟨λz=>absurd z (by decide),λ_=>⟨λz=>absurd z (by decide),λ_=>?_⟩⟩
  exact⟨_,_,_,rfl,fs,env,f,es,rs,ok,rfl,rfl,rfl,hp,hl1,Yw _,h⟩
 ·have ft:=Hn o;have hc1:cutD (D.str o::es) (some 1) none=es:=wf (D.str o::es) 1;walk_at "dl";refine⟨λz=>absurd z n1,λ_=>⟨λz=>absurd z n2,λ_=>⟨λz=>absurd z n3,λ_=>?_⟩⟩⟩;rw[hc1,ft];unfold Cw at h;cases e:qc o with
  |none =>
   rw[e]at h;exact⟨λ_=>h,λz=>(nomatch z)⟩
  |some p =>
   rw[e]at h;exact⟨λz=>(nomatch z),λ_=>⟨F0 _,_,_,_,_,_,rfl,fs,env,es,rs,p.1,p.2,ok,rfl,.inr rfl,Ho e,rfl,rfl,rfl,hp,hl1,Yw _,h⟩⟩
theorem je(T:Tops mg)(Z:Con2 P w K mg)(F1:FD P w K mg base 1 "is_whole" ["thing"] Z6){f2 f3:Addr}{fd2 fd3:FuncData}(G2:Fun K "shape_if" "shape_if" (top 20) f2 fd2)(m2:mg "shape_if" = some (.ref f2))(G3:Fun K "call_shape" "call_shape" (top 19) f3 fd3)(m3:mg "call_shape" = some (.ref f3))(F:Fun K "shape_of" "shape_of" (top 18) f fd)(m:mg "shape_of" = some (.ref f)):∀n:Nat,FD P w K mg base (3*n+2) "shape_of" ["expression","names","known"] (qm n)
 |0=>by
  have S:zo ["expression","names","known","kind"] ["expression","names","known"] (zd (top 18)):=by walk_at "f"
  refine yo F S (F.binds λ_ _ _ _ _ _ us hl=>(by obtain⟨_,_,_,rfl⟩:=Mf hl;rfl)) m λqZ A outer s H E ds φ hr hl hT=>?_
  obtain⟨a0,b0,c0,rfl,fs,env,r,ok,rfl,rfl,he,h⟩:=hT;exact he.elim
 |n+1=>Tf T Z F1 (Xi T (cf T (je T Z F1 G2 m2 G3 m3 F m n) G2 m2) G3 m3) (cf T (je T Z F1 G2 m2 G3 m3 F m n) G2 m2) F m
def Yz:Str:="abcdefghijklmnopqrstuvwxyz"
def rc(c:Nat):Bool:=!(Builtin.Str.occurrences Yz ⟨#[c]⟩ 0 Yz.length 1).isEmpty
def IsNm(z:Str):Prop:=1<=z.length/\z.length<=8/\z≠"nil"/\z≠"leaf"/\∀c∈z.cps.toList,rc c=true
def ua:FT:=g1 λd φ=>∃z,d=.str z/\z.length<=1000/\∀b:Bool,(b=true ↔ IsNm z)->φ (dv (.bl b))
def t9:FT:=g1 λd φ=>∃zs:List Str,d=.lst (zs.map D.str)/\zs.length<=100/\∀b:Bool,(b=true ↔ zs.Nodup)->φ (dv (.bl b))
def IsSh(z:Str):Prop:=z = "num"\/z = "list"\/z = "tree"
structure bn(shape:Str)(size:List Int)(shapes:List Str):Prop where
 sh:IsSh shape
 shs:∀p∈shapes,IsSh p
 sz:size.length=shapes.length+1
 nn:∀n∈size,0<=n
 z1:shape = "num"->∀n∈size,n=0
 z2:∀(i:Nat) n,shapes[i]?=some "num"->size[i+1]?=some n->n=0
def Oa:FT:=g2 λd e φ=>∃(shape:Str)(size:List Int)(shapes:List Str),d=.tup [.str shape,.tup (size.map D.int)]/\e=.lst (shapes.map D.str)/\size.length<=100/\shapes.length<=100/\bn shape size shapes/\φ (dv (.bl true))
structure K9(f:Fn):Prop where
 nm:IsNm f.name
 lo:1<=f.params.length
 hi:f.params.length<=4
 nms:∀p∈f.params,IsNm p.1
 nd:(f.params.map Prod.fst).Nodup
 gv:bn f.shape f.size (f.params.map Prod.snd)
def O9:FT:=g1 λd φ=>∃f:Fn,d=fnD f/\K9 f/\φ (dv (.bl true))
def z3y(z:Str):inD (.str z) [.str "nil",.str "leaf"]=decide (z = "nil"\/z = "leaf"):=by
 show((eqD (.str "nil") (.str z)) || ((eqD (.str "leaf") (.str z)) || false))=_
 rw[v6,v6,Bool.or_false];by_cases h1:z = "nil"
 ·subst h1;simp
 ·by_cases h2:z = "leaf"
  ·subst h2;simp
  ·simp[h1,h2,Ne.symm h1,Ne.symm h2]
def z3x{z:Str}(h:IsSh z):inD (.str z) ((j5.map Cst.str).map cstD)=true:=by
 rcases h with rfl|rfl|rfl <;> decide
def ug:∀n:Nat,blsD (List.replicate n (D.bl true))=some (List.replicate n true)
 |0=>rfl
 |n+1=>by rw[List.replicate_succ,blsD,ug n];rfl
def uc:∀n:Nat,(List.replicate n true).all id=true
 |0=>rfl
 |n+1=>by rw[List.replicate_succ,List.all_cons,uc n];rfl
def Ra{z:Str}(h:IsNm z):z.length<=1000:=by have:=h.2.1;omega
def Mz(T:Tops mg)(F:Fun K "unlike" "unlike" (top 12) f fd)(m:mg "unlike" = some (.ref f)):FD P w K mg base 1 "unlike" ["names"] t9:=by
 have S:zo ["names"] ["names"] (zd (top 12)):=by walk_at "f"
 walk_at "b";refine⟨_,(zi (zp (Xq hu (P6 T.len T.set (za 0)) (xt T.len (z9 (za 0) zb))))),?_⟩;obtain⟨d,rfl,zs,rfl,hl1,h⟩:=xv hT;walk_at "dl";refine⟨zs,rfl,by omega,h _ ?_⟩
 rw[<- ZZ.many_eq,beq_iff_eq];omega
def P1(T:Tops mg)(Z:Con2 P w K mg)(F:Fun K "is_name" "is_name" (top 11) f fd)(m:mg "is_name" = some (.ref f)):FD P w K mg base 1 "is_name" ["thing"] ua:=by
 have S:zo ["thing"] ["thing"] (zd (top 11)):=by walk_at "f"
 walk_at "b";refine⟨_,(ze (yh (EW.et (tz (xw (xm (wc T.isinstance (z9 (za 0) (z9 (ga T.str vh) zb))))) (tz (xw (Xn zc (xt T.len (z9 (za 0) zb)) zc)) (um (z2h (za 0) (cm Z.c_NO_NAMES)))))) (zi (zp sx)) y7)
   (zi (zp (ue T.all (z9 (yf (T:=["sign"]) (F:=[]) (js:=[]) (yj (za 0)) (show zm (zd (top 11)) _ _ _ from by walk_at "c") .nil (by decide) (λcl C fp s H=>(zn (i:=0) (nd1 _) rfl (by walk_at "o"))) (zw (by decide)) (yc 0) (λcl C fp s H=>ya) (λcl C fp s H=>(z2n hu (za 0) (cm Z.c_LETTERS)))) zb))))),?_⟩
 obtain⟨d,rfl,z,rfl,hl1,h⟩:=xv hT;unfold cs;walk_at "dl";have no:∀P:Prop,¬ IsNm z->(false=true ↔ IsNm z):=λ_ q=>⟨λy=>(nomatch y),λy=>absurd y q⟩;have inn:=z3y z;refine⟨by rw[sizeLine_eq];omega,λh1=>⟨λh8=>h false (no True λq=>h8 (by have:=q.2.1;omega)),λh8=>⟨rfl,λq=>?_,λq=>?_⟩⟩,λh1=>h false (no True λq=>h1 (by have:=q.1;omega))⟩
 ·have q':=(if_neg (by simp)).symm.trans q
  rw[inn]at q';refine h false (no True λy=>?_);rcases of_decide_eq_true q' with e|e
  ·exact y.2.2.1 e
  ·exact y.2.2.2.1 e
 have q':=(if_neg (by simp)).symm.trans q
 rw[inn]at q';have nn:=of_decide_eq_false q';refine zv (z.cps.toList.map λc=>D.str ⟨#[c]⟩) (λψ hψ=>?_) (λi gs=>gs=(z.cps.toList.take i).map λc=>D.bl (rc c)) (by rw[zLm];exact zak (show z.cps.toList.length<=1000 from hl1) (by decide)) rfl ?_ ?_
 ·walk_at "dl";exact hψ
 ·rintro i e gs he hle rfl;rw[zai]at he;obtain⟨c,hc,rfl⟩:=zar.mp he;walk_at "p";refine⟨λ_=>⟨trivial,?_⟩,λy=>(nomatch y)⟩;rw[List.take_succ,hc,Option.toList_some,zMa];rfl
 rintro gs rfl;rw[zLm,List.take_length,show(z.cps.toList.map λc=>D.bl (rc c))=(z.cps.toList.map rc).map D.bl from by rw[List.map_map];rfl]
 simp only[Q0];refine h _ ?_;rw[List.all_map,List.all_eq_true];exact⟨λy=>⟨by omega,by omega,λe=>nn (.inl e),λe=>nn (.inr e),λc hc=>y c hc⟩,λy c hc=>y.2.2.2.2 c hc⟩
def Z3(T:Tops mg)(Z:Con2 P w K mg)(z5u:FD P w K mg base 1 "is_whole" ["thing"] Z6)(F:Fun K "gives_right" "gives_right" (top 15) f fd)(m:mg "gives_right" = some (.ref f)):FD P w K mg base 2 "gives_right" ["gives","shapes"] Oa:=by
 have S:zo ["gives","shapes","size"] ["gives","shapes"] (zd (top 15)):=by walk_at "f"
 walk_at "b";refine⟨_,(ze (zj (zt 2 S.nd (zk hu (za 0) zc)))
   (ze (zj (yh (xw (xm (ue T.all (z9 (yf (T:=["shape"]) (F:=[]) (js:=[]) (yj (y8 (y4 (z9 (zk hu (za 0) zc) zb)) (za 1))) (show zm (zd (top 15)) _ _ _ from by walk_at "c") .nil (by decide) (λcl C fp s H=>(zn (i:=0) (nd1 _) rfl (by walk_at "o"))) (zw (by decide)) (yc 0) (λcl C fp s H=>ya) (λcl C fp s H=>(z2m (za 0) (cm Z.c_SHAPES)))) zb)))) (zi (zp sx)) y7))
   (ze (zj (yh (EW.et (tz (qf hu (xt T.len (z9 (za 2) zb)) (y8 (xt T.len (z9 (za 1) zb)) zc)) (um (xw (xm (ue T.all (z9 (yf (T:=["number"]) (F:=[]) (js:=[]) (yj (za 2)) (show zm (zd (top 15)) _ _ _ from by walk_at "c") .nil (by decide) (λcl C fp s H=>(zn (i:=0) (nd1 _) rfl (by walk_at "o"))) (zw (by decide)) (yc 0) (λcl C fp s H=>ya) (λcl C fp s H=>(cu (zg z5u (hr.e rfl) (z9 (za 0) zb)) (cj (z4m (za 0) zc))))) zb))))))) (zi (zp sx)) y7))
   (ze (zj (yh (xr hu (zk hu (za 0) zc) zh) (zi (zp (Lb (Ba T.any (z9 (za 2) zb))))) y7))
   (zi (zp (ue T.all (z9 (yf (T:=["number","shape"]) (F:=[]) (js:=[]) (z2l T.zip (z9 (xf (za 2) (x8 zc) vi) (z9 (za 1) zb))) (show zm (zd (top 15)) _ _ _ from by walk_at "c") .nil (by decide) (λcl C fp s H=>(wt (K0:=K) (n:=2) (by rfl) (by rfl) (yb (zn (i:=0) (show(["number","shape"]:List Str).Nodup by decide +kernel) rfl (by walk_at "o")) (yb (zn (i:=1) (show(["number","shape"]:List Str).Nodup by decide +kernel) rfl (by walk_at "o")) wq)))) (uk (ym y9 (xo y9 xc) (zw (by decide)) (ym y9 xc (zw (by decide)) ul))) (v5 0 1) (λcl C fp s H=>(ci (xr hu (za 1) zh))) (λcl C fp s H=>(Xq hu (za 0) zc))) zb)))))))),?_⟩
 obtain⟨d,e,rfl,shape,size,shapes,rfl,rfl,hl1,hl2,ok,h⟩:=B3 hT;refine zf (λρ=>ρ=[q_ (.tup [.str shape,.tup (size.map D.int)]),q_ (.lst (shapes.map D.str)),q_ (.tup (size.map D.int))]) ?_ ?_
 ·walk_at "dl"
 rintro _ rfl;refine zf (λρ=>ρ=[q_ (.tup [.str shape,.tup (size.map D.int)]),q_ (.lst (shapes.map D.str)),q_ (.tup (size.map D.int))]) ?_ ?_
 ·unfold cs;walk_at "dl";refine zv ((shape::shapes).map D.str) (λψ hψ=>?_) (λi gs=>gs=List.replicate i (D.bl true)) (by rw[zLm,zLc];omega) rfl ?_ ?_
  ·walk_at "dl";refine⟨?_,hψ⟩;rw[sizeLine_eq];omega
  ·rintro i e gs he hle rfl;rw[zai]at he;obtain⟨z,hz,rfl⟩:=zar.mp he;have sz:IsSh z:=by
    rcases zam.mp (zan hz) with rfl|hm
    ·exact ok.sh
    ·exact ok.shs z hm
   walk_at "p";walk_at "dl";rw[z3x sz];exact⟨rfl,List.replicate_succ'.symm⟩
  rintro gs rfl;simp only[df,ug,uc];exact λy=>(nomatch y)
 rintro _ rfl;refine zf (λρ=>ρ=[q_ (.tup [.str shape,.tup (size.map D.int)]),q_ (.lst (shapes.map D.str)),q_ (.tup (size.map D.int))]) ?_ ?_
 ·walk_at "dl";refine⟨λy=>absurd (by have:=ok.sz;omega) y,λ_=>?_⟩
  refine zv (size.map D.int) (λψ hψ=>?_) (λi gs=>gs=List.replicate i (D.bl true)) (by rw[zLm];omega) rfl ?_ ?_
  ·walk_at "dl";exact hψ
  ·rintro i e gs he hle rfl;rw[zai]at he;obtain⟨z,hz,rfl⟩:=zar.mp he;have sz:=ok.nn z (zan hz);walk_at "p";walk_at "dl";simp only[Z6,w1];rw[decide_eq_true sz];exact⟨λ_=>List.replicate_succ'.symm,λy=>(nomatch y)⟩
  rintro gs rfl;simp only[df,ug,uc];exact λy=>(nomatch y)
 rintro _ rfl;refine zf (λρ=>ρ=[q_ (.tup [.str shape,.tup (size.map D.int)]),q_ (.lst (shapes.map D.str)),q_ (.tup (size.map D.int))]) ?_ ?_
 ·walk_at "dl";refine λes=>⟨size,rfl,?_⟩;rw[show(size.any λn=>n != 0)=false from by
   rw[List.any_eq_false];intro n hn;rw[ok.z1 es n hn]
   decide]
  exact h
 rintro _ rfl;have ec:cutD (size.map D.int) (some 1) none=(size.drop 1).map D.int:=by
  rw[List.map_drop];exact wf (size.map D.int) 1
 walk_at "dl";refine zv (zipD ((size.drop 1).map D.int) (shapes.map D.str)) (λψ hψ=>?_) (λi gs=>∃k,gs=List.replicate k (D.bl true)) ?_ ⟨0,rfl⟩ ?_ ?_
 ·walk_at "dl";rw[ec];have sn:size.length≠0:=by have:=ok.sz;omega
  refine⟨λq=>?_,hψ⟩;have:=q.1;unfold ZZ.sIx at this;simp at this;exact sn (by rw[this];rfl)
 ·unfold zipD;rw[List.length_zipWith,zLm,zLm];omega
 ·rintro i e gs he hle ⟨k,rfl⟩;unfold zipD at he;rw[List.getElem?_zipWith,zai,zai]at he;cases e1:(size.drop 1)[i]? with
  |none=>rw[e1]at he;cases he
  |some n =>
   cases e2:shapes[i]? with
   |none=>rw[e1,e2]at he;cases he
   |some s =>
    rw[e1,e2]at he;cases he;rw[List.getElem?_drop]at e1;walk_at "p";walk_at "dl";refine⟨λes=>?_,λ_=>⟨k,rfl⟩⟩;subst es;have n0:=ok.z2 i n e2 (by rw[Nat.add_comm];exact e1)
    subst n0;exact⟨k+1,List.replicate_succ'.symm⟩
 rintro gs ⟨k,rfl⟩;simp only[df,ug,uc];exact h
def Xh(T:Tops mg)(z5k:FD P w K mg base 1 "unlike" ["names"] t9)(z5b:FD P w K mg base 1 "is_name" ["thing"] ua)(z6l:FD P w K mg base 2 "gives_right" ["gives","shapes"] Oa)(F:Fun K "head_right" "head_right" (top 14) f fd)(m:mg "head_right" = some (.ref f)):FD P w K mg base 3 "head_right" ["function"] O9:=by
 have S:zo ["function","params","names"] ["function"] (zd (top 14)):=by walk_at "f"
 walk_at "b";refine⟨_,(ze (zj (zt 1 S.nd (zk hu (za 0) zc)))
   (ze (zj (yn (T:=["name","shape"]) (F:=[]) (js:=[]) 2 S.nd (yj (za 1)) (show zm (zd (top 14)) _ _ _ from by walk_at "c") .nil (by decide) (λcl C fp s H=>(wt (K0:=K) (n:=2) (by rfl) (by rfl) (yb (zn (i:=0) (show(["name","shape"]:List Str).Nodup by decide +kernel) rfl (by walk_at "o")) (yb (zn (i:=1) (show(["name","shape"]:List Str).Nodup by decide +kernel) rfl (by walk_at "o")) wq)))) (uk (ym y9 (xo y9 xc) (zw (by decide)) (ym y9 xc (zw (by decide)) ul))) (v5 0 1) (λcl C fp s H=>ya) (λcl C fp s H=>(za 0))))
   (ze (zj (yh (EW.et (tz (xw (Xn zc (xt T.len (z9 (za 1) zb)) zc)) (um (xw (xm (zg z5k (hr.e rfl) (z9 (za 2) zb))))))) (zi (zp sx)) y7))
   (ze (zj (yh (xw (xm (ue T.all (z9 (yf (T:=["name"]) (F:=[]) (js:=[]) (yj (y8 (y4 (z9 (zk hu (za 0) zc) zb)) (za 2))) (show zm (zd (top 14)) _ _ _ from by walk_at "c") .nil (by decide) (λcl C fp s H=>(zn (i:=0) (nd1 _) rfl (by walk_at "o"))) (zw (by decide)) (yc 0) (λcl C fp s H=>ya) (λcl C fp s H=>(zg z5b (hr.e rfl) (z9 (za 0) zb)))) zb)))) (zi (zp sx)) y7))
   (zi (zp (zg z6l (hr.e rfl) (z9 (zk hu (za 0) zc) (z9 (yf (T:=["name","shape"]) (F:=[]) (js:=[]) (yj (za 1)) (show zm (zd (top 14)) _ _ _ from by walk_at "c") .nil (by decide) (λcl C fp s H=>(wt (K0:=K) (n:=2) (by rfl) (by rfl) (yb (zn (i:=0) (show(["name","shape"]:List Str).Nodup by decide +kernel) rfl (by walk_at "o")) (yb (zn (i:=1) (show(["name","shape"]:List Str).Nodup by decide +kernel) rfl (by walk_at "o")) wq)))) (uk (ym y9 (xo y9 xc) (zw (by decide)) (ym y9 xc (zw (by decide)) ul))) (v5 0 1) (λcl C fp s H=>ya) (λcl C fp s H=>(za 1))) zb))))))))),?_⟩
 obtain⟨d,rfl,g,rfl,ok,h⟩:=xv hT;have p4:=ok.hi;have p1:=ok.lo;refine zf (λρ=>ρ=[q_ (fnD g),q_ (.tup (g.params.map prD)),none]) ?_ ?_
 ·simp only[fnD];walk_at "dl"
 rintro _ rfl;refine zf (λρ=>ρ=[q_ (fnD g),q_ (.tup (g.params.map prD)),Q_ (.lst ((g.params.map Prod.fst).map D.str))]) ?_ ?_
 ·refine zv (g.params.map prD) (λψ hψ=>?_) (λi gs=>gs=((g.params.take i).map Prod.fst).map D.str) (by rw[zLm];omega) rfl ?_ ?_
  ·walk_at "dl";exact hψ
  ·rintro i e gs he hle rfl;rw[zai]at he;obtain⟨p,hp',rfl⟩:=zar.mp he;walk_at "p";simp only[prD];walk_at "dl";rw[List.take_succ,hp'];simp
  ·rintro gs rfl;rw[zLm,List.take_length];exact⟨trivial,rfl⟩
 rintro _ rfl;refine zf (λρ=>ρ=[q_ (fnD g),q_ (.tup (g.params.map prD)),Q_ (.lst ((g.params.map Prod.fst).map D.str))]) ?_ ?_
 ·walk_at "dl";refine⟨λ_=>⟨λq=>absurd (by omega) q,λ_=>?_⟩,λq=>absurd (by omega) q⟩
  simp only[t9,ZZ.g1];refine⟨_,rfl,by rw[zLm];omega,λb hb=>?_⟩
  rw[hb.mpr ok.nd];exact λz=>(nomatch z)
 rintro _ rfl;refine zf (λρ=>ρ=[q_ (fnD g),q_ (.tup (g.params.map prD)),Q_ (.lst ((g.params.map Prod.fst).map D.str))]) ?_ ?_
 ·simp only[fnD];walk_at "dl";refine zv ((g.name::g.params.map Prod.fst).map D.str) (λψ hψ=>?_) (λi gs=>gs=List.replicate i (D.bl true)) (by rw[zLm,zLc,zLm];omega) rfl ?_ ?_
  ·walk_at "dl";refine⟨?_,hψ⟩;rw[sizeLine_eq];omega
  ·rintro i e gs he hle rfl;rw[zai]at he;obtain⟨z,hz,rfl⟩:=zar.mp he;have nz:IsNm z:=by
    rcases zam.mp (zan hz) with rfl|hm
    ·exact ok.nm
    ·obtain⟨p,hp,rfl⟩:=zah.mp hm;exact ok.nms p hp
   walk_at "p";walk_at "dl";simp only[ua,ZZ.g1];refine⟨z,rfl,Ra nz,λb hb=>?_⟩;rw[hb.mpr nz];exact⟨trivial,List.replicate_succ'.symm⟩
  rintro gs rfl;simp only[df,ug,uc];exact λy=>(nomatch y)
 rintro _ rfl;simp only[fnD];walk_at "dl";refine zv (g.params.map prD) (λψ hψ=>?_) (λi gs=>gs=((g.params.take i).map Prod.snd).map D.str) (by rw[zLm];omega) rfl ?_ ?_
 ·walk_at "dl";exact hψ
 ·rintro i e gs he hle rfl;rw[zai]at he;obtain⟨p,hp',rfl⟩:=zar.mp he;walk_at "p";simp only[prD];walk_at "dl";rw[List.take_succ,hp'];simp
 rintro gs rfl;rw[zLm,List.take_length];walk_at "dl";simp only[Oa,ZZ.g2];have sz:=ok.gv.sz;rw[zLm]at sz;exact⟨_,_,_,rfl,rfl,by omega,by rw[zLm];omega,ok.gv,trivial,h⟩
def Zy(k:Str):Option (List Str):=if k = "list" then some ["num","list"] else if k = "tree" then some ["tree","num","tree"] else none
def Bk(k:Str):tabL Xw k=(Zy k).map cs:=by
 unfold Zy Xw;simp only[tabL]
 repeat' split
 all_goals rfl
def Ka(env ps:List (Str×Str)):Prop:=(ps.map Prod.fst).Nodup/\(∀p∈ps,IsNm p.1)/\(∀p∈ps,p.1∉env.map Prod.fst)/\ps.length<=3
def Rb(fs:List Fn)(due:Str)(M:Nat):Nat->List (Str×Str)->D->Prop
 |0,_,_=>False
 |n+1,env,b=>(∃e,Sh1 fs env M e (some due)/\b=.tup [.str "give",e]) \/
  (∃z e s b1,Sh1 fs env M e (some s)/\Ka env [(z,s)]/\Rb fs due M n (env++[(z,s)]) b1/\b=.tup [.str "let",.str z,e,b1]) \/
  (∃e1 e2 b1 b2,Sh1 fs env M e1 (some "num")/\Sh1 fs env M e2 (some "num")/\Rb fs due M n env b1/\Rb fs due M n env b2/\b=.tup [.str "less",e1,e2,b1,b2]) \/
  (∃(k z:Str)(b1:D)(zs ks:List Str)(b2:D),Zy k=some ks/\rn env z=some k/\zs.length=ks.length/\Ka env (zs.zip ks)/\Rb fs due M n env b1/\Rb fs due M n (env++zs.zip ks) b2/\b=.tup ([.str k,.str z,b1]++zs.map D.str++[b2]))
def g4'(g:D->D->D->D->(EV->Prop)->Prop):FT:=λds φ=>∃a b c d,ds=[a,b,c,d]/\g a b c d φ
def z2y(n:Nat)(env:List (Str×Str)):Prop:=(env.map Prod.fst).Nodup/\env.length+3*n<=100
def KnOk(fs:List Fn):Prop:=∀f∈fs,f.params.length<=100
def W9(M n:Nat):FT:=g4' λb na du kn φ=>∃fs env due,KnOk fs/\z2y n env/\na=yq env/\du=.str due/\kn=xb fs/\Rb fs due M n env b/\φ (dv (.bl true))
def O2(M n:Nat):FT:=g5' λb br na du kn φ=>∃fs env due ps,KnOk fs/\z2y (n+1) env/\br=.lst (ps.map prD)/\Ka env ps/\na=yq env/\du=.str due/\kn=xb fs/\Rb fs due M n (env++ps) b/\φ (dv (.bl true))
def N6:∀ps:List (Str×Str),ps.map prD=Zn (ps.map λp=>(Sum.inr p.1:Key)) (ps.map λp=>D.str p.2)
 |[]=>rfl
 |p::ps=>by
  rw[List.map_cons,N6 ps];rfl
def Ny(a b:List (Str×Str)):yq (a++b)=.dk ((a.map λp=>(Sum.inr p.1:Key))++b.map λp=>(Sum.inr p.1:Key)) ((a.map λp=>D.str p.2)++b.map λp=>D.str p.2):=by
 unfold yq;rw[zMa,zMa]
def Wq{env ps:List (Str×Str)}(h1:(env.map Prod.fst).Nodup)(h:Ka env ps):((env++ps).map Prod.fst).Nodup:=by
 rw[zMa,List.nodup_append];refine⟨h1,h.1,λa ha b hb e=>?_⟩;obtain⟨p,hp,rfl⟩:=zah.mp hb;exact h.2.2.1 p hp (e▸ha)
def Rn{env:List (Str×Str)}(h:(env.map Prod.fst).Nodup):(env.map λp=>(Sum.inr p.1:Key)).Nodup:=by
 have:(env.map λp=>(Sum.inr p.1:Key))=(env.map Prod.fst).map Sum.inr:=by rw[List.map_map];rfl
 rw[this];exact List.Pairwise.map _ (λa b h e=>h (Sum.inr.inj e)) h
def B6{env:List (Str×Str)}{z:Str}:((Sum.inr z:Key)∈env.map λp=>(Sum.inr p.1:Key)) ↔ z∈env.map Prod.fst:=by
 constructor
 ·intro h;obtain⟨p,hp,e⟩:=zah.mp h;exact zah.mpr ⟨p,hp,Sum.inr.inj e⟩
 ·intro h;obtain⟨p,hp,rfl⟩:=zah.mp h;exact zah.mpr ⟨p,hp,rfl⟩
def bz{M n:Nat}(T:Tops mg)(z5k:FD P w K mg base 1 "unlike" ["names"] t9)(z5b:FD P w K mg base 1 "is_name" ["thing"] ua)(z4w:FD P w K mg base (3*M+2*n+4) "body_right" ["body","names","due","known"] (W9 M n))(F:Fun K "wider_right" "wider_right" (top 17) f fd)(m:mg "wider_right" = some (.ref f)):FD P w K mg base (3*M+2*n+5) "wider_right" ["body","brought","names","due","known"] (O2 M n):=by
 have S:zo ["body","brought","names","due","known","wider"] ["body","brought","names","due","known"] (zd (top 17)):=by walk_at "f"
 walk_at "b";refine⟨_,(ze (zj (yh (xw (xm (zg z5k hr.d (z9 (yf (T:=["name","shape"]) (F:=[]) (js:=[]) (yj (za 1)) (show zm (zd (top 17)) _ _ _ from by walk_at "c") .nil (by decide) (λcl C fp s H=>(wt (K0:=K) (n:=2) (by rfl) (by rfl) (yb (zn (i:=0) (show(["name","shape"]:List Str).Nodup by decide +kernel) rfl (by walk_at "o")) (yb (zn (i:=1) (show(["name","shape"]:List Str).Nodup by decide +kernel) rfl (by walk_at "o")) wq)))) (uk (ym y9 (xo y9 xc) (zw (by decide)) (ym y9 xc (zw (by decide)) ul))) (v5 0 1) (λcl C fp s H=>ya) (λcl C fp s H=>(za 0))) zb)))) (zi (zp sx)) y7))
   (ze (zj (yh (xw (xm (ue T.all (z9 (yf (T:=["name","shape"]) (F:=["names"]) (js:=[2]) (yj (za 1)) (show zm (zd (top 17)) _ _ _ from by walk_at "c") (.cons rfl .nil) (by decide) (λcl C fp s H=>(wt (K0:=K) (n:=2) (by rfl) (by rfl) (yb (zn (i:=0) (show(["name","shape","names"]:List Str).Nodup by decide +kernel) rfl (by walk_at "o")) (yb (zn (i:=1) (show(["name","shape","names"]:List Str).Nodup by decide +kernel) rfl (by walk_at "o")) wq)))) (uk (ym y9 (xo y9 xc) (zw (by decide)) (ym y9 xc (zw (by decide)) ul))) (v5 0 1) (λcl C fp s H=>ya) (λcl C fp s H=>(cu (zg z5b hr.d (z9 (za 0) zb)) (cu (Hu hu (za 0) (za 2)) (cj (Hx (za 1) Vr)))))) zb)))) (zi (zp sx)) y7))
   (ze (zj (zt 5 S.nd (Hz T.dict (z9 (za 2) zb))))
   (ze (zj (D6 5 (Rt T.dict (z9 (za 1) zb))))
   (zi (tf 5 (zp (zg z4w hr.d (z9 (za 0) (z9 (za 5) (z9 (za 3) (z9 (za 4) zb)))))))))))),?_⟩
 obtain⟨b,b0,c0,d0,e0,rfl,fs,env,due,ps,kn,⟨e1,e2⟩,rfl,fr,rfl,rfl,rfl,hb,h⟩:=hT;have p3:=fr.2.2.2;refine zf (λρ=>ρ=[q_ b,q_ (.lst (ps.map prD)),q_ (yq env),q_ (.str due),q_ (xb fs),none]) ?_ ?_
 ·walk_at "dl";refine zv (ps.map prD) (λψ hψ=>?_) (λi gs=>gs=((ps.take i).map Prod.fst).map D.str) (by rw[zLm];omega) rfl ?_ ?_
  ·walk_at "dl";exact hψ
  ·rintro i e gs he hle rfl;rw[zai]at he;obtain⟨p,hp',rfl⟩:=zar.mp he;walk_at "p";simp only[prD];walk_at "dl";rw[List.take_succ,hp'];simp
  rintro gs rfl;rw[zLm,List.take_length];walk_at "dl";simp only[t9,ZZ.g1];refine⟨_,rfl,by rw[zLm];omega,λb hb=>?_⟩
  rw[hb.mpr fr.1];exact λy=>(nomatch y)
 rintro _ rfl;refine zf (λρ=>ρ=[q_ b,q_ (.lst (ps.map prD)),q_ (yq env),q_ (.str due),q_ (xb fs),none]) ?_ ?_
 ·walk_at "dl";refine zv (ps.map prD) (λψ hψ=>?_) (λi gs=>gs=List.replicate i (D.bl true)) (by rw[zLm];omega) rfl ?_ ?_
  ·walk_at "dl";exact hψ
  ·rintro i e gs he hle rfl;rw[zai]at he;obtain⟨p,hp',rfl⟩:=zar.mp he;have np:=fr.2.1 p (zan hp');have nf:=fr.2.2.1 p (zan hp');walk_at "p";simp only[prD,yq];walk_at "dl";simp only[ua,ZZ.g1];refine⟨p.1,rfl,Ra np,λb hb=>?_⟩;rw[hb.mpr np];refine⟨λ_=>⟨λ_=>List.replicate_succ'.symm,λz=>?_⟩,λy=>(nomatch y)⟩;have z':=(if_pos trivial).symm.trans z;rw[decide_eq_false (λq=>nf (B6.mp q))]at z';cases z'
  rintro gs rfl;simp only[df,ug,uc];exact λy=>(nomatch y)
 rintro _ rfl;refine zf (λρ=>ρ=[q_ b,q_ (.lst (ps.map prD)),q_ (yq env),q_ (.str due),q_ (xb fs),Q_ (yq env)]) ?_ ?_
 ·unfold yq;walk_at "dl"
 rintro _ rfl;refine zf (λρ=>ρ=[q_ b,q_ (.lst (ps.map prD)),q_ (yq env),q_ (.str due),q_ (xb fs),Q_ (yq (env++ps))]) ?_ ?_
 ·rw[Ny];unfold yq;walk_at "dl";refine⟨ps.map λp=>Sum.inr p.1,ps.map λp=>.str p.2,N6 ps,by rw[zLm,zLm],Rn fr.1,by rw[zLm];omega,?_,rfl⟩
  have:=Rn (Wq e1 fr)
  rwa [zMa]at this
 rintro _ rfl;walk_at "dl";exact⟨_,_,_,_,rfl,fs,env++ps,due,kn,⟨Wq e1 fr,by rw[zLa];omega⟩,rfl,rfl,rfl,hb,trivial,h⟩
def Si{tc:TDb}{t1 t2:TDS}{ρ:DE}{Z:DZ}(h:∀ ψ:Bool->Prop,ψ false->tc ρ ψ)(h2:t2 ρ Z):sIf tc t1 t2 ρ Z:=h _ ⟨λz=>(nomatch z),λ_=>h2⟩
def Ow{tc:TDb}{t1 t2:TDS}{ρ:DE}{Z:DZ}(h:∀ ψ:Bool->Prop,ψ true->tc ρ ψ)(h1:t1 ρ Z):sIf tc t1 t2 ρ Z:=h _ ⟨λ_=>h1,λz=>(nomatch z)⟩
def Gu(a:Str):eqD (.str a) (.str a)=true:=by
 rw[v6];exact beq_self_eq_true a
def Ga{k:Str}{ks:List Str}(h:Zy k=some ks):(k = "list"/\ks=[("num" : Str),"list"])\/(k = "tree"/\ks=[("tree" : Str),"num","tree"]):=by
 unfold Zy at h;split at h
 ·rename_i e;cases h;exact .inl ⟨e,rfl⟩
 ·split at h
  ·rename_i e;cases h;exact .inr ⟨e,rfl⟩
  ·cases h
def bg{α:Type}(l:List α)(d:α):atI (l++[d]) (-1)=some d:=by
 unfold atI ixN;rw[zLa,List.length_singleton,if_neg (by decide),if_pos (by omega)]
 show(l++[d])[((-1:Int)+((l.length+1:Nat):Int)).toNat]?=some d;rw[show((-1:Int)+((l.length+1:Nat):Int)).toNat=l.length by omega]
 simp
def E8(a m:List D)(b:D)(k:Nat)(h:a.length=k):cutD (a++m++[b]) (some (k:Int)) (some (-1))=m:=by
 unfold ZZ.cutD;rw[ZZ.sIx_nat];have e:ZZ.sIx (a++m++[b]).length (a++m++[b]).length (some (-1))=k+m.length:=by
  unfold ZZ.sIx;simp;omega
 rw[e,Nat.min_eq_left (by simp;omega),List.append_assoc,List.drop_left' h,show k+m.length-k=m.length by omega,List.take_left]
def Ph:∀(zs ks:List Str),zipD (zs.map D.str) (ks.map D.str)=(zs.zip ks).map prD
 |[],_=>rfl
 |_::_,[]=>rfl
 |z::zs,k::ks=>by
  show D.tup [.str z,.str k]::zipD (zs.map D.str) (ks.map D.str)=prD (z,k)::(zs.zip ks).map prD;rw[Ph zs ks];rfl
def Xj{M n:Nat}(T:Tops mg)(Z:Con2 P w K mg)(z5e:FD P w K mg base (3*M+2) "shape_of" ["expression","names","known"] (qm M))(z4w:FD P w K mg base (3*M+2*n+4) "body_right" ["body","names","due","known"] (W9 M n))(z5r:FD P w K mg base (3*M+2*n+5) "wider_right" ["body","brought","names","due","known"] (O2 M n))(F:Fun K "body_right" "body_right" (top 16) f fd)(m:mg "body_right" = some (.ref f)):FD P w K mg base (3*M+2*n+6) "body_right" ["body","names","due","known"] (W9 M (n+1)):=by
 have S:zo ["body","names","due","known","kind","brought","compared"] ["body","names","due","known"] (zd (top 16)):=by walk_at "f"
 walk_at "b";refine⟨_,(ze (zj (zt 4 S.nd (zk hu (za 0) zc)))
   (ze (zj (yh (xr hu (za 4) zh) (zi (zp (Xq hu (zg z5e hr.d (z9 (zk hu (za 0) zc) (z9 (za 1) (z9 (za 3) zb)))) (za 2)))) y7))
   (ze (zj (yh (xr hu (za 4) zh) (ze (zj (zt 5 S.nd (y4 (z9 (w8 (z9 (zk hu (za 0) zc) (z9 (zg z5e hr.d (z9 (zk hu (za 0) zc) (z9 (za 1) (z9 (za 3) zb)))) zb))) zb))))
    (zi (tf 5 (zp (zg z5r hr.d (z9 (zk hu (za 0) zc) (z9 (za 5) (z9 (za 1) (z9 (za 2) (z9 (za 3) zb)))))))))) y7))
   (ze (zj (yh (xr hu (za 4) zh) (ze (zj (yn (T:=["part"]) (F:=["names","known"]) (js:=[1,3]) 6 S.nd (yj (xf (za 0) (x8 zc) (x8 zc))) (show zm (zd (top 16)) _ _ _ from by walk_at "c") (.cons rfl (.cons rfl .nil)) (by decide) (λcl C fp s H=>(zn (i:=0) (show(["part","names","known"]:List Str).Nodup by decide +kernel) rfl (by walk_at "o"))) (zw (by decide)) (yc 0) (λcl C fp s H=>ya) (λcl C fp s H=>(zg z5e hr.d (z9 (za 0) (z9 (za 1) (z9 (za 2) zb)))))))
    (zi (zp (cu (Xq hu (za 6) (y4 (z9 zh (z9 zh zb)))) (cj (ue T.all (z9 (yf (T:=["part"]) (F:=["names","due","known"]) (js:=[1,2,3]) (yj (xf (za 0) (x8 zc) vi)) (show zm (zd (top 16)) _ _ _ from by walk_at "c") (.cons rfl (.cons rfl (.cons rfl .nil))) (by decide) (λcl C fp s H=>(zn (i:=0) (show(["part","names","due","known"]:List Str).Nodup by decide +kernel) rfl (by walk_at "o"))) (zw (by decide)) (yc 0) (λcl C fp s H=>ya) (λcl C fp s H=>(zg z4w hr.d (z9 (za 0) (z9 (za 1) (z9 (za 2) (z9 (za 3) zb))))))) zb))))))) y7))
   (ze (zj (yh (EW.et (tz (Vo Z.t_BROUGHT (za 4)) (um (qf hu (Lc hu (za 1) (zk hu (za 0) zc)) (za 4))))) (zi (zp sx)) y7))
   (ze (zj (zt 5 S.nd (Hv T.list T.zip (z9 (xf (za 0) (x8 zc) (x8 (Vs zc))) (z9 (fc Z.t_BROUGHT (za 4)) zb)))))
   (zi (tf 5 (zp (cu (zg z4w hr.d (z9 (zk hu (za 0) zc) (z9 (za 1) (z9 (za 2) (z9 (za 3) zb))))) (cj (zg z5r hr.d (z9 (zk hu (za 0) (Vs zc)) (z9 (za 5) (z9 (za 1) (z9 (za 2) (z9 (za 3) zb))))))))))))))))),?_⟩
 obtain⟨b,b0,c0,d0,rfl,fs,env,due,kn,⟨e1,e2⟩,rfl,rfl,rfl,hb,h⟩:=hT;rcases hb with⟨e,he,rfl⟩|⟨z,e,s,b1,he,fr,hb1,rfl⟩|⟨x1,x2,b1,b2,hx1,hx2,hb1,hb2,rfl⟩|⟨k,z,b1,zs,ks,b2,hk,hz,hl1,fr,hb1,hb2,rfl⟩
 ·refine zf (λρ=>ρ=[q_ (.tup [.str "give",e]),q_ (yq env),q_ (.str due),q_ (xb fs),q_ (.str "give"),none,none]) ?_ ?_
  ·walk_at "dl"
  rintro _ rfl;refine zf (λρ=>False) ?_ (λ_ q=>q.elim);walk_at "dl";refine⟨_,_,_,rfl,fs,env,some due,kn,rfl,rfl,he,?_,?_⟩
  ·show okD 40 (.str due);rw[xg];trivial
  ·show φ ⟨.val,.bl (eqD (.str due) (.str due))⟩;rw[Gu];exact h
 ·refine zf (λρ=>ρ=[q_ (.tup [.str "let",.str z,e,b1]),q_ (yq env),q_ (.str due),q_ (xb fs),q_ (.str "let"),none,none]) ?_ ?_
  ·walk_at "dl"
  rintro _ rfl;refine zf (λρ=>ρ=[q_ (.tup [.str "let",.str z,e,b1]),q_ (yq env),q_ (.str due),q_ (xb fs),q_ (.str "let"),none,none]) ?_ ?_
  ·walk_at "dl";exact λq=>absurd q (by decide)
  rintro _ rfl;refine zf (λρ=>False) ?_ (λ_ q=>q.elim);refine Ow (λψ hψ=>?_) ?_
  ·walk_at "dl";exact hψ
  refine zf (λρ=>ρ=[q_ (.tup [.str "let",.str z,e,b1]),q_ (yq env),q_ (.str due),q_ (xb fs),q_ (.str "let"),Q_ (.lst [prD (z,s)]),none]) ?_ ?_
  ·walk_at "dl";exact⟨_,_,_,rfl,fs,env,some s,kn,rfl,rfl,he,rfl,rfl⟩
  rintro _ rfl;walk_at "dl";exact⟨_,_,_,_,_,rfl,fs,env,due,[(z,s)],kn,⟨e1,e2⟩,rfl,fr,rfl,rfl,rfl,hb1,trivial,h⟩
 ·refine zf (λρ=>ρ=[q_ (.tup [.str "less",x1,x2,b1,b2]),q_ (yq env),q_ (.str due),q_ (xb fs),q_ (.str "less"),none,none]) ?_ ?_
  ·walk_at "dl"
  rintro _ rfl;refine zf (λρ=>ρ=[q_ (.tup [.str "less",x1,x2,b1,b2]),q_ (yq env),q_ (.str due),q_ (xb fs),q_ (.str "less"),none,none]) ?_ ?_
  ·walk_at "dl";exact λq=>absurd q (by decide)
  rintro _ rfl;refine zf (λρ=>ρ=[q_ (.tup [.str "less",x1,x2,b1,b2]),q_ (yq env),q_ (.str due),q_ (xb fs),q_ (.str "less"),none,none]) ?_ ?_
  ·refine Si (λψ hψ=>?_) ?_
   ·walk_at "dl";rw[show(("less" : Str)=="let")=false by decide]
    exact hψ
   ·walk_at "dl"
  rintro _ rfl;refine zf (λρ=>False) ?_ (λ_ q=>q.elim);refine Ow (λψ hψ=>?_) ?_
  ·walk_at "dl";exact hψ
  have c13:cutD [D.str "less",x1,x2,b1,b2] (some 1) (some 3)=[x1,x2]:=rfl;have c3:cutD [D.str "less",x1,x2,b1,b2] (some 3) none=[b1,b2]:=wf [D.str "less",x1,x2,b1,b2] 3;refine zf (λρ=>ρ=[q_ (.tup [.str "less",x1,x2,b1,b2]),q_ (yq env),q_ (.str due),q_ (xb fs),q_ (.str "less"),none,Q_ (.lst [.str "num",.str "num"])]) ?_ ?_
  ·refine zv [x1,x2] (λψ hψ=>?_) (λi gs=>gs=List.replicate i (D.str "num")) (Nat.le_of_ble_eq_true rfl) rfl ?_ ?_
   ·walk_at "dl";rw[c13];exact⟨by decide,hψ⟩
   ·rintro i e gs he hle rfl;have hxe:Sh1 fs env M e (some "num"):=by
     rcases zam.mp (zan he) with rfl|q
     ·exact hx1
     ·rw[List.mem_singleton.mp q];exact hx2
    walk_at "p";walk_at "dl";exact⟨_,_,_,rfl,fs,env,some "num",kn,rfl,rfl,hxe,trivial,List.replicate_succ'.symm⟩
   ·rintro gs rfl;exact⟨trivial,rfl⟩
  rintro _ rfl;walk_at "dl";have okL:okD 40 (D.lst [D.str "num",D.str "num"]):=Nn ["num","num"];have eqL:eqD (D.lst [D.str "num",D.str "num"]) (D.lst [D.str "num",D.str "num"])=true:=by decide
  refine⟨okL,okL,λ_=>?_,λq=>absurd (q.symm.trans eqL) (by decide)⟩
  refine zv [b1,b2] (λψ hψ=>?_) (λi gs=>gs=List.replicate i (D.bl true)) (Nat.le_of_ble_eq_true rfl) rfl ?_ ?_
  ·walk_at "dl";rw[c3];exact⟨by decide,hψ⟩
  ·rintro i e gs he hle rfl;have hbe:Rb fs due M n env e:=by
    rcases zam.mp (zan he) with rfl|q
    ·exact hb1
    ·rw[List.mem_singleton.mp q];exact hb2
   walk_at "p";walk_at "dl";exact⟨_,_,_,_,rfl,fs,env,due,kn,⟨e1,by omega⟩,rfl,rfl,rfl,hbe,trivial,List.replicate_succ'.symm⟩
  rintro gs rfl;simp only[df,ug,uc];exact h
 ·have kk:=Ga hk;have n1:k≠"give":=by rcases kk with⟨rfl,_⟩|⟨rfl,_⟩ <;> decide
  have n2:k≠"let":=by rcases kk with⟨rfl,_⟩|⟨rfl,_⟩ <;> decide
  have n3:k≠"less":=by rcases kk with⟨rfl,_⟩|⟨rfl,_⟩ <;> decide
  have bt:=Bk k;rw[hk]at bt;have lk:=dm z env;rw[hz]at lk;have ec:cutD ([D.str k,D.str z,b1]++zs.map D.str++[b2]) (some 3) (some (-1))=zs.map D.str:=E8 _ _ _ _ rfl;have el2:atI ([D.str k,D.str z,b1]++zs.map D.str++[b2]) (-1)=some b2:=bg _ _;have k3:ks.length<=3:=by rcases kk with⟨_,rfl⟩|⟨_,rfl⟩ <;> decide
  simp only[List.cons_append,List.nil_append]at ec el2 ⊢;refine zf (λρ=>ρ=[q_ (.tup (.str k::.str z::b1::(zs.map D.str++[b2]))),q_ (yq env),q_ (.str due),q_ (xb fs),q_ (.str k),none,none]) ?_ ?_
  ·walk_at "dl"
  rintro _ rfl;refine zf (λρ=>ρ=[q_ (.tup (.str k::.str z::b1::(zs.map D.str++[b2]))),q_ (yq env),q_ (.str due),q_ (xb fs),q_ (.str k),none,none]) ?_ ?_
  ·refine Si (λψ hψ=>?_) ?_
   ·walk_at "dl";rw[beq_eq_false_iff_ne.mpr n1];exact hψ
   ·walk_at "dl"
  rintro _ rfl;refine zf (λρ=>ρ=[q_ (.tup (.str k::.str z::b1::(zs.map D.str++[b2]))),q_ (yq env),q_ (.str due),q_ (xb fs),q_ (.str k),none,none]) ?_ ?_
  ·refine Si (λψ hψ=>?_) ?_
   ·walk_at "dl";rw[beq_eq_false_iff_ne.mpr n2];exact hψ
   ·walk_at "dl"
  rintro _ rfl;refine zf (λρ=>ρ=[q_ (.tup (.str k::.str z::b1::(zs.map D.str++[b2]))),q_ (yq env),q_ (.str due),q_ (xb fs),q_ (.str k),none,none]) ?_ ?_
  ·refine Si (λψ hψ=>?_) ?_
   ·walk_at "dl";rw[beq_eq_false_iff_ne.mpr n3];exact hψ
   ·walk_at "dl"
  rintro _ rfl;refine zf (λρ=>ρ=[q_ (.tup (.str k::.str z::b1::(zs.map D.str++[b2]))),q_ (yq env),q_ (.str due),q_ (xb fs),q_ (.str k),none,none]) ?_ ?_
  ·unfold yq;walk_at "dl";rw[bt,lk];refine⟨λq=>(nomatch q),λ_=>⟨?_,λq=>?_⟩⟩
   ·show okD 40 (.str k);rw[xg];trivial
   ·exact absurd (q.symm.trans (Gu k)) (by decide)
  rintro _ rfl;refine zf (λρ=>ρ=[q_ (.tup (.str k::.str z::b1::(zs.map D.str++[b2]))),q_ (yq env),q_ (.str due),q_ (xb fs),q_ (.str k),Q_ (.lst ((zs.zip ks).map prD)),none]) ?_ ?_
  ·walk_at "dl";rw[bt,ec];refine⟨λq=>?_,?_⟩
   ·have:=q.1;unfold ZZ.sIx at this;simp at this
   ·refine⟨by rw[zLm,zLm];exact hl1,by rw[zLm];omega,?_⟩
    rw[E9,Ph]
  rintro _ rfl;walk_at "dl";rw[el2];refine⟨_,_,_,_,rfl,fs,env,due,kn,⟨e1,by omega⟩,rfl,rfl,rfl,hb1,λ_=>?_,λq=>(nomatch q)⟩
  exact⟨_,_,_,_,_,rfl,fs,env,due,zs.zip ks,kn,⟨e1,e2⟩,rfl,fr,rfl,rfl,rfl,hb2,trivial,h⟩
theorem Xk{M:Nat}(T:Tops mg)(Z:Con2 P w K mg)(F1:FD P w K mg base (3*M+2) "shape_of" ["expression","names","known"] (qm M))(F2:FD P w K mg base 1 "unlike" ["names"] t9)(F3:FD P w K mg base 1 "is_name" ["thing"] ua){f2:Addr}{fd2:FuncData}(G2:Fun K "wider_right" "wider_right" (top 17) f2 fd2)(m2:mg "wider_right" = some (.ref f2))(F:Fun K "body_right" "body_right" (top 16) f fd)(m:mg "body_right" = some (.ref f)):∀n:Nat,FD P w K mg base (3*M+2*n+4) "body_right" ["body","names","due","known"] (W9 M n)
 |0=>by
  have S:zo ["body","names","due","known","kind","brought","compared"] ["body","names","due","known"] (zd (top 16)):=by walk_at "f"
  refine yo F S (F.binds λ_ _ _ _ _ _ us hl=>(by obtain⟨_,_,_,_,rfl⟩:=Ci hl;rfl)) m λqZ A outer s H E ds φ hr hl hT=>?_
  obtain⟨b,b0,c0,d0,rfl,fs,env,due,kn,ek,rfl,rfl,rfl,hb,h⟩:=hT;exact hb.elim
 |n+1=>Xj T Z F1 (Xk T Z F1 F2 F3 G2 m2 F m n) (bz T F2 F3 (Xk T Z F1 F2 F3 G2 m2 F m n) G2 m2) F m
structure Y1(M n:Nat)(fs:List Fn):Prop where
 lo:1<=fs.length
 hi:fs.length<=8
 hd:∀f∈fs,K9 f
 nd:(fs.map Fn.name).Nodup
 bd:∀f∈fs,Rb fs f.shape M n f.params f.body
def O6(M n:Nat):FT:=g1 λd φ=>∃fs,d=.tup (fs.map fnD)/\n<=30/\Y1 M n fs/\φ (dv (.bl true))
def Fw:∀fs:List Fn,(fs.map λf=>D.tup [.str f.name,fnD f])=Zn (fs.map λf=>(Sum.inr f.name:Key)) (fs.map fnD)
 |[]=>rfl
 |f::fs=>by
  rw[List.map_cons,Fw fs];rfl
def Dj(ps:List (Str×Str)):ps.map prD=Zn ((ps.map Prod.fst).map Sum.inr) (ps.map λp=>D.str p.2):=by
 rw[N6,List.map_map];rfl
def Cz{fs:List Fn}(h:(fs.map Fn.name).Nodup):(fs.map λf=>(Sum.inr f.name:Key)).Nodup:=by
 have:(fs.map λf=>(Sum.inr f.name:Key))=(fs.map Fn.name).map Sum.inr:=by rw[List.map_map];rfl
 rw[this];exact List.Pairwise.map _ (λa b h e=>h (Sum.inr.inj e)) h
def Hr{M n:Nat}(T:Tops mg)(z6s:FD P w K mg base 3 "head_right" ["function"] O9)(z5k:FD P w K mg base 1 "unlike" ["names"] t9)(z4w:FD P w K mg base (3*M+2*n+4) "body_right" ["body","names","due","known"] (W9 M n))(F:Fun K "right" "right" (top 13) f fd)(m:mg "right" = some (.ref f)):FD P w K mg base (3*M+2*n+5) "right" ["program"] (O6 M n):=by
 have S:zo ["program","known"] ["program"] (zd (top 13)):=by walk_at "f"
 walk_at "b";refine⟨_,(ze (zj (yh (xw (Xn zc (xt T.len (z9 (za 0) zb)) zc)) (zi (zp sx)) y7))
   (ze (zj (yh (xw (xm (ue T.all (z9 (yf (T:=["function"]) (F:=[]) (js:=[]) (yj (za 0)) (show zm (zd (top 13)) _ _ _ from by walk_at "c") .nil (by decide) (λcl C fp s H=>(zn (i:=0) (nd1 _) rfl (by walk_at "o"))) (zw (by decide)) (yc 0) (λcl C fp s H=>ya) (λcl C fp s H=>(zg z6s hr.d (z9 (za 0) zb)))) zb)))) (zi (zp sx)) y7))
   (ze (zj (yh (xw (xm (zg z5k hr.d (z9 (yf (T:=["function"]) (F:=[]) (js:=[]) (yj (za 0)) (show zm (zd (top 13)) _ _ _ from by walk_at "c") .nil (by decide) (λcl C fp s H=>(zn (i:=0) (nd1 _) rfl (by walk_at "o"))) (zw (by decide)) (yc 0) (λcl C fp s H=>ya) (λcl C fp s H=>(zk hu (za 0) zc))) zb)))) (zi (zp sx)) y7))
   (ze (zj (zt 1 S.nd (Rt T.dict (z9 (yf (T:=["function"]) (F:=[]) (js:=[]) (yj (za 0)) (show zm (zd (top 13)) _ _ _ from by walk_at "c") .nil (by decide) (λcl C fp s H=>(zn (i:=0) (nd1 _) rfl (by walk_at "o"))) (zw (by decide)) (yc 0) (λcl C fp s H=>ya) (λcl C fp s H=>(w8 (z9 (zk hu (za 0) zc) (z9 (za 0) zb))))) zb))))
   (zi (tf 1 (zp (ue T.all (z9 (yf (T:=["name","params","gives","body"]) (F:=["known"]) (js:=[1]) (yj (za 0)) (show zm (zd (top 13)) _ _ _ from by walk_at "c") (.cons rfl .nil) (by decide) (λcl C fp s H=>(wt (K0:=K) (n:=4) (by rfl) (by rfl) (yb (zn (i:=0) (show(["name","params","gives","body","known"]:List Str).Nodup by decide +kernel) rfl (by walk_at "o")) (yb (zn (i:=1) (show(["name","params","gives","body","known"]:List Str).Nodup by decide +kernel) rfl (by walk_at "o")) (yb (zn (i:=2) (show(["name","params","gives","body","known"]:List Str).Nodup by decide +kernel) rfl (by walk_at "o")) (yb (zn (i:=3) (show(["name","params","gives","body","known"]:List Str).Nodup by decide +kernel) rfl (by walk_at "o")) wq)))))) (uk (ym y9 (xo y9 (xo y9 (xo y9 xc))) (zw (by decide)) (ym y9 (xo y9 (xo y9 xc)) (zw (by decide)) (ym y9 (xo y9 xc) (zw (by decide)) (ym y9 xc (zw (by decide)) ul))))) (Cv 0 1 2 3) (λcl C fp s H=>ya) (λcl C fp s H=>(zg z4w hr.d (z9 (za 3) (z9 (Hy T.dict (z9 (za 1) zb)) (z9 (zk hu (za 2) zc) (z9 (za 4) zb))))))) zb))))))))),?_⟩
 obtain⟨d,rfl,fs,rfl,hn,ok,h⟩:=xv hT;have hi:=ok.hi;have lo:=ok.lo;refine zf (λρ=>ρ=[q_ (.tup (fs.map fnD)),none]) ?_ ?_
 ·walk_at "dl";exact⟨λ_ q=>absurd (by omega) q,λq=>absurd (by omega) q⟩
 rintro _ rfl;refine zf (λρ=>ρ=[q_ (.tup (fs.map fnD)),none]) ?_ ?_
 ·walk_at "dl";refine zv (fs.map fnD) (λψ hψ=>?_) (λi gs=>gs=List.replicate i (D.bl true)) (by rw[zLm];omega) rfl ?_ ?_
  ·walk_at "dl";exact hψ
  ·rintro i e gs he hle rfl;rw[zai]at he;obtain⟨f,hf,rfl⟩:=zar.mp he;walk_at "p";walk_at "dl";exact⟨f,rfl,ok.hd f (zan hf),trivial,List.replicate_succ'.symm⟩
  rintro gs rfl;simp only[df,ug,uc];exact λy=>(nomatch y)
 rintro _ rfl;refine zf (λρ=>ρ=[q_ (.tup (fs.map fnD)),none]) ?_ ?_
 ·walk_at "dl";refine zv (fs.map fnD) (λψ hψ=>?_) (λi gs=>gs=((fs.take i).map Fn.name).map D.str) (by rw[zLm];omega) rfl ?_ ?_
  ·walk_at "dl";exact hψ
  ·rintro i e gs he hle rfl;rw[zai]at he;obtain⟨f,hf,rfl⟩:=zar.mp he;walk_at "p";simp only[fnD];walk_at "dl";rw[List.take_succ,hf];simp
  rintro gs rfl;rw[zLm,List.take_length];walk_at "dl";simp only[t9,ZZ.g1];refine⟨_,rfl,by rw[zLm];omega,λb hb=>?_⟩
  rw[hb.mpr ok.nd];exact λy=>(nomatch y)
 rintro _ rfl;refine zf (λρ=>ρ=[q_ (.tup (fs.map fnD)),Q_ (xb fs)]) ?_ ?_
 ·walk_at "dl";refine zv (fs.map fnD) (λψ hψ=>?_) (λi gs=>gs=((fs.take i).map λf=>D.tup [.str f.name,fnD f])) (by rw[zLm];omega) rfl ?_ ?_
  ·walk_at "dl";exact hψ
  ·rintro i e gs he hle rfl;rw[zai]at he;obtain⟨f,hf,rfl⟩:=zar.mp he;walk_at "p";rw[List.take_succ,hf];simp only[fnD];walk_at "dl";simp
  rintro gs rfl;rw[zLm,List.take_length];walk_at "dl";refine⟨_,_,Fw fs,by rw[zLm,zLm],Cz ok.nd,rfl⟩
 rintro _ rfl;walk_at "dl";refine zv (fs.map fnD) (λψ hψ=>?_) (λi gs=>gs=List.replicate i (D.bl true)) (by rw[zLm];omega) rfl ?_ ?_
 ·walk_at "dl";exact hψ
 ·rintro i e gs he hle rfl;rw[zai]at he;obtain⟨f,hf,rfl⟩:=zar.mp he;have fo:=ok.hd f (zan hf);have p4:=fo.hi;walk_at "p";simp only[fnD];walk_at "dl";refine⟨f.params.map Prod.fst,f.params.map λp=>.str p.2,Dj _,by rw[zLm,zLm],by rw[zLm];omega,fo.nd,?_⟩
  refine⟨_,_,_,_,rfl,fs,f.params,f.shape,λg hg=>by have:=(ok.hd g hg).hi;omega,⟨fo.nd,by omega⟩,?_,rfl,rfl,ok.bd f (zan hf),trivial,List.replicate_succ'.symm⟩
  unfold yq;rw[List.map_map];rfl
 rintro gs rfl;simp only[df,ug,uc];exact h
def tl(s:Str):List Nat:=s.cps.toList
def Py{a b:Str}(h:tl a=tl b):a=b:=by
 cases a;cases b
 exact congrArg Str.mk (Array.ext' h)
def qk(a b:Str):tl (a++b)=tl a++tl b:=by
 unfold tl;show(a.cps++b.cps).toList=_;rw[Array.toList_append]
def jn(z:List Nat):List (List Nat)->List Nat
 |[]=>[]
 |[x]=>x
 |x::y::r=>x++z++jn z (y::r)
def c4(z:Str):∀ps:List Str,tl (Str.join z ps)=jn (tl z) (ps.map tl)
 |[]=>rfl
 |[x]=>rfl
 |x::y::r=>by
  show tl (x++z++Str.join z (y::r))=_;rw[qk,qk,c4 z (y::r)];rfl
def sub(c:Nat)(z l:List Nat):List Nat:=l.flatMap λk=>if k=c then z else[k]
def Of(c:Nat)(z a b:List Nat):sub c z (a++b)=sub c z a++sub c z b:=List.flatMap_append
def Yb{c:Nat}{z:List Nat}:∀{l:List Nat},c∉l->sub c z l=l
 |[],_=>rfl
 |k::l,h=>by
  have h1:k≠c:=λe=>h (e▸zao ..);show(if k=c then z else[k])++sub c z l=_
  rw[if_neg h1,Yb λm=>h (zal _ m)];rfl
def Es(c:Nat)(z:List Nat):sub c z [c]=z:=by
 show(if c=c then z else[c])++[]=z
 rw[if_pos rfl,List.append_nil]
def Gs{c:Nat}{z:List Nat}:∀{ps:List (List Nat)},(∀p∈ps,c∉p)->sub c z (jn [c] ps)=jn z ps
 |[],_=>rfl
 |[x],h=>Yb (h x (zao ..))
 |x::y::r,h=>by
  show sub c z (x++[c]++jn [c] (y::r))=_;rw[Of,Of,Es,Yb (h x (zao ..)),Gs λp hp=>h p (zal _ hp)];rfl
def d5(x z:Str)(c:Nat):tl (Txt.replace x ⟨#[c]⟩ z)=sub c (tl z) (tl x):=by
 rw[StrLaws.replace_one,c4]
 conv=>rhs;rw[<- StrLaws.join_split x ⟨#[c]⟩,c4]
 refine(Gs (c:=c) λp hp=>?_).symm;obtain⟨q,hq,rfl⟩:=zah.mp hp;exact StrLaws.split_free x c q hq
def wd:List Nat->List Nat->List (List Nat)
 |w,[]=>if w=[] then[] else[w]
 |w,k::l=>if k=32 then(if w=[] then wd [] l else w::wd [] l) else wd (w++[k]) l
def Y3:∀(p w l:List Nat),32∉p->wd w (p++l)=wd (w++p) l
 |[],w,l,_=>by rw[List.append_nil];rfl
 |k::p,w,l,h=>by
  have h1:k≠32:=λe=>h (e▸zao ..);show(if k=32 then _ else wd (w++[k]) (p++l))=_
  rw[if_neg h1,Y3 p _ l λm=>h (zal _ m),List.append_assoc];rfl
def By(p:List Nat)(h:32∉p):wd [] p=[p].filter (·≠[]):=by
 have:=Y3 p [] [] h;rw[List.append_nil,List.nil_append]at this;rw[this];cases p with
 |nil=>rfl
 |cons k p=>rfl
def Bz(p l:List Nat)(h:32∉p):wd [] (p++[32]++l)=[p].filter (·≠[])++wd [] l:=by
 rw[List.append_assoc,Y3 p [] _ h,List.nil_append];show(if 32=32 then(if p=[] then wd [] l else p::wd [] l) else _)=_
 rw[if_pos rfl];cases p with
 |nil=>rfl
 |cons k p=>rfl
def Bx:∀{ps:List (List Nat)},(∀p∈ps,32∉p)->wd [] (jn [32] ps)=ps.filter (·≠[])
 |[],_=>rfl
 |[x],h=>By x (h x (zao ..))
 |x::y::r,h=>by
  show wd [] (x++[32]++jn [32] (y::r))=_;rw[Bz x _ (h x (zao ..)),Bx λp hp=>h p (zal _ hp)];exact(List.filter_append (p:=λx=>decide (x≠[])) [x] (y::r)).symm
def Gi{w:Str}:(tl w≠[]) ↔ w≠"":=⟨λh e=>h (by rw[e];decide +kernel),λh e=>h (Py (e.trans (by decide +kernel)))⟩
def Ku(x:Str):((Txt.split x ⟨#[32]⟩).filter (λw=>w≠("" : Str))).map tl=wd [] (tl x):=by
 conv=>rhs;rw[<- StrLaws.join_split x ⟨#[32]⟩,c4]
 rw[show tl ⟨#[32]⟩=[32] from rfl,Bx λp hp=>by
  obtain⟨q,hq,rfl⟩:=zah.mp hp;exact StrLaws.split_free x 32 q hq]
 rw[List.filter_map]
 congr 1
 refine List.filter_congr λw _=>?_;simp only[Function.comp];rw[decide_eq_decide];exact Gi.symm
def t7(z:Str):List Str:=(Txt.split (Txt.replace (Txt.replace (Txt.replace z "(" " ( ") ")" " ) ") "\n" " ") " ").filter (λw=>w≠("" : Str))
def ec(k:Nat):List Nat:=if k=40 then[32,40,32] else if k=41 then[32,41,32] else if k=10 then[32] else[k]
def W(l:List Nat):List (List Nat):=wd [] (l.flatMap ec)
def Er(l:List Nat):sub 10 [32] (sub 41 [32,41,32] (sub 40 [32,40,32] l))=l.flatMap ec:=by
 unfold sub;rw[List.flatMap_assoc,List.flatMap_assoc]
 congr 1
 funext k
 unfold ec;by_cases h1:k=40
 ·subst h1;rfl
 rw[if_neg h1,if_neg h1];by_cases h2:k=41
 ·subst h2;rfl
 rw[if_neg h2];by_cases h3:k=10
 ·subst h3;rfl
 rw[if_neg h3];simp[h2,h3]
def Ej(z:Str):(t7 z).map tl=W (tl z):=by
 unfold t7 W;rw[show(" " : Str)=⟨#[32]⟩ from by decide +kernel,Ku,<- Er]
 rw[show("\n" : Str)=⟨#[10]⟩ from by decide +kernel,d5,show(")" : Str)=⟨#[41]⟩ from by decide +kernel,d5,show("(" : Str)=⟨#[40]⟩ from by decide +kernel,d5]
 rw[show tl ⟨#[32]⟩=[32] from rfl,show tl " ) " = [32,41,32] from by decide +kernel,show tl " ( " = [32,40,32] from by decide +kernel]
def V9(k:Nat):Prop:=k=32\/k=10\/k=40\/k=41
def Head(l:List Nat):Prop:=∀k r,l=k::r->V9 k
def Br{k:Nat}(l:List Nat)(h:k=32\/k=10):W (k::l)=W l:=by
 rcases h with rfl|rfl <;> rfl
def W_br{k:Nat}(l:List Nat)(h:k=40\/k=41):W (k::l)=[k]::W l:=by
 rcases h with rfl|rfl <;> rfl
def G1{k:Nat}(h:¬ V9 k):ec k=[k]:=by
 unfold ec;unfold V9 at h;rw[if_neg λe=>h (.inr (.inr (.inl e))),if_neg λe=>h (.inr (.inr (.inr e))),if_neg λe=>h (.inr (.inl e))]
def Zu:∀{w:List Nat},(∀k∈w,¬ V9 k)->w.flatMap ec=w
 |[],_=>rfl
 |k::w,h=>by
  rw[List.flatMap_cons,G1 (h k (zao ..)),Zu λx hx=>h x (zal _ hx)];rfl
def z2x{w l:List Nat}(hw:w≠[])(hp:∀ k∈w,¬ V9 k)(hl:Head l):W (w++l)=w::W l:=by
 have h32:32∉w:=λm=>hp 32 m (.inl rfl);unfold W;rw[List.flatMap_append,Zu hp,Y3 w [] _ h32,List.nil_append];cases l with
 |nil =>
  show(if w=[] then[] else[w])=_
  rw[if_neg hw];rfl
 |cons k r =>
  rcases hl k r rfl with rfl|rfl|rfl|rfl <;>
  ·show(if (32:Nat)=32 then(if w=[] then _ else w::_) else _)=_
   rw[if_pos rfl,if_neg hw];rfl
def Beg(l:List Nat)(ws:List (List Nat))(free:Bool):Prop:=∀r,(free=false->Head r)->W (l++r)=ws++W r
def Bm:Beg [] [] true:=λr _=>rfl
def Lz{l b:List Nat}{ws:List (List Nat)}{f:Bool}(h:Beg l ws f)(hb:∀ k∈b,k=32\/k=10)(hn:b≠[]):Beg (l++b) ws true:=λr _=>by
 have key:∀c:List Nat,(∀k∈c,k=32\/k=10)->W (c++r)=W r:=by
  intro c
  induction c with
  |nil=>intro _;rfl
  |cons k c ih=>intro hc;rw[List.cons_append,Br _ (hc k (zao ..)),ih λx hx=>hc x (zal _ hx)]
 rw[List.append_assoc,h _ λ_ k r' e=>?_,key b hb];cases b with
 |nil=>exact absurd rfl hn
 |cons x b =>
  have:x=k:=(List.cons.inj e).1;subst this;rcases hb x (zao ..) with z|z
  ·exact .inl z
  ·exact .inr (.inl z)
def Eb{l:List Nat}{ws:List (List Nat)}{f:Bool}{k:Nat}(h:Beg l ws f)(hk:k=40\/k=41):Beg (l++[k]) (ws++[[k]]) true:=λr _=>by
 rw[List.append_assoc,h _ λ_ k' r' e=>?_,List.append_assoc]
 ·congr 1
  exact W_br r hk
 ·have:k=k':=(List.cons.inj e).1;subst this;rcases hk with z|z
  ·exact .inr (.inr (.inl z))
  ·exact .inr (.inr (.inr z))
def Gb{l w:List Nat}{ws:List (List Nat)}(h:Beg l ws true)(hw:w≠[])(hp:∀ k∈w,¬ V9 k):Beg (l++w) (ws++[w]) false:=λr hr=>by
 have e:=h (w++r) λz=>nomatch z;rw[List.append_assoc,e,z2x hw hp (hr rfl),List.append_assoc];rfl
def Bn{l:List Nat}{ws:List (List Nat)}{f:Bool}(h:Beg l ws f):W l=ws:=by
 have:=h [] λ_ k r e=>nomatch e;rw[List.append_nil]at this;rw[this];exact List.append_nil ws
def z2a{i:Nat}{d:D}{ρ:DE}{ψ:DE->Prop}(h:ψ (setS ρ i (dv d))):gN i d ρ ψ:=h
def Sa(zs:List Str):ve (zs.map D.str):=yi.mpr λd hd=>by
 obtain⟨z,_,rfl⟩:=zah.mp hd;trivial
def yy:sizeLine=16777216:=by decide +kernel
def u4(z:Str):(tl z).length=z.length:=by
 unfold tl Str.length;exact Array.length_toList
theorem Oe(c:Nat)(z:List Nat):∀l:List Nat,(sub c z l).length+l.count c=l.length+z.length*l.count c
 |[]=>rfl
 |k::l=>by
  have ih:=Oe c z l;show((if k=c then z else[k])++sub c z l).length+_=_
  by_cases h:k=c
  ·subst h;rw[if_pos rfl,List.count_cons_self,zLa,zLc,Nat.mul_add,Nat.mul_one];omega
  ·rw[if_neg h,List.count_cons_of_ne (by exact h),zLa,zLc]
   simp only[zLc,zLn];omega
def Wa{c d:Nat}{z:List Nat}(hd:d≠c)(hz:z.count d=0):∀l:List Nat,(sub c z l).count d=l.count d
 |[]=>rfl
 |k::l=>by
  have ih:=Wa hd hz l;show((if k=c then z else[k])++sub c z l).count d=_
  rw[List.count_append,ih];by_cases h:k=c
  ·subst h;rw[if_pos rfl,hz,List.count_cons_of_ne (λe=>hd e.symm),Nat.zero_add]
  ·rw[if_neg h,List.count_cons (l:=l),List.count_cons (l:=[]),List.count_nil];omega
def jk(z:Str):Prop:=z.length+2*(tl z).count 40+2*(tl z).count 41<=4190000
def Gj:FT:=g1 λd φ=>∃z:Str,d=.str z/\jk z/\φ (df (.lst ((t7 z).map D.str)))
def gn(x z:Str)(c:Nat):(Txt.replace x ⟨#[c]⟩ z).length+(tl x).count c=x.length+z.length*(tl x).count c:=by
 rw[<- u4,d5,<- u4 x,<- u4 z];exact Oe c (tl z) (tl x)
def r40:("(" : Str)=⟨#[40]⟩:=by decide +kernel
def r41:(")" : Str)=⟨#[41]⟩:=by decide +kernel
def r10:("\n" : Str)=⟨#[10]⟩:=by decide +kernel
def r32:(" " : Str)=⟨#[32]⟩:=by decide +kernel
def l40:(" ( " : Str).length=3:=by decide +kernel
def l41:(" ) " : Str).length=3:=by decide +kernel
def l32:(" " : Str).length=1:=by decide +kernel
def Ez{z:Str}(h:jk z):z.length+(z.length+1)*(" ( " : Str).length<=16777216:=by
 unfold jk at h;rw[l40];omega
def Ey{z:Str}(h:jk z):(Txt.replace z "(" " ( ").length+((Txt.replace z "(" " ( ").length+1)*(" ) " : Str).length<=16777216:=by
 have e:=gn z " ( " 40;rw[<- r40,l40]at e;unfold jk at h;rw[l41];omega
def Om{z:Str}(h:jk z):(Txt.replace (Txt.replace z "(" " ( ") ")" " ) ").length<=4190000:=by
 have e:=gn z " ( " 40;rw[<- r40,l40]at e;have e2:=gn (Txt.replace z "(" " ( ") " ) " 41;rw[<- r41,l41]at e2;have e3:(tl (Txt.replace z "(" " ( ")).count 41=(tl z).count 41:=by
  rw[r40,d5];exact Wa (by decide) (by decide +kernel) _
 unfold jk at h;omega
def Ew{z:Str}(h:jk z):(Txt.replace (Txt.replace (Txt.replace z "(" " ( ") ")" " ) ") "\n" " ").length<=4190000:=by
 have e:=gn (Txt.replace (Txt.replace z "(" " ( ") ")" " ) ") " " 10;rw[<- r10,l32]at e;have:=Om h;omega
def Fm(z:List Nat)(hz:1<=z.length):∀ps:List (List Nat),ps.length<=(jn z ps).length+1
 |[]=>Nat.zero_le _
 |[x]=>Nat.succ_le_succ (Nat.zero_le _)
 |x::y::r=>by
  have ih:=Fm z hz (y::r);show _<=(x++z++jn z (y::r)).length+1;rw[zLa,zLa,zLc];omega
def Oi(x:Str)(c:Nat):(Txt.split x ⟨#[c]⟩).length<=x.length+1:=by
 have h:=Fm [c] (zaj _) ((Txt.split x ⟨#[c]⟩).map tl);have e:=c4 ⟨#[c]⟩ (Txt.split x ⟨#[c]⟩);rw[StrLaws.join_split]at e;rw[zLm,<- show tl x=jn [c] _ from e,u4]at h;exact h
def Tc(T:Tops mg)(F:Fun K "words_of" "words_of" (top 27) f fd)(m:mg "words_of" = some (.ref f)):FD P w K mg base 1 "words_of" ["text"] Gj:=by
 have S:zo ["text","spread"] ["text"] (zd (top 27)):=by walk_at "f"
 refine z2f F S ⟨_,rfl,rfl⟩ (F.binds λ_ _ _ _ _ _ us hl=>(by obtain⟨_,rfl⟩:=xp hl;rfl)) m λqZ A outer s H E ds φ hr hl hT=>?_
 have hu:=hr.units;refine⟨_,(Ks (D3 1 S.nd (qg (by decide +kernel) (qg (by decide +kernel) (qg (by decide +kernel) (ED.p (za 0))))))
   (SDs.p (zi (zp (yf (T:=["word"]) (F:=[]) (js:=[]) (yj (Ht (za 1) zh)) (show zm (zd (top 27)) _ _ _ from by walk_at "c") .nil (by decide) (λcl C fp s H=>(zn (i:=0) (nd1 _) rfl (by walk_at "o"))) (zw (by decide)) (yc 0) (λcl C fp s H=>(ci (qf hu (za 0) zh))) (λcl C fp s H=>(za 0))))))),?_⟩
 obtain⟨d,rfl,z,rfl,hz,h⟩:=xv hT;refine⟨Ez hz,Ey hz,by have:=Om hz;rw[l32];omega,trivial,?_⟩
 have hl4:=Ew hz;have hs:=Oi (Txt.replace (Txt.replace (Txt.replace z "(" " ( ") ")" " ) ") "\n" " ") 32;rw[<- r32]at hs
 dsimp only [sRet]
 refine(zv ((Txt.split (Txt.replace (Txt.replace (Txt.replace z "(" " ( ") ")" " ) ") "\n" " ") " ").map D.str) (λψ hψ=>⟨by decide +kernel,by rw[yy];omega,by rw[yy];omega,trivial,hψ⟩)
  (λi gs=>gs=((((Txt.split (Txt.replace (Txt.replace (Txt.replace z "(" " ( ") ")" " ) ") "\n" " ") " ").take i).filter (λw=>w≠("" : Str))).map D.str)) ?_ rfl ?_ ?_)
 ·rw[zLm];omega
 ·rintro i d gs hd hle rfl;rw[zai]at hd;obtain⟨q,hq,rfl⟩:=zar.mp hd;have ht:∀l:List Str,l[i]?=some q->l.take (i+1)=l.take i++[q]:=λl h=>by rw[List.take_succ,h];rfl
  rw[ht _ hq];refine z2a ?_;refine⟨xg▸trivial,xg▸trivial,λe=>⟨trivial,?_⟩,λe=>?_⟩
  ·have hne:q≠("" : Str):=λz=>by rw[z]at e;exact absurd e (by decide +kernel)
   rw[List.filter_append,zMa,List.filter_cons_of_pos (by simpa using hne)]
   rfl
  ·have heq:q=("" : Str):=by
    have e':(!(q==("" : Str)))=false:=e;simpa using e'
   rw[List.filter_append,zMa,List.filter_cons_of_neg (by simp[heq])]
   exact(List.append_nil _).symm
 ·rintro _ rfl;rw[zLm,List.take_length];exact⟨Sa _,h⟩
def Ub(w:Str):Prop:=tl w≠[]/\∀k∈tl w,¬ V9 k
def isBr(w:Str):Bool:=w==("(" : Str) || w==(")" : Str)
def Tok(w:Str):Prop:=isBr w=true\/Ub w
def wlen(zs:List Str):Nat:=(zs.map λw=>w.length+2).sum
def free(zs:List Str):Nat->Bool
 |0=>true
 |k+1=>isBr (zs.getD k "(")
structure Ln(zs:List Str)(j:Nat)(z:Str):Prop where
 beg:Beg (tl z) ((zs.take j).map tl) (free zs j)
 len:z.length<=3+wlen (zs.take j)
 cnt:(tl z).count 40+(tl z).count 41<=j
def Bl(b:Str):Prop:=(∀k∈tl b,k=32\/k=10)/\b.length<=3
def jc(a b:Str):(a++b).length=a.length+b.length:=by
 rw[<- u4,qk,zLa,u4,u4]
def Xz{b:Str}(h:Bl b):(tl b).count 40=0/\(tl b).count 41=0 :=
 ⟨List.count_eq_zero.mpr λm=>(by rcases h.1 _ m with z|z <;> exact absurd z (by decide)),List.count_eq_zero.mpr λm=>(by rcases h.1 _ m with z|z <;> exact absurd z (by decide))⟩
def Rz{w:Str}(h:isBr w=true):tl w=[40]\/tl w=[41]:=by
 unfold isBr at h;rw[Bool.or_eq_true,beq_iff_eq,beq_iff_eq]at h;rcases h with rfl|rfl
 ·exact .inl (by decide +kernel)
 ·exact .inr (by decide +kernel)
def K1{l:List Nat}{ws:List (List Nat)}{f:Bool}{b:Str}(h:Beg l ws f)(hb:Bl b):Beg (l++tl b) ws (if b=("" : Str) then f else true):=by
 by_cases e:b=("" : Str)
 ·rw[if_pos e,e,show tl "" = [] from by decide +kernel,List.append_nil]
  exact h
 ·rw[if_neg e];exact Lz h hb.1 (Gi.mpr e)
def W8{zs:List Str}{j:Nat}(hj:j<zs.length):zs.take (j+1)=zs.take j++[zs[j]]:=by
 rw[List.take_succ,zaf hj];rfl
def R7{z:Str}(zs:List Str)(h:Bl z):Ln zs 0 z:=by
 refine⟨?_,by have:=h.2;unfold wlen;simp;omega,by have:=Xz h;omega⟩
 have:=K1 Bm h;rw[List.nil_append]at this;by_cases e:z=("" : Str)
 ·rw[if_pos e]at this;exact this
 ·rw[if_neg e]at this;exact this
def M4{zs:List Str}{j:Nat}{z b:Str}(h:Ln zs j z)(hj:j<zs.length)(ht:Tok zs[j])(hb:Bl b)(hb2:b.length<=2)(hs:b=("" : Str)->free zs j=true\/isBr zs[j]=true):Ln zs (j+1) (z++b++zs[j]):=by
 have g:zs.getD j "(" = zs[j]:=by rw[zaq,zaf hj];rfl
 have q:=K1 h.beg hb;have c0:=Xz hb;have hl:=h.len;have hc:=h.cnt;have lw:wlen (zs.take (j+1))=wlen (zs.take j)+(zs[j].length+2):=by
  rw[W8 hj];unfold wlen;rw[zMa,List.sum_append];rfl
 refine⟨?_,by rw[jc,jc,lw];omega,?_⟩
 ·show Beg _ _ (isBr (zs.getD j "("));rw[g,W8 hj,zMa,qk,qk];cases hbr:isBr zs[j] with
  |true =>
   show Beg _ (_++[tl zs[j]]) true;rcases Rz hbr with e|e
   ·rw[e];exact Eb q (.inl rfl)
   ·rw[e];exact Eb q (.inr rfl)
  |false =>
   rcases ht with z|⟨h1,h2⟩
   ·rw[hbr]at z;cases z
   ·refine Gb ?_ h1 h2;by_cases e:b=("" : Str)
    ·rw[if_pos e]at q;rcases hs e with z|z
     ·rw[z]at q;exact q
     ·rw[hbr]at z;cases z
    ·rw[if_neg e]at q;exact q
 ·rw[qk,qk,List.count_append,List.count_append,List.count_append,List.count_append];have:(tl zs[j]).count 40+(tl zs[j]).count 41<=1:=by
   rcases ht with z|⟨h1,h2⟩
   ·rcases Rz z with e|e <;> rw[e] <;> decide
   ·rw[List.count_eq_zero.mpr λm=>h2 _ m (.inr (.inr (.inl rfl))),List.count_eq_zero.mpr λm=>h2 _ m (.inr (.inr (.inr rfl)))];exact Nat.zero_le _
  omega
def Zp:∀{a b:List Str},a.map tl=b.map tl->a=b
 |[],[],_=>rfl
 |x::a,y::b,h=>by
  rw[List.map_cons,List.map_cons]at h;rw[Py (List.cons.inj h).1,Zp (List.cons.inj h).2]
def Fj{zs:List Str}{z t:Str}(h:Ln zs zs.length z)(ht:Bl t)(hw:wlen zs+2*zs.length<=4000000):t7 (z++t)=zs/\jk (z++t):=by
 have q:=K1 h.beg ht;have c0:=Xz ht;have hl:=h.len;have hc:=h.cnt;rw[List.take_length]at q hl;refine⟨Zp ?_,?_⟩
 ·rw[Ej,qk];exact Bn q
 ·unfold jk;rw[jc,qk,List.count_append,List.count_append];have:=ht.2;omega
def g21(g:D->D->(EV->Prop)->Prop):FT:=λds φ=>∃a b,ds=[a,b]/\g a b φ
def O4:FT:=g21 λd c φ=>∃(zs:List Str)(i:Int),d=.lst (zs.map D.str)/\c=.int i/\(∀w∈zs,Tok w)/\wlen zs+2*zs.length<=4000000/\∀z,t7 z=zs->jk z->φ (dv (.str z))
def U2{b:Str}(h:(tl b).all (λk=>k==32 || k==10)=true)(hl:b.length<=3):Bl b:=⟨λk hk=>by
 have:=List.all_eq_true.mp h k hk;rw[Bool.or_eq_true,beq_iff_eq,beq_iff_eq]at this;exact this,hl⟩
def xh1{α:Type}{l:List α}{i:Nat}(h:i<l.length):atI l (i:Int)=l[i]?:=by
 unfold atI ixN;rw[if_pos (by omega),if_pos (by omega)]
 simp
def W3(zs:List Str)(j:Nat):wlen (zs.take j)<=wlen zs:=by
 have h:wlen zs=wlen (zs.take j)+wlen (zs.drop j):=by
  conv=>lhs;rw[<- List.take_append_drop j zs]
  unfold wlen;rw[zMa,List.sum_append]
 omega
def Sml(n:Int):Prop:=0<=n/\n<2147483647
def Oj{x y:Int}(hx:Sml x)(hy:Sml y):IntMulOk x y:=IntMulOk.of_bits (zak (show intBits x<=64 from PySem.intBits_le_iff.mpr (by have:=hx.1;have:=hx.2;omega)) (by decide)) (zak (show intBits y<=64 from PySem.intBits_le_iff.mpr (by have:=hy.1;have:=hy.2;omega)) (by decide))
def z4a(x:Str):inD (.str x) [.str "(",.str ")"]=isBr x:=by
 show(eqD (.str "(") (.str x) || (eqD (.str ")") (.str x) || false))=_
 rw[v6,v6,Bool.or_false];unfold isBr;rw[show(("(" : Str)==x)=(x==("(" : Str)) from Bool.eq_iff_iff.mpr ⟨λh=>by rw[beq_iff_eq]at h ⊢;exact h.symm,λh=>by rw[beq_iff_eq]at h ⊢;exact h.symm⟩,show((")" : Str)==x)=(x==(")" : Str)) from Bool.eq_iff_iff.mpr ⟨λh=>by rw[beq_iff_eq]at h ⊢;exact h.symm,λh=>by rw[beq_iff_eq]at h ⊢;exact h.symm⟩]
def z0i(x:Int):∃b:Str,Bl b/\atI [D.str "",D.str " ",D.str "\n",D.str " \n "] (x.fmod 4)=some (.str b):=by
 have mb:=x4 x 4 (by decide)
 rcases(show x.fmod 4=0\/x.fmod 4=1\/x.fmod 4=2\/x.fmod 4=3 by omega) with e|e|e|e <;> rw[e] <;> exact⟨_,U2 (by decide +kernel) (by decide +kernel),rfl⟩
def z0h(x:Int):∃b:Str,Bl b/\b.length<=2/\atI [D.str "",D.str " ",D.str "\n",D.str "  ",D.str " \n"] (x.fmod 5)=some (.str b):=by
 have mb:=x4 x 5 (by decide)
 rcases(show x.fmod 5=0\/x.fmod 5=1\/x.fmod 5=2\/x.fmod 5=3\/x.fmod 5=4 by omega) with e|e|e|e|e <;> rw[e] <;> exact⟨_,U2 (by decide +kernel) (by decide +kernel),by decide +kernel,rfl⟩
def z0g(x:Int):∃b:Str,Bl b/\atI [D.str "",D.str "\n",D.str " ",D.str "\n "] (x.fmod 4)=some (.str b):=by
 have mb:=x4 x 4 (by decide)
 rcases(show x.fmod 4=0\/x.fmod 4=1\/x.fmod 4=2\/x.fmod 4=3 by omega) with e|e|e|e <;> rw[e] <;> exact⟨_,U2 (by decide +kernel) (by decide +kernel),rfl⟩
def Xg(T:Tops mg)(F:Fun K "_law_spaced" "_law_spaced" (top 64) f fd)(m:mg "_law_spaced" = some (.ref f)):FD P w K mg base 1 "_law_spaced" ["_law_words","_law_cell"] O4:=by
 have S:zo ["_law_words","_law_cell","_law_number","_law_line_here","_law_k","_law_blanks"] ["_law_words","_law_cell"] (zd (top 64)):=by walk_at "f"
 walk_at "b";refine⟨_,(ze (zj (zt 2 S.nd (yt (za 1) zc)))
   (ze (zj (zt 3 S.nd (zk hu (y4 (z9 zh (z9 zh (z9 zh (z9 zh zb))))) (yt (za 2) zc))))
   (ze (zj (fk (vf T.range (z9 (xt T.len (z9 (za 0) zb)) zb)) (zn (i:=4) S.nd rfl (by walk_at "o")) (yc 4) (ze (zj (zt 2 S.nd (yt (y8 (y8 (ck (za 2) (za 2)) (ck zc (za 2))) (za 4)) zc)))
    (ze (zj (zt 5 S.nd (zk hu (y4 (z9 zh (z9 zh (z9 zh (z9 zh (z9 zh zb)))))) (yt (vj (za 2) zc) zc))))
    (ze (zj (yh (EW.et (rf (xr hu (za 5) zh) (rf (L7 (za 4) zc) (rf (Xl hu (zk hu (za 0) (uw (za 4) zc)) (y4 (z9 zh (z9 zh zb)))) (qe (Xl hu (zk hu (za 0) (za 4)) (y4 (z9 zh (z9 zh zb))))))))) (zi (zt 5 S.nd zh)) y7))
    (zi (zt 3 S.nd (y8 (y8 (za 3) (za 5)) (zk hu (za 0) (za 4))))))))))
   (zi (zp (y8 (za 3) (zk hu (y4 (z9 zh (z9 zh (z9 zh (z9 zh zb))))) (yt (za 2) zc)))))))),?_⟩
 obtain⟨a0,b0,rfl,zs,c,rfl,rfl,ht,hw,h⟩:=hT;refine zf (λρ=>∃n,Sml n/\ρ=[q_ (.lst (zs.map D.str)),q_ (.int c),q_ (.int n),none,none,none]) ?_ ?_
 ·walk_at "dl";exact⟨_,x4 _ _ (by decide),rfl⟩
 rintro _ ⟨n,hn,rfl⟩;refine zf (λρ=>∃z,Bl z/\ρ=[q_ (.lst (zs.map D.str)),q_ (.int c),q_ (.int n),q_ (.str z),none,none]) ?_ ?_
 ·walk_at "dl";obtain⟨b,hb,e⟩:=z0i n;rw[e];exact⟨b,hb,rfl⟩
 rintro _ ⟨z0,hz0,rfl⟩;refine zf (λρ=>∃n z a b,Sml n/\Ln zs zs.length z/\ρ=[q_ (.lst (zs.map D.str)),q_ (.int c),q_ (.int n),q_ (.str z),a,b]) ?_ ?_
 ·refine rk (rngD 0 zs.length) (λψ hψ=>?_) (λj ρ=>∃n z a b,Sml n/\Ln zs j z/\ρ=[q_ (.lst (zs.map D.str)),q_ (.int c),q_ (.int n),q_ (.str z),a,b]) ⟨n,z0,none,none,hn,R7 zs hz0,rfl⟩ ?_ ?_
  ·walk_at "dl";rw[Int.toNat_natCast];exact⟨by omega,by omega,hψ⟩
  ·rintro j d ρ hd ⟨n,z,a,b,hn,hL,rfl⟩;obtain⟨hj,rfl⟩:=ub hd;rw[Int.zero_add];refine zf (λρ=>∃n,Sml n/\ρ=[q_ (.lst (zs.map D.str)),q_ (.int c),q_ (.int n),q_ (.str z),q_ (.int j),b]) ?_ ?_
   ·walk_at "dl";exact⟨Oj hn hn,Oj ⟨by decide,by decide⟩ hn,_,x4 _ _ (by decide),rfl⟩
   rintro _ ⟨n,hn,rfl⟩;refine zf (λρ=>∃b,Bl b/\b.length<=2/\ρ=[q_ (.lst (zs.map D.str)),q_ (.int c),q_ (.int n),q_ (.str z),q_ (.int j),q_ (.str b)]) ?_ ?_
   ·walk_at "dl";obtain⟨b,hb,h2,e⟩:=z0h (n.fdiv 7);rw[e];exact⟨of_eq_true (xk (by decide) (by decide)),b,hb,h2,rfl⟩
   rintro _ ⟨b,hb,hb2,rfl⟩;refine zf (λρ=>∃b:Str,Bl b/\b.length<=2/\(b=("" : Str)->free zs j=true\/isBr zs[j]=true)/\ρ=[q_ (.lst (zs.map D.str)),q_ (.int c),q_ (.int n),q_ (.str z),q_ (.int j),q_ (.str b)]) ?_ ?_
   ·cases j with
    |zero =>
     walk_at "dl";exact⟨λ_=>⟨λq=>absurd q (by decide),λ_=>⟨b,hb,hb2,λ_=>.inl rfl,rfl⟩⟩,λ_=>⟨b,hb,hb2,λ_=>.inl rfl,rfl⟩⟩
    |succ k =>
     have hk:k<zs.length:=by omega
     have hf:free zs (k+1)=isBr zs[k]:=by
      show isBr (zs.getD k "(")=_;rw[zaq,zaf hk];rfl
     walk_at "dl";rw[show((k+1:Nat):Int)-1=(k:Int) by omega,xh1 hk,zaf hk,xh1 hj,zaf hj]
     simp only[Option.map_some,if_true,z4a];exact⟨λeb=>⟨λ_=>⟨trivial,rfl,λn1=>⟨trivial,rfl,λn2=>⟨" ",U2 (by decide +kernel) (by decide +kernel),by decide +kernel,λe=>absurd e (by decide +kernel),rfl⟩,λn2=>⟨b,hb,hb2,λ_=>.inr (by simpa using n2),rfl⟩⟩,λn1=>⟨b,hb,hb2,λ_=>.inl (by rw[hf];simpa using n1),rfl⟩⟩,λq=>absurd (by omega:(0:Int)<((k+1:Nat):Int)) q⟩,λne=>⟨b,hb,hb2,λe=>absurd e ne,rfl⟩⟩
   rintro _ ⟨b,hb,hb2,hs,rfl⟩;have st:=M4 hL hj (ht _ (List.getElem_mem hj)) hb hb2 hs;have hl:=st.len;have hw2:=W3 zs (j+1);rw[jc,jc]at hl;walk_at "dl";rw[xh1 hj,zaf hj];exact⟨by rw[yy];omega,by rw[jc,yy];omega,n,_,_,_,hn,st,rfl⟩
  ·rintro ρ ⟨n,z,a,b,hn,hL,rfl⟩;rw[vc]at hL;exact⟨n,z,a,b,hn,hL,rfl⟩
 rintro _ ⟨n,z,a,b,hn,hL,rfl⟩;walk_at "dl";obtain⟨t,hb,e⟩:=z0g n;rw[e];obtain⟨e1,e2⟩:=Fj hL hb hw;exact⟨by have:=hL.len;have:=W3 zs zs.length;have:=hb.2;rw[yy];omega,h _ e1 e2⟩
def wz:FT:=g1 λd φ=>∃z,d=.str z/\z.length<=1000/\IsNm z/\φ (dv (.str z))
def ky:FT:=g1 λd φ=>∃z,d=.str z/\z∈j5/\φ (dv (.str z))
def Vh(T:Tops mg)(z5b:FD P w K mg base 1 "is_name" ["thing"] ua)(F:Fun K "read_name" "read_name" (top 32) f fd)(m:mg "read_name" = some (.ref f)):FD P w K mg base 2 "read_name" ["part"] wz:=by
 have S:zo ["part"] ["part"] (zd (top 32)):=by walk_at "f"
 walk_at "b";refine⟨_,(ze (yh (xw (xm (zg z5b (hr.e rfl) (z9 (za 0) zb)))) (zi vp) y7)
   (zi (zp (za 0)))),?_⟩
 obtain⟨d,rfl,z,rfl,hl1,nm,h⟩:=xv hT;walk_at "dl";simp only[ua,ZZ.g1];refine⟨z,rfl,hl1,λb hb=>?_⟩;rw[hb.mpr nm];exact⟨λq=>absurd q (by decide),λ_=>h⟩
def Xb(T:Tops mg)(Z:Con2 P w K mg)(F:Fun K "read_shape" "read_shape" (top 34) f fd)(m:mg "read_shape" = some (.ref f)):FD P w K mg base 1 "read_shape" ["part"] ky:=by
 have S:zo ["part"] ["part"] (zd (top 34)):=by walk_at "f"
 walk_at "b";refine⟨_,(ze (yh (B4 (za 0) (cm Z.c_SHAPES)) (zi vp) y7)
   (zi (zp (za 0)))),?_⟩
 obtain⟨d,rfl,z,rfl,hz,h⟩:=xv hT;walk_at "dl";have hz':z = "num"\/z = "list"\/z = "tree":=by simpa [j5] using hz
 rcases hz' with rfl|rfl|rfl <;> exact⟨by decide +kernel,λq=>absurd q (by decide +kernel),λ_=>h⟩
def G4:∀(m:Nat),0<m->∃c r,Nat.toDigits 10 m=c::r/\c≠'0':=by
 intro m
 induction m using Nat.strongRecOn with
 |_ m ih =>
  intro hm;by_cases h:m<10
  ·rw[Nat.toDigits_of_lt_base h];refine⟨_,_,rfl,?_⟩;have:∀k:Nat,k<10->0<k->k.digitChar≠'0':=by decide
   exact this m h hm
  ·obtain⟨c,r,e,hc⟩:=ih (m / 10) (by omega) (by omega)
   rw[Nat.toDigits_of_base_le (by decide) (by omega),e]
   exact⟨c,_,rfl,hc⟩
def numS(i:Int):Str:=PySem.Str.ofString (toString i)
structure Figs(i:Int)(fs:List Nat):Prop where
 tx:tl (numS i)=if i<0 then 45::fs else fs
 lo:1<=fs.length
 hi:fs.length<=60
 dg:∀c∈fs,48<=c/\c<=57
 hd:i≠0->∀r,fs≠48::r
def Le{m c:Nat}(h:c∈(Nat.toDigits 10 m).map Char.toNat):48<=c/\c<=57:=by
 obtain⟨d,hd,rfl⟩:=zah.mp h;have:=Nat.isDigit_of_mem_toDigits (by decide) (by decide) hd
 simp[Char.isDigit]at this;exact⟨this.1,this.2⟩
def Lf{m:Nat}(h:0<m)(r:List Nat):(Nat.toDigits 10 m).map Char.toNat≠48::r:=λe=>by
 obtain⟨c,q,e2,hc⟩:=G4 m h;rw[e2,List.map_cons]at e;exact hc (Char.toNat_inj.mp (List.cons.inj e).1)
def Xs{m:Nat}(h:m<10 ^ 60):1<=((Nat.toDigits 10 m).map Char.toNat).length/\((Nat.toDigits 10 m).map Char.toNat).length<=60:=by
 rw[zLm];have h2:=(Nat.length_toDigits_le_iff (b:=10) (n:=m) (k:=60) (by decide) (by decide)).mpr h
 refine⟨?_,h2⟩;have:=Nat.length_toDigits_pos (b:=10) (n:=m);omega
def X8{i:Int}(h:i.natAbs<10 ^ 60):∃fs,Figs i fs:=by
 cases i with
 |ofNat m =>
  have e:tl (numS (m:Int))=_:=cz m;refine⟨_,?_,(Xs (m:=m) (by simpa using h)).1,(Xs (m:=m) (by simpa using h)).2,λc hc=>Le hc,λhz r=>Lf (by
   rcases Nat.eq_zero_or_pos m with z|z
   ·exact absurd (by rw[z];rfl) hz
   ·exact z) r⟩
  rw[if_neg (show ¬ (Int.ofNat m<0) from Int.not_lt.mpr (Int.natCast_nonneg m))];exact e
 |negSucc m =>
  refine⟨_,?_,(Xs (m:=m+1) (by simpa using h)).1,(Xs (m:=m+1) (by simpa using h)).2,λc hc=>Le hc,λ_ r=>Lf (Nat.succ_pos m) r⟩
  rw[if_pos (Int.negSucc_lt_zero m)];exact cy m
def Gw(x:Str)(c:Nat):Txt.startswith x ⟨#[c]⟩=((tl x).head?==some c):=by
 unfold Txt.startswith
 rw[StrLaws.subAt_eq];show(decide (0+1<=x.length)&&(((tl x).drop 0).take 1==[c]))=_;rw[<- u4];cases tl x with
 |nil=>rfl
 |cons k r=>simp
def r45:("-" : Str)=⟨#[45]⟩:=by decide +kernel
def r48:("0" : Str)=⟨#[48]⟩:=by decide +kernel
def Bh{x:Str}{k:Nat}{fs:List Nat}(h:tl x=k::fs):cutS x (some 1) none=⟨fs.toArray⟩:=by
 have hl:x.length=fs.length+1:=by rw[<- u4,h];rfl
 unfold cutS;rw[show x.cps.toList=k::fs from h,hl,show ZZ.sIx (fs.length+1) 0 (some 1)=1 from by unfold ZZ.sIx;simp,show ZZ.sIx (fs.length+1) (fs.length+1) none=fs.length+1 from rfl]
 simp
def O8:FT:=g1 λd φ=>∃i:Int,d=.str (numS i)/\i.natAbs<10 ^ 60/\φ (dv (.bl true))
def Vm(T:Tops mg)(Z:Con2 P w K mg)(hF:GC K mg "FIGURES" (.str "0123456789"))(F:Fun K "is_number" "is_number" (top 35) f fd)(m:mg "is_number" = some (.ref f)):FD P w K mg base 1 "is_number" ["word"] O8:=by
 have S:zo ["word","figures"] ["word"] (zd (top 35)):=by walk_at "f"
 walk_at "b";refine⟨_,(ze (zj (zt 1 S.nd (Rq (xm (Vq (za 0) zh)) (La (za 0) (x8 zc) vi) (za 0))))
   (ze (zj (yh (EW.et (tz (xw (Xn zc (xt T.len (z9 (za 1) zb)) zc)) (um (xw (xm (ue T.all (z9 (yf (T:=["sign"]) (F:=[]) (js:=[]) (yj (za 1)) (show zm (zd (top 35)) _ _ _ from by walk_at "c") .nil (by decide) (λcl C fp s H=>(zn (i:=0) (nd1 _) rfl (by walk_at "o"))) (zw (by decide)) (yc 0) (λcl C fp s H=>ya) (λcl C fp s H=>(z2n hu (za 0) (cm hF)))) zb))))))) (zi (zp sx)) y7))
   (zi (zp (z4k (Xq hu (za 0) zh) (cj (Lb (Vq (za 1) zh)))))))),?_⟩
 obtain⟨d,rfl,i,rfl,hi,h⟩:=xv hT;obtain⟨fs,X⟩:=X8 hi;refine zf (λρ=>ρ=[q_ (.str (numS i)),q_ (.str ⟨fs.toArray⟩)]) ?_ ?_
 ·have tx:=X.tx;have nm:Txt.startswith (numS i) "-" = decide (i<0):=by
   rw[r45,Gw,tx];by_cases hn:i<0
   ·rw[if_pos hn,decide_eq_true hn];rfl
   ·rw[if_neg hn,decide_eq_false hn];cases fs with
    |nil=>rfl
    |cons c r =>
     have:=X.dg c (zao ..);show(some c==some 45)=false;rw[beq_eq_false_iff_ne];intro e;have:=Option.some.inj e;omega
  have hl61:(numS i).length<=61:=by
   have:=X.hi;rw[<- u4,tx];split
   ·rw[zLc];omega
   ·omega
  have es:tl (⟨fs.toArray⟩:Str)=fs:=rfl;refine⟨λz=>?_,λz=>?_⟩
  ·have hn:i<0:=of_decide_eq_true (nm.symm.trans z);rw[if_pos hn]at tx;refine⟨by rw[yy];omega,trivial,?_⟩
   show[q_ (.str (numS i)),q_ (.str (cutS (numS i) (some 1) none))]=_;rw[Bh tx]
  ·have hn:¬ i<0:=of_decide_eq_false (nm.symm.trans z);rw[if_neg hn]at tx;refine⟨trivial,?_⟩;show[q_ (.str (numS i)),q_ (.str (numS i))]=_;rw[show numS i=(⟨fs.toArray⟩:Str) from Py tx]
 rintro _ rfl;have lo:=X.lo;have hi6:=X.hi;have fl:(⟨fs.toArray⟩:Str).length=fs.length:=by rw[<- u4];rfl
 refine zf (λρ=>ρ=[q_ (.str (numS i)),q_ (.str ⟨fs.toArray⟩)]) ?_ ?_
 ·walk_at "dl";rw[fl];refine⟨by rw[yy];omega,λ_=>⟨λq=>absurd (by omega) q,λ_=>?_⟩,λq=>absurd (by omega) q⟩
  refine zv (fs.map λc=>D.str ⟨#[c]⟩) (λψ hψ=>⟨trivial,hψ⟩) (λj gs=>gs=List.replicate j (D.bl true)) (by rw[zLm];omega) rfl ?_ ?_
  ·rintro j d gs hd hle rfl;rw[zai]at hd;obtain⟨c,hc,rfl⟩:=zar.mp hd;have hr9:=X.dg c (zan hc);have e:(!(Builtin.Str.occurrences ("0123456789" : Str) ⟨#[c]⟩ 0 ("0123456789" : Str).length 1).isEmpty)=true:=by
    rw[StrLaws.found_one,show("0123456789" : Str).cps.toList=[48,49,50,51,52,53,54,55,56,57] from by decide +kernel,decide_eq_true_eq]
    simp only[zam,List.not_mem_nil,or_false];omega
   refine z2a ⟨λ_=>⟨trivial,?_⟩,λz=>nomatch z⟩;show List.replicate j _++[D.bl (!(Builtin.Str.occurrences ("0123456789" : Str) ⟨#[c]⟩ 0 ("0123456789" : Str).length 1).isEmpty)]=_;rw[e];exact List.replicate_succ'.symm
  ·rintro _ rfl;simp only[df,ug,uc];exact λz=>nomatch z
 rintro _ rfl;walk_at "dl";refine⟨λ_=>h,λq=>?_⟩;have hz:i≠0:=λe=>q (by rw[e];decide +kernel)
 have ns:Txt.startswith (⟨fs.toArray⟩:Str) "0" = false:=by
  rw[r48,Gw,show tl (⟨fs.toArray⟩:Str)=fs from rfl];cases fs with
  |nil=>rfl
  |cons c r =>
   show(some c==some 48)=false;rw[beq_eq_false_iff_ne];intro e;exact X.hd hz r (by rw[Option.some.inj e])
 show φ (dv (.bl (!Txt.startswith (⟨fs.toArray⟩:Str) "0")));rw[ns];exact h
def gj:FT:=g1 λd φ=>∃i:Int,d=.str (numS i)/\i.natAbs<10 ^ 60/\φ (dv (.int i))
def db{i:Int}(h:i.natAbs<10 ^ 60):(numS i).length<=61:=by
 obtain⟨fs,X⟩:=X8 h;have:=X.hi;rw[<- u4,X.tx];split
 ·rw[zLc];omega
 ·omega
def Z0(T:Tops mg)(z7i:FD P w K mg base 1 "is_number" ["word"] O8)(F:Fun K "read_number" "read_number" (top 36) f fd)(m:mg "read_number" = some (.ref f)):FD P w K mg base 2 "read_number" ["part"] gj:=by
 have S:zo ["part"] ["part"] (zd (top 36)):=by walk_at "f"
 walk_at "b";refine⟨_,(ze (yh (EW.et (tz (xw (xm (wc T.isinstance (z9 (za 0) (z9 (ga T.str vh) zb))))) (um (xw (xm (zg z7i (hr.e rfl) (z9 (za 0) zb))))))) (zi vp) y7)
   (zi (zp (B9 T.int (z9 (za 0) zb))))),?_⟩
 obtain⟨d,rfl,i,rfl,hi,h⟩:=xv hT;have hl61:=db hi;walk_at "dl";exact⟨i,rfl,hi,(λz=>nomatch z),λ_=>⟨i,Hh hi,by omega,trivial,h⟩⟩
def Wd(z:Str)(e:D):Prop:=((z = "nil"\/z = "leaf")/\e=.tup [.str z])\/(IsNm z/\e=.tup [.str "var",.str z])\/(∃i:Int,i.natAbs<10 ^ 60/\z=numS i/\e=.tup [.str "num",.int i])
def fg:FT:=g1 λd φ=>∃z e,d=.str z/\Wd z e/\φ (dv e)
def z3z(z:Str):inD (.str z) [.str "nil",.str "leaf"]=decide (z=("nil" : Str)\/z=("leaf" : Str)):=by
 show(eqD (.str "nil") (.str z) || (eqD (.str "leaf") (.str z) || false))=_
 rw[v6,v6,Bool.or_false,Bool.eq_iff_iff,Bool.or_eq_true,beq_iff_eq,beq_iff_eq,decide_eq_true_eq];exact⟨λh=>h.imp Eq.symm Eq.symm,λh=>h.imp Eq.symm Eq.symm⟩
def Nt{i:Int}(h:i.natAbs<10 ^ 60):¬ IsNm (numS i)/\numS i≠("nil" : Str)/\numS i≠("leaf" : Str):=by
 obtain⟨fs,X⟩:=X8 h;have key:∃c∈tl (numS i),c<=57:=by
  have lo:=X.lo;rw[X.tx];cases fs with
  |nil=>cases lo
  |cons c r =>
   have hc:=X.dg c (zao ..);split
   ·exact⟨c,zal _ (zao ..),hc.2⟩
   ·exact⟨c,zao ..,hc.2⟩
 obtain⟨c,hm,hc⟩:=key;refine⟨λnm=>?_,λe=>?_,λe=>?_⟩
 ·have:=nm.2.2.2.2 c hm;unfold rc at this;rw[StrLaws.found_one,decide_eq_true_eq]at this;have big:∀k∈Yz.cps.toList,97<=k:=by decide +kernel
  have:=big c this;omega
 ·rw[e]at hm;have big:∀k∈tl ("nil" : Str),97<=k:=by decide +kernel
  have:=big c hm;omega
 ·rw[e]at hm;have big:∀k∈tl ("leaf" : Str),97<=k:=by decide +kernel
  have:=big c hm;omega
def Vg(T:Tops mg)(z5b:FD P w K mg base 1 "is_name" ["thing"] ua)(z5g:FD P w K mg base 2 "read_number" ["part"] gj)(F:Fun K "read_word" "read_word" (top 43) f fd)(m:mg "read_word" = some (.ref f)):FD P w K mg base 3 "read_word" ["word"] fg:=by
 have S:zo ["word"] ["word"] (zd (top 43)):=by walk_at "f"
 walk_at "b";refine⟨_,(ze (yh (z2i hu (za 0) (w8 (z9 zh (z9 zh zb)))) (zi (zp (w8 (z9 (za 0) zb)))) y7)
   (ze (yh (xm (zg z5b (hr.e rfl) (z9 (za 0) zb))) (zi (zp (w8 (z9 zh (z9 (za 0) zb))))) y7)
   (zi (zp (w8 (z9 zh (z9 (zg z5g (hr.e rfl) (z9 (za 0) zb)) zb))))))),?_⟩
 obtain⟨d,rfl,z,e,rfl,hw,h⟩:=xv hT;walk_at "dl";simp only[z3z,ua,gj,ZZ.g1];simp only[if_false,decide_eq_true_eq,decide_eq_false_iff_not];refine⟨by decide +kernel,λq=>?_,λq=>?_⟩
 ·rcases hw with⟨_,rfl⟩|⟨nm,_⟩|⟨i,hi,rfl,_⟩
  ·exact h
  ·rcases q with z|z
   ·exact absurd z nm.2.2.1
   ·exact absurd z nm.2.2.2.1
  ·rcases q with z|z
   ·exact absurd z (Nt hi).2.1
   ·exact absurd z (Nt hi).2.2
 ·rcases hw with⟨z,_⟩|⟨nm,rfl⟩|⟨i,hi,rfl,rfl⟩
  ·exact absurd z q
  ·exact⟨z,rfl,by have:=nm.2.1;omega,λb hb=>⟨λ_=>h,λe=>absurd (hb.mpr nm) (by rw[e];decide)⟩⟩
  ·exact⟨_,rfl,by have:=db hi;omega,λb hb=>⟨λe=>absurd (hb.mp e) (Nt hi).1,λ_=>⟨i,rfl,hi,trivial,trivial,h⟩⟩⟩
def strE{a b:Str}(h:a.cps.toList=b.cps.toList):a=b:=by
 cases a
 cases b
 congr 1
 exact Array.toList_inj.mp h
def sC(a b:Str):(a++b).cps.toList=a.cps.toList++b.cps.toList:=by
 show(a.cps++b.cps).toList=_;simp
def sA(a b c:Str):a++b++c=a++(b++c):=strE (by rw[sC,sC,sC,sC,List.append_assoc])
def s0:("" : Str).cps.toList=[]:=by decide +kernel
def sL(a:Str):("" : Str)++a=a:=strE (by rw[sC,s0];rfl)
def sR(a:Str):a++("" : Str)=a:=strE (by rw[sC,s0,List.append_nil])
def sLn(a b:Str):(a++b).length=a.length+b.length:=by
 show(a.cps++b.cps).size=_;simp;rfl
def lp:Str:="("
def rp:Str:=")"
def sp:Str:=" "
def sep(p:Option Str)(w:Str):Str:=match p with
 |none=>""
 |some q=>if q≠lp/\w≠rp then sp else ""
def Ae(a:Str×Option Str)(w:Str):Str×Option Str:=(a.1++sep a.2 w++w,some w)
def runL(a:Str×Option Str)(ws:List Str):Str×Option Str:=ws.foldl Ae a
def y3(ws:List Str):Str:=(runL ("",none) ws).1
def Yj:∀(ws:List Str)(a:Str)(p:Option Str),runL (a,p) ws=(a++(runL ("",p) ws).1,(runL ("",p) ws).2)
 |[],a,p=>by simp[runL,sR]
 |w::ws,a,p=>by
  show runL (a++sep p w++w,some w) ws=(a++(runL (""++sep p w++w,some w) ws).1,(runL (""++sep p w++w,some w) ws).2);rw[Yj ws (a++sep p w++w),Yj ws (""++sep p w++w),sL];simp only[sA]
def rm(a:Str×Option Str)(xs ys:List Str):runL a (xs++ys)=runL (runL a xs) ys:=by
 unfold runL;rw[List.foldl_append]
def Sk:∀(ws:List Str)(w:Str)(a:Str×Option Str),(runL a (w::ws)).2=some ((w::ws).getLast (by simp))
 |[],w,a=>rfl
 |v::ws,w,a=>by
  show(runL (Ae a w) (v::ws)).2=_;rw[Sk ws v];simp
def Good(c:List Str):Prop:=∃w ws,c=w::ws/\w≠rp/\(w::ws).getLast (by simp)≠lp
def gap(p:Option Str):Str:=match p with
 |none=>""
 |some q=>if q≠lp then sp else ""
def fv{c:List Str}(h:Good c)(a:Str)(p:Option Str):∃q,q≠lp/\runL (a,p) c=(a++gap p++y3 c,some q):=by
 obtain⟨w,ws,rfl,h1,h2⟩:=h;refine⟨_,h2,?_⟩;have e1:(runL (a,p) (w::ws)).2=_:=Sk ws w (a,p);have e2:(runL (a,p) (w::ws)).1=a++gap p++y3 (w::ws):=by
  have hs:sep p w=gap p:=by
   unfold sep gap;cases p with
   |none=>rfl
   |some q=>by_cases z:q=lp <;> simp[z,h1]
  show(runL (a++sep p w++w,some w) ws).1=a++gap p++(runL (""++""++w,some w) ws).1;rw[Yj ws (a++sep p w++w),Yj ws (""++""++w),hs,sL,sL];simp only[sA]
 rw[<- e1,<- e2]
theorem j6:∀{cs:List (List Str)},(∀c∈cs,Good c)->∀(a q:Str),q≠lp->∃q',q'≠lp/\runL (a,some q) cs.flatten=(a++(cs.foldr (λc s=>sp++y3 c++s) ""),some q')
 |[],_,a,q,hq=>⟨q,hq,by simp[runL,sR]⟩
 |c::cs,h,a,q,hq=>by
  obtain⟨q1,h1,e1⟩:=fv (h c zao) a (some q);obtain⟨q2,h2,e2⟩:=j6 (cs:=cs) (λx hx=>h x (zal _ hx)) (a++gap (some q)++y3 c) q1 h1;refine⟨q2,h2,?_⟩;rw[List.flatten_cons,rm,e1,e2];have:gap (some q)=sp:=by
   show(if q≠lp then sp else "")=sp
   rw[if_pos hq]
  rw[this,List.foldr_cons];simp only[sA]
def c5:∀(t:Str)(ts:List Str),Str.join sp (t::ts)=t++ts.foldr (λx s=>sp++x++s) ""
 |t,[]=>by
  show t=t++"";rw[sR]
 |t,u::ts=>by
  show t++sp++Str.join sp (u::ts)=_;rw[c5 u ts,List.foldr_cons];simp only[sA]
def Ri(cs:List (List Str)):(cs.map y3).foldr (λx s=>sp++x++s) "" = cs.foldr (λc s=>sp++y3 c++s) "":=by
 rw[List.foldr_map]
def M8{cs:List (List Str)}(h:∀ c∈cs,Good c):y3 cs.flatten=Str.join sp (cs.map y3):=by
 cases cs with
 |nil=>rfl
 |cons c cs =>
  obtain⟨q1,h1,e1⟩:=fv (h c zao) "" none;obtain⟨q2,h2,e2⟩:=j6 (cs:=cs) (λx hx=>h x (zal _ hx)) (""++gap none++y3 c) q1 h1;show(runL ("",none) (c::cs).flatten).1=_;rw[List.flatten_cons,rm,e1,e2,List.map_cons,c5,Ri];show ""++""++y3 c++_=_;rw[sL,sL]
def M9{cs:List (List Str)}(h:∀ c∈cs,Good c)(hn:cs≠[]):y3 ([lp]++cs.flatten++[rp])=lp++Str.join sp (cs.map y3)++rp:=by
 match cs,hn with
 |c::cs,_ =>
  obtain⟨q1,h1,e1⟩:=fv (h c zao) lp (some lp);obtain⟨q2,h2,e2⟩:=j6 (cs:=cs) (λx hx=>h x (zal _ hx)) (lp++gap (some lp)++y3 c) q1 h1;show(runL ("",none) ([lp]++(c::cs).flatten++[rp])).1=_;rw[rm,rm];have e0:runL ("",none) [lp]=(lp,some lp):=by
   show(""++""++lp,some lp)=_;rw[sL,sL]
  rw[e0,List.flatten_cons,rm,e1,e2,List.map_cons,c5,Ri];show _++sep (some q2) rp++rp=_;have g1:gap (some lp) = "":=by show(if lp≠lp then sp else "") = "";rw[if_neg (λz=>z rfl)]
  have g21:sep (some q2) rp = "":=by show(if q2≠lp/\rp≠rp then sp else "") = "";rw[if_neg (λz=>z.2 rfl)]
  rw[g1,g21,sR];simp only[sA,sL]
def Jp:lp≠rp:=by decide +kernel
def c9(ws:List Str):Good ([lp]++ws++[rp]):=⟨lp,ws++[rp],rfl,Jp,by
 rw[List.getLast_cons (by simp),List.getLast_append_of_ne_nil _ (by simp)]
 exact Jp.symm⟩
def vk(w:Str):Prop:=w≠lp/\w≠rp/\w.length<=70
def qz{w:Str}(h:vk w):Good [w]:=⟨w,[],rfl,h.2.1,h.1⟩
def qw(w:Str):y3 [w]=w:=by
 show ""++""++w=w;rw[sL,sL]
def wsum(ws:List Str):Nat:=(ws.map λw=>w.length+1).sum
def xi(a b:List Str):wsum (a++b)=wsum a+wsum b:=by
 unfold wsum;simp
def Oz:∀(ws:List Str)(a:Str)(p:Option Str),(runL (a,p) ws).1.length<=a.length+wsum ws
 |[],a,p=>zaj _
 |w::ws,a,p=>by
  have:=Oz ws (a++sep p w++w) (some w);have e:wsum (w::ws)=w.length+1+wsum ws:=by unfold wsum;simp
  have l:(sep p w).length<=1:=by
   cases p with
   |none=>exact(by decide +kernel:("" : Str).length<=1)
   |some q =>
    show(if q≠lp/\w≠rp then sp else "").length<=1
    split
    ·exact(by decide +kernel:sp.length<=1)
    ·exact(by decide +kernel:("" : Str).length<=1)
  rw[sLn,sLn]at this;show(runL (a++sep p w++w,some w) ws).1.length<=_;omega
def ss(ws:List Str):(y3 ws).length<=wsum ws:=by
 have:=Oz ws "" none;have e:("" : Str).length=0:=by decide +kernel
 unfold y3;omega
def W2(cs:List (List Str)):wsum cs.flatten=(cs.map wsum).sum:=by
 induction cs with
 |nil=>rfl
 |cons c cs ih=>rw[List.flatten_cons,xi,ih];simp
def Sx{i:Int}(h:i.natAbs<10 ^ 60):vk (numS i):=by
 have no:∀c,c=40\/c=41->numS i≠⟨#[c]⟩:=λc hc e=>by
  have:c∈Vu i:=by
   show c∈(numS i).cps.toList;rw[e];simp
  have:=Tz this;omega
 have:=db h;exact⟨no 40 (.inl rfl),no 41 (.inr rfl),by omega⟩
def wu{z:Str}(h:IsNm z):vk z:=by
 have no:∀c,c=40\/c=41->z≠⟨#[c]⟩:=λc hc e=>by
  have:=h.2.2.2.2 c (by rw[e];exact List.mem_singleton.mpr rfl)
  rcases hc with rfl|rfl <;> exact absurd this (by decide +kernel)
 exact⟨no 40 (.inl rfl),no 41 (.inr rfl),by have:=h.2.1;omega⟩
def ExB(e:D)(c:List Str):Prop :=
 (∃i:Int,i.natAbs<10 ^ 60/\e=.tup [.str "num",.int i]/\c=[numS i])\/(∃z,IsNm z/\e=.tup [.str "var",.str z]/\c=[z])\/(e=.tup [.str "nil"]/\c=[("nil" : Str)])\/(e=.tup [.str "leaf"]/\c=[("leaf" : Str)])
def t0(R:D->List Str->Prop)(es:List D)(cs:List (List Str)):Prop:=es.length=cs.length/\∀(i:Nat) e c,es[i]?=some e->cs[i]?=some c->R e c
def ops:List Str:=["add","sub","cons","node"]
def ar(o:Str):Nat:=if o = "node" then 3 else 2
def Ex1:Nat->D->List Str->Prop
 |0,_,_=>False
 |n+1,e,c=>ExB e c\/(∃f es cs,IsNm f/\t0 (Ex1 n) es cs/\es.length<=4/\e=.tup [.str "call",.str f,.tup es]/\c=[lp,"call",f]++cs.flatten++[rp]) \/
  (∃o es cs,o∈ops/\t0 (Ex1 n) es cs/\(es.length<=4/\es.length=ar o)/\e=.tup (.str o::es)/\c=[lp,o]++cs.flatten++[rp])
def LE:Nat->Nat
 |0=>0
 |n+1=>100+4*LE n
def yg{w:Str}(h:w∈(["nil","leaf","call","add","sub","cons","node","give","let","less","list","tree","fn","num"]:List Str)):vk w:=by
 have:∀w∈(["nil","leaf","call","add","sub","cons","node","give","let","less","list","tree","fn","num"]:List Str),w≠lp/\w≠rp/\w.length<=70:=by decide +kernel
 exact this w h
def Zc{l:List Nat}{b:Nat}(h:∀ x∈l,x<=b):l.sum<=l.length*b:=by
 induction l with
 |nil=>simp
 |cons x l ih =>
  have h1:=h x zao;have h2:=ih λy hy=>h y (zal _ hy);rw[List.sum_cons,zLc,Nat.add_mul];omega
def yk(w:Str)(ws:List Str):wsum (w::ws)=w.length+1+wsum ws:=by unfold wsum;simp
def t0.mem{R:D->List Str->Prop}{es:List D}{cs:List (List Str)}(h:t0 R es cs){c:List Str}(hc:c∈cs):∃e∈es,R e c:=by
 obtain⟨i,hi⟩:=List.getElem?_of_mem hc;have hl:=(zag.mp hi).1;have he:es[i]?=some (es[i]'(by rw[h.1];exact hl)):=by simp
 exact⟨_,zan he,h.2 i _ c he hi⟩
def t0.mem'{R:D->List Str->Prop}{es:List D}{cs:List (List Str)}(h:t0 R es cs){e:D}(he:e∈es):∃c∈cs,R e c:=by
 obtain⟨i,hi⟩:=List.getElem?_of_mem he;have hl:=(zag.mp hi).1;have hc:cs[i]?=some (cs[i]'(by rw[<- h.1];exact hl)):=by simp
 exact⟨_,zan hc,h.2 i e _ hi hc⟩
def L4{e:D}{c:List Str}(h:ExB e c):Good c/\wsum c<=100/\sw e:=by
 rcases h with⟨i,hi,rfl,rfl⟩|⟨z,hz,rfl,rfl⟩|⟨rfl,rfl⟩|⟨rfl,rfl⟩
 ·have g:=Sx hi;refine⟨qz g,?_,⟨trivial,trivial,trivial⟩⟩;have:=g.2.2;unfold wsum;simp;omega
 ·have hz:=wu hz;refine⟨qz hz,?_,⟨trivial,trivial,trivial⟩⟩;have:=hz.2.2;unfold wsum;simp;omega
 ·exact⟨qz (yg (by simp)),by decide +kernel,⟨trivial,trivial⟩⟩
 ·exact⟨qz (yg (by simp)),by decide +kernel,⟨trivial,trivial⟩⟩
def Sw{o:Str}(h:o∈ops):vk o:=yg (by
 unfold ops at h;simp only[zam,List.not_mem_nil,or_false]at h ⊢;rcases h with h|h|h|h <;> simp[h])
def Tb{n:Nat}{es:List D}{cs:List (List Str)}(h:t0 (Ex1 n) es cs)(hl:es.length<=4)(ih:∀ e c,Ex1 n e c->Good c/\wsum c<=LE n/\sw e):wsum cs.flatten<=4*LE n:=by
 rw[W2];have:=Zc (l:=cs.map wsum) (b:=LE n) λx hx=>by
  obtain⟨c,hc,rfl⟩:=zah.mp hx;obtain⟨e,_,he⟩:=h.mem hc;exact(ih e c he).2.1
 rw[zLm,<- h.1]at this;exact zak this (Nat.mul_le_mul_right _ hl)
def Zq:lp.length=1:=by decide +kernel
def Zi:rp.length=1:=by decide +kernel
theorem yr:∀(n:Nat)(e:D)(c:List Str),Ex1 n e c->Good c/\wsum c<=LE n/\sw e
 |0,_,_,h=>h.elim
 |n+1,e,c,h=>by
  rcases h with h|⟨f,es,cs,hf,hp,hl,rfl,rfl⟩|⟨o,es,cs,ho,hp,⟨hl,_⟩,rfl,rfl⟩
  ·obtain⟨a,b,c⟩:=L4 h;exact⟨a,by show _<=100+4*LE n;omega,c⟩
  ·have hf:=wu hf;have fl:=Tb hp hl (yr n);refine⟨c9 ([("call" : Str),f]++cs.flatten),?_,trivial,trivial,yi.mpr λd hd=>?_,trivial⟩
   ·show wsum ([lp,"call",f]++cs.flatten++[rp])<=100+4*LE n;have h1:=hf.2.2;have h2:("call" : Str).length=4:=by decide +kernel
    rw[xi,xi,yk,yk,yk,Zq,h2];have h3:wsum [rp]=2:=by rw[yk,Zi];rfl
    have h4:wsum []=0:=rfl;omega
   ·obtain⟨c',_,hc'⟩:=hp.mem' hd;exact(yr n d c' hc').2.2
  ·have fl:=Tb hp hl (yr n);have og:=Sw ho;refine⟨c9 ([o]++cs.flatten),?_,trivial,yi.mpr λd hd=>?_⟩
   ·show wsum ([lp,o]++cs.flatten++[rp])<=100+4*LE n;have h1:=og.2.2;rw[xi,xi,yk,yk,Zq];have h3:wsum [rp]=2:=by rw[yk,Zi];rfl
    have h4:wsum []=0:=rfl;omega
   ·obtain⟨c',_,hc'⟩:=hp.mem' hd;exact(yr n d c' hc').2.2
def Mx(ws:List Str):(ws.map (λw=>[w])).flatten=ws:=by
 induction ws with
 |nil=>rfl
 |cons w ws ih=>rw[List.map_cons,List.flatten_cons,ih];rfl
def Xx(ws:List Str)(cs:List (List Str))(hw:∀ w∈ws,vk w)(hc:∀ c∈cs,Good c)(hn:ws≠[]):y3 ([lp]++ws++cs.flatten++[rp])=lp++Str.join sp (ws++cs.map y3)++rp:=by
 have h:=M9 (cs:=ws.map (λw=>[w])++cs) (λc hc'=>by
  rcases zas.mp hc' with h|h
  ·obtain⟨w,hw',rfl⟩:=zah.mp h;exact qz (hw w hw')
  ·exact hc c h) (by simp[hn])
 have e1:(ws.map (λw=>[w])++cs).flatten=ws++cs.flatten:=by
  rw[List.flatten_append,Mx]
 have e2:(ws.map (λw=>[w])++cs).map y3=ws++cs.map y3:=by
  rw[zMa,List.map_map]
  congr 1
  rw[show(y3 ∘ λw=>[w])=id from funext qw,List.map_id]
 rw[e1,e2]at h;rw[<- h];simp
def tBr:FT:=g1 λd φ=>∃ts:List Str,(d=.lst (ts.map D.str)\/d=.tup (ts.map D.str))/\wsum ts<=16000000/\φ (dv (.str (lp++Str.join sp ts++rp)))
def ql(n:Nat):FT:=g1 λe φ=>∃c,n<=4/\Ex1 n e c/\φ (dv (.str (y3 c)))
def u6(cs:List (List Str)):List D:=(cs.map y3).map D.str
def gi(n:Nat):FT:=g1 λd φ=>∃es cs,(d=.tup es\/d=.lst es)/\n<=4/\t0 (Ex1 n) es cs/\es.length<=4/\φ (df (.lst (u6 cs)))
def R9:∀ts:List Str,(Str.join sp ts).length<=wsum ts
 |[]=>by decide +kernel
 |[t]=>by
  show t.length<=_;rw[yk];omega
 |t::u::ts=>by
  have:=R9 (u::ts);show(t++sp++Str.join sp (u::ts)).length<=_;have e:sp.length=1:=by decide +kernel
  rw[sLn,sLn,yk,e];omega
def R8(ts:List Str):(ts.map λt=>t.length+((" " : Str)).length).sum=wsum ts:=by
 have e:((" " : Str)).length=1:=by decide +kernel
 unfold wsum;rw[e]
def Ea{ts:List Str}{φ:EV->Prop}(hb:wsum ts<=16000000)(h:φ (dv (.str (lp++Str.join sp ts++rp)))):(ts.map λt=>t.length+(Str.ofString " ").length).sum<=sizeLine/\Str.empty.length+(Str.ofString "(").length<=sizeLine/\((Str.ofString " ").join ts).length<=sizeLine/\Str.empty.length+(Str.ofString "(").length+((Str.ofString " ").join ts).length<=sizeLine /\
  Str.empty.length+(Str.ofString "(").length+((Str.ofString " ").join ts).length+(Str.ofString ")").length<=sizeLine/\φ ⟨.val,.str (Str.empty++Str.ofString "("++(Str.ofString " ").join ts++Str.ofString ")")⟩:=by
 have h1:(ts.map λt=>t.length+(Str.ofString " ").length).sum=wsum ts:=R8 ts;have h2:((Str.ofString " ").join ts).length<=wsum ts:=R9 ts;have h3:=yy;have h4:(Str.ofString "(").length=1:=by decide +kernel
 have h5:(Str.ofString ")").length=1:=by decide +kernel
 have h6:Str.empty.length=0:=by decide +kernel
 have e:Str.empty++Str.ofString "(" = lp:=by decide +kernel
 rw[e];exact⟨by omega,by omega,by omega,by omega,by omega,h⟩
def qr{R:D->List Str->Prop}{es:List D}{cs:List (List Str)}{i:Nat}{e:D}(h:t0 R es cs)(he:es[i]?=some e):∃c,cs[i]?=some c/\R e c/\u6 (cs.take (i+1))=u6 (cs.take i)++[.str (y3 c)]:=by
 have hl:=(zag.mp he).1;have hc:cs[i]?=some (cs[i]'(by rw[<- h.1];exact hl)):=by simp
 refine⟨_,hc,h.2 i e _ he hc,?_⟩;unfold u6;rw[List.take_succ,hc,Option.toList_some,zMa,zMa];rfl
def Qp(cs:List (List Str)):ve (u6 cs):=yi.mpr λd hd=>by
 unfold u6 at hd;obtain⟨t,_,rfl⟩:=zah.mp hd;trivial
def Wt{i:Int}(h:i.natAbs<10 ^ 60):i.natAbs.log2<1920:=by
 by_cases z:i.natAbs=0
 ·rw[z];decide
 ·exact(Nat.log2_lt z).mpr (Nat.lt_trans h (by decide +kernel))
def tw(cs:List (List Str)):(u6 cs).length=cs.length:=by unfold u6;simp
def Wu{n:Nat}{es:List D}{cs:List (List Str)}(h:t0 (Ex1 n) es cs)(hl:es.length<=4):wsum (cs.map y3)<=4*(LE n+1):=by
 unfold wsum;have:=Zc (l:=(cs.map y3).map λw=>w.length+1) (b:=LE n+1) λx hx=>by
  rw[List.map_map]at hx;obtain⟨c,hc,rfl⟩:=zah.mp hx;obtain⟨e,_,he⟩:=h.mem hc;have:=(yr n e c he).2.1;have:=ss c;show(y3 c).length+1<=_;omega
 rw[zLm,zLm,<- h.1]at this;exact zak this (Nat.mul_le_mul_right _ hl)
def Uz:∀{n:Nat},n<=4->LE n<=8500
 |0,_=>by decide
 |1,_=>by decide
 |2,_=>by decide
 |3,_=>by decide
 |4,_=>by decide
 |n+5,h=>by omega
def W7{n:Nat}{es:List D}{cs:List (List Str)}(h:t0 (Ex1 n) es cs):∀c∈cs,Good c:=λc hc=>by
 obtain⟨e,_,he⟩:=h.mem hc;exact(yr n e c he).1
def Vn(T:Tops mg)(F:Fun K "bracketed" "bracketed" (top 45) f fd)(m:mg "bracketed" = some (.ref f)):FD P w K mg base 1 "bracketed" ["words"] tBr:=by
 have S:zo ["words","inner"] ["words"] (zd (top 45)):=by walk_at "f"
 walk_at "b";refine⟨_,(ze (zt 1 S.nd (Rp zh (za 0)))
   (zi (zp (B7 (.cons zh (.cons (z2o (za 1)) (.cons zh .nil))))))),?_⟩
 obtain⟨d,rfl,ts,hd,hb,h⟩:=xv hT;rcases hd with rfl|rfl
 ·walk_at "dl";simp only[sLn];exact⟨ts,rfl,Ea hb h⟩
 ·walk_at "dl";simp only[sLn];exact⟨ts,rfl,Ea hb h⟩
def Te{n:Nat}(T:Tops mg)(z4t:FD P w K mg base (2*n+2) "show_expression" ["expression"] (ql n))(F:Fun K "show_all" "show_all" (top 49) f fd)(m:mg "show_all" = some (.ref f)):FD P w K mg base (2*n+3) "show_all" ["expressions"] (gi n):=by
 have S:zo ["expressions"] ["expressions"] (zd (top 49)):=by walk_at "f"
 walk_at "b";refine⟨_,(zi (zp (yf (T:=["expression"]) (F:=[]) (js:=[]) (yj (za 0)) (show zm (zd (top 49)) _ _ _ from by walk_at "c") .nil (by decide) (λcl C fp s H=>(zn (i:=0) (nd1 _) rfl (by walk_at "o"))) (zw (by decide)) (yc 0) (λcl C fp s H=>ya) (λcl C fp s H=>(zg z4t hr.d (z9 (za 0) zb)))))),?_⟩
 obtain⟨d,rfl,es,cs,hd,hn,hp,hl,h⟩:=xv hT;refine zv es (λψ hψ=>?_) (λi fs=>fs=u6 (cs.take i)) (by omega) rfl ?_ ?_
 ·rcases hd with rfl|rfl
  ·walk_at "dl";exact hψ
  ·walk_at "dl";exact hψ
 ·rintro i e fs he hle rfl;obtain⟨c,hc,hr,eq⟩:=qr hp he;walk_at "p";walk_at "dl";simp only[ql,g1];exact⟨c,hn,hr,trivial,eq.symm⟩
 ·rintro fs rfl;rw[hp.1,List.take_length];walk_at "dl";exact⟨Qp cs,h⟩
def k7{n:Nat}(T:Tops mg)(z4p:FD P w K mg base 1 "bracketed" ["words"] tBr)(z6h:FD P w K mg base (2*n+3) "show_all" ["expressions"] (gi n))(F:Fun K "show_expression" "show_expression" (top 48) f fd)(m:mg "show_expression" = some (.ref f)):FD P w K mg base (2*n+4) "show_expression" ["expression"] (ql (n+1)):=by
 have S:zo ["expression","kind"] ["expression"] (zd (top 48)):=by walk_at "f"
 walk_at "b";refine⟨_,(ze (zt 1 S.nd (zk hu (za 0) zc))
   (ze (yh (xr hu (za 1) zh) (zi (zp (Xp T.str (z9 (zk hu (za 0) zc) zb)))) y7)
   (ze (yh (xr hu (za 1) zh) (zi (zp (zk hu (za 0) zc))) y7)
   (ze (yh (z2i hu (za 1) (w8 (z9 zh (z9 zh zb)))) (zi (zp (za 1))) y7)
   (ze (yh (xr hu (za 1) zh) (zi (zp (zg z4p hr.d (z9 (y8 (y4 (z9 (za 1) (z9 (zk hu (za 0) zc) zb))) (zg z6h hr.d (z9 (zk hu (za 0) zc) zb))) zb)))) y7)
   (zi (zp (zg z4p hr.d (z9 (y8 (y4 (z9 (za 1) zb)) (zg z6h hr.d (z9 (xf (za 0) (x8 zc) vi) zb))) zb))))))))),?_⟩
 obtain⟨e,rfl,c,hn,he,h⟩:=xv hT;rcases he with(⟨i,hi,rfl,rfl⟩|⟨z,hz,rfl,rfl⟩|⟨rfl,rfl⟩|⟨rfl,rfl⟩)|⟨f,es,cs,hf,hp,hl4,rfl,rfl⟩|⟨o,es,cs,ho,hp,⟨hl4,_⟩,rfl,rfl⟩
 ·rw[qw]at h;walk_at "dl";exact⟨Wt hi,h⟩
 ·rw[qw]at h;walk_at "dl";exact⟨λz=>absurd z (by decide),λ_=>h⟩
 ·rw[qw]at h;walk_at "dl";exact⟨λz=>absurd z (by decide),λ_=>⟨λz=>absurd z (by decide),λ_=>⟨by decide,λ_=>h,λz=>absurd z (by decide)⟩⟩⟩
 ·rw[qw]at h;walk_at "dl";exact⟨λz=>absurd z (by decide),λ_=>⟨λz=>absurd z (by decide),λ_=>⟨by decide,λ_=>h,λz=>absurd z (by decide)⟩⟩⟩
 ·walk_at "dl";simp only[gi,tBr,g1];refine⟨λz=>absurd z (by decide),λ_=>⟨λz=>absurd z (by decide),λ_=>⟨by decide,λz=>absurd z (by decide),λ_=>?_⟩⟩⟩
  have e:=Xx ["call",f] cs (λw hw=>by
   simp only[zam,List.not_mem_nil,or_false]at hw;rcases hw with rfl|rfl
   ·exact yg (by simp)
   ·exact wu hf) (W7 hp) (by simp)
  rw[show([lp,("call" : Str),f]++cs.flatten++[rp])=[lp]++[("call" : Str),f]++cs.flatten++[rp] from by simp,e]at h
  have b1:=Wu hp hl4;have b2:=Uz (n:=n) (by omega)
  have b3:=(wu hf).2.2;have b4:wsum ([("call" : Str),f]++cs.map y3)<=16000000:=by
   have:("call" : Str).length=4:=by decide +kernel
   rw[xi,yk,yk];show _+(_+0)+_<=_;omega
  refine⟨es,cs,.inl rfl,by omega,hp,hl4,?_,[("call" : Str),f]++cs.map y3,.inl ?_,b4,trivial,h⟩
  ·rw[tw,<- hp.1,yy];show 2+_<=_;omega
  ·unfold u6;rw[zMa];rfl
 ·have hk:o≠"num"/\o≠"var"/\inD (.str o) [.str "nil",.str "leaf"]=false/\o≠"call":=by
   unfold ops at ho;simp only[zam,List.not_mem_nil,or_false]at ho;rcases ho with rfl|rfl|rfl|rfl <;> decide
  have hc1:cutD (D.str o::es) (some 1) none=es:=wf (D.str o::es) 1;have og:=Sw ho;walk_at "dl";simp only[gi,tBr,g1,hc1];refine⟨λz=>absurd z hk.1,λ_=>⟨λz=>absurd z hk.2.1,λ_=>⟨by decide,λz=>?_,λ_=>?_⟩⟩⟩
  ·exact absurd z (by rw[show(if False then !inD (.str o) [.str "nil",.str "leaf"] else inD (.str o) [.str "nil",.str "leaf"])=inD (.str o) [.str "nil",.str "leaf"] from rfl,hk.2.2.1];decide)
  refine⟨λz=>absurd z hk.2.2.2,λ_=>⟨F0 _,?_⟩⟩;have e:=Xx [o] cs (λw hw=>by
   simp only[zam,List.not_mem_nil,or_false]at hw;subst hw;exact og) (W7 hp) (by simp)
  rw[show([lp,o]++cs.flatten++[rp])=[lp]++[o]++cs.flatten++[rp] from by simp,e]at h
  have b1:=Wu hp hl4;have b2:=Uz (n:=n) (by omega)
  have b3:=og.2.2;have b4:wsum ([o]++cs.map y3)<=16000000:=by
   rw[xi,yk];show _+0+_<=_;omega
  refine⟨es,cs,.inl rfl,by omega,hp,hl4,?_,[o]++cs.map y3,.inl ?_,b4,trivial,h⟩
  ·rw[tw,<- hp.1,yy];show 1+_<=_;omega
  ·unfold u6;rw[zMa];rfl
theorem Rj(T:Tops mg)(z8f:FD P w K mg base 1 "bracketed" ["words"] tBr){f2:Addr}{fd2:FuncData}(Fa:Fun K "show_all" "show_all" (top 49) f2 fd2)(ma:mg "show_all" = some (.ref f2))(F:Fun K "show_expression" "show_expression" (top 48) f fd)(m:mg "show_expression" = some (.ref f)):∀n:Nat,FD P w K mg base (2*n+2) "show_expression" ["expression"] (ql n)
 |0=>by
  have S:zo ["expression","kind"] ["expression"] (zd (top 48)):=by walk_at "f"
  refine yo F S (F.binds λ_ _ _ _ _ _ us hl=>(by obtain⟨_,rfl⟩:=xp hl;rfl)) m λqZ A outer s H E ds φ hr hl hT=>?_
  obtain⟨e,rfl,c,hn,he,h⟩:=xv hT;exact he.elim
 |n+1=>k7 T z8f (Te T (Rj T z8f Fa ma F m n) Fa ma) F m
theorem L5:∀{n:Nat}{e:D}{c:List Str},Ex1 n e c->Ex1 (n+1) e c
 |0,_,_,h=>h.elim
 |n+1,e,c,h=>by
  rcases h with h|⟨f,es,cs,hf,hp,hl,he,hc⟩|⟨o,es,cs,ho,hp,hl,he,hc⟩
  ·exact .inl h
  ·exact .inr (.inl ⟨f,es,cs,hf,⟨hp.1,λi e c a b=>L5 (hp.2 i e c a b)⟩,hl,he,hc⟩)
  ·exact .inr (.inr ⟨o,es,cs,ho,⟨hp.1,λi e c a b=>L5 (hp.2 i e c a b)⟩,hl,he,hc⟩)
def bk(ws:List Str)(cs:List (List Str)):List Str:=[lp]++ws++cs.flatten++[rp]
def brW(zs:List Str):List Str:=[lp]++zs++[rp]
def Bo:Nat->D->List Str->Prop
 |0,_,_=>False
 |n+1,b,c =>
  (∃e k,Ex1 4 e k/\b=.tup [.str "give",e]/\c=bk ["give"] [k]) \/
  (∃z e k b1 c1,IsNm z/\Ex1 4 e k/\Bo n b1 c1/\b=.tup [.str "let",.str z,e,b1]/\c=bk ["let",z] [k,c1]) \/
  (∃e1 k1 e2 k2 b1 c1 b2 c2,Ex1 4 e1 k1/\Ex1 4 e2 k2/\Bo n b1 c1/\Bo n b2 c2/\b=.tup [.str "less",e1,e2,b1,b2]/\c=bk ["less"] [k1,k2,c1,c2]) \/
  (∃(o z:Str)(b1:D)(c1 zs:List Str)(b2:D)(c2:List Str),(o = "list"\/o = "tree")/\IsNm z/\Bo n b1 c1/\(∀w∈zs,IsNm w)/\zs≠[]/\(zs.length<=3/\zs.length=if o = "tree" then 3 else 2)/\Bo n b2 c2/\b=.tup ([.str o,.str z,b1]++zs.map D.str++[b2])/\c=bk [o,z] [c1,brW zs,c2])
def LB:Nat->Nat
 |0=>0
 |n+1=>18000+2*LB n
def LE4:LE 4=8500:=rfl
def kq(ws:List Str)(cs:List (List Str)):wsum (bk ws cs)=4+wsum ws+(cs.map wsum).sum:=by
 unfold bk;rw[xi,xi,xi,W2];have h3:wsum [rp]=2:=by rw[yk,Zi];rfl
 have h4:wsum [lp]=2:=by rw[yk,Zq];rfl
 omega
def ww{w:Str}(h:vk w):wsum [w]<=71:=by
 rw[yk];have:=h.2.2;show _+0<=_;omega
def sf(w v:Str):wsum [w,v]=wsum [w]+wsum [v]:=xi [w] [v]
def Y2{zs:List Str}(h:∀ w∈zs,vk w):wsum zs<=zs.length*71:=by
 unfold wsum;have:=Zc (l:=zs.map λw=>w.length+1) (b:=71) λx hx=>by
  obtain⟨w,hw,rfl⟩:=zah.mp hx;have:=(h w hw).2.2;omega
 rwa [zLm]at this
def qi(zs:List Str):wsum (brW zs)=4+wsum zs:=by
 unfold brW;rw[xi,xi];have h3:wsum [rp]=2:=by rw[yk,Zi];rfl
 have h4:wsum [lp]=2:=by rw[yk,Zq];rfl
 omega
def jd(ws:List Str)(cs:List (List Str)):Good (bk ws cs):=by
 have:=c9 (ws++cs.flatten);unfold bk
 rwa [<- List.append_assoc]at this
def dy{o:Str}(h:o = "list"\/o = "tree"):vk o:=by
 rcases h with rfl|rfl
 ·exact yg (by simp)
 ·exact yg (by simp)
theorem yu:∀(n:Nat)(b:D)(c:List Str),Bo n b c->Good c/\wsum c<=LB n/\sw b
 |0,_,_,h=>h.elim
 |n+1,b,c,h=>by
  have k1:wsum [("give" : Str)]<=71:=ww (yg (by simp))
  have k2:wsum [("let" : Str)]<=71:=ww (yg (by simp))
  have k3:wsum [("less" : Str)]<=71:=ww (yg (by simp))
  rcases h with⟨e,k,he,rfl,rfl⟩|⟨z,e,k,b1,c1,hz,he,hb,rfl,rfl⟩|⟨e1,k1',e2,k2',b1,c1,b2,c2,he1,he2,hb1,hb2,rfl,rfl⟩|⟨o,z,b1,c1,zs,b2,c2,ho,hz,hb1,hzs,hn,⟨hl,_⟩,hb2,rfl,rfl⟩
  ·obtain⟨a,b,c⟩:=yr 4 e k he;refine⟨jd _ _,?_,trivial,c,trivial⟩;rw[kq];show _+(wsum k+0)<=18000+2*LB n;rw[LE4]at b;omega
  ·obtain⟨a,b,c⟩:=yr 4 e k he;obtain⟨a',b',c'⟩:=yu n b1 c1 hb;refine⟨jd _ _,?_,trivial,trivial,c,c',trivial⟩;have:=ww (wu hz);rw[kq,sf];show _+(wsum k+(wsum c1+0))<=18000+2*LB n;rw[LE4]at b;omega
  ·obtain⟨a1,b1',c1'⟩:=yr 4 e1 _ he1;obtain⟨a2,b2',c2'⟩:=yr 4 e2 _ he2;obtain⟨a3,b3',c3'⟩:=yu n b1 c1 hb1;obtain⟨a4,b4',c4'⟩:=yu n b2 c2 hb2;refine⟨jd _ _,?_,trivial,c1',c2',c3',c4',trivial⟩;rw[kq];show _+(wsum k1'+(wsum k2'+(wsum c1+(wsum c2+0))))<=18000+2*LB n;rw[LE4]at b1' b2';omega
  ·obtain⟨a3,b3',c3'⟩:=yu n b1 c1 hb1;obtain⟨a4,b4',c4'⟩:=yu n b2 c2 hb2;refine⟨jd _ _,?_,yi.mpr ?_⟩
   ·have h1:=ww (wu hz);have h2:=ww (dy ho);have h3:=Y2 λw hw=>wu (hzs w hw);rw[kq,sf];show _+(wsum c1+(wsum (brW zs)+(wsum c2+0)))<=18000+2*LB n;rw[qi];omega
   ·intro d hd;simp only[List.cons_append,List.nil_append,zam,zas,List.not_mem_nil,or_false]at hd;rcases hd with rfl|rfl|rfl|hd|rfl
    ·trivial
    ·trivial
    ·exact c3'
    ·obtain⟨t,_,rfl⟩:=zah.mp hd;trivial
    ·exact c4'
def qb:∀{n:Nat},n<=5->LB n<=600000
 |0,_=>by decide
 |1,_=>by decide
 |2,_=>by decide
 |3,_=>by decide
 |4,_=>by decide
 |5,_=>by decide
 |n+6,h=>by omega
def jo(n:Nat):FT:=g1 λb φ=>∃c,n<=5/\Bo n b c/\φ (dv (.str (y3 c)))
def b9{ws:List Str}{cs:List (List Str)}(hw:∀ w∈ws,vk w)(hc:∀ c∈cs,Good c)(hn:ws≠[]):y3 (bk ws cs)=lp++Str.join sp (ws++cs.map y3)++rp:=Xx ws cs hw hc hn
def Xy{zs:List Str}(h:∀ w∈zs,vk w)(hn:zs≠[]):y3 (brW zs)=lp++Str.join sp zs++rp:=by
 have:=Xx zs [] h (by simp) hn
 simpa [brW] using this
def ui(c:List Str):wsum [y3 c]<=wsum c+1:=by
 rw[yk];have:=ss c;show _+0<=_;omega
def wk(w:Str)(ws:List Str):wsum (w::ws)=wsum [w]+wsum ws:=xi [w] ws
def z0u{R:D->List Str->Prop}{a b:D}{x y:List Str}(h1:R a x)(h2:R b y):t0 R [a,b] [x,y]:=⟨rfl,λi e c he hc=>by
 match i,he,hc with
 |0,he,hc =>
  simp at he hc;subst he hc;exact h1
 |1,he,hc =>
  simp at he hc;subst he hc;exact h2
 | i+2,he,_=>simp at he⟩
def Vf{n:Nat}(T:Tops mg)(z4p:FD P w K mg base 1 "bracketed" ["words"] tBr)(z4t:FD P w K mg base 10 "show_expression" ["expression"] (ql 4))(z4x:FD P w K mg base (n+12) "show_body" ["body"] (jo n))(F:Fun K "show_body" "show_body" (top 47) f fd)(m:mg "show_body" = some (.ref f)):FD P w K mg base (n+13) "show_body" ["body"] (jo (n+1)):=by
 have S:zo ["body","kind","compared"] ["body"] (zd (top 47)):=by walk_at "f"
 walk_at "b";refine⟨_,(ze (zt 1 S.nd (zk hu (za 0) zc))
   (ze (yh (xr hu (za 1) zh) (zi (zp (zg z4p hr.d (z9 (y4 (z9 (za 1) (z9 (zg z4t hr.d (z9 (zk hu (za 0) zc) zb)) zb))) zb)))) y7)
   (ze (yh (xr hu (za 1) zh) (zi (zp (zg z4p hr.d (z9 (y4 (z9 (za 1) (z9 (zk hu (za 0) zc) (z9 (zg z4t hr.d (z9 (zk hu (za 0) zc) zb)) (z9 (zg z4x hr.d (z9 (zk hu (za 0) zc) zb)) zb))))) zb)))) y7)
   (ze (yh (xr hu (za 1) zh) (ze (yn (T:=["part"]) (F:=[]) (js:=[]) 2 S.nd (yj (xf (za 0) (x8 zc) (x8 zc))) (show zm (zd (top 47)) _ _ _ from by walk_at "c") .nil (by decide) (λcl C fp s H=>(zn (i:=0) (nd1 _) rfl (by walk_at "o"))) (zw (by decide)) (yc 0) (λcl C fp s H=>ya) (λcl C fp s H=>(zg z4t hr.d (z9 (za 0) zb))))
    (zi (zp (zg z4p hr.d (z9 (y8 (y8 (y4 (z9 (za 1) zb)) (za 2)) (yf (T:=["part"]) (F:=[]) (js:=[]) (yj (xf (za 0) (x8 zc) vi)) (show zm (zd (top 47)) _ _ _ from by walk_at "c") .nil (by decide) (λcl C fp s H=>(zn (i:=0) (nd1 _) rfl (by walk_at "o"))) (zw (by decide)) (yc 0) (λcl C fp s H=>ya) (λcl C fp s H=>(zg z4x hr.d (z9 (za 0) zb))))) zb))))) y7)
   (zi (zp (zg z4p hr.d (z9 (y4 (z9 (za 1) (z9 (zk hu (za 0) zc) (z9 (zg z4x hr.d (z9 (zk hu (za 0) zc) zb)) (z9 (zg z4p hr.d (z9 (xf (za 0) (x8 zc) (x8 (Vs zc))) zb)) (z9 (zg z4x hr.d (z9 (zk hu (za 0) (Vs zc)) zb)) zb)))))) zb)))))))),?_⟩
 obtain⟨b,rfl,c,hn,he,h⟩:=xv hT;have k1:wsum [("give" : Str)]<=71:=ww (yg (by simp))
 have k2:wsum [("let" : Str)]<=71:=ww (yg (by simp))
 have k3:wsum [("less" : Str)]<=71:=ww (yg (by simp))
 have kb:=qb (n:=n) (by omega)
 have k4:=LE4;rcases he with⟨e,k,he,rfl,rfl⟩|⟨z,e,k,b1,c1,hz,he,hb,rfl,rfl⟩|⟨e1,w1,e2,w2,b1,c1,b2,c2,he1,he2,hb1,hb2,rfl,rfl⟩|⟨o,z,b1,c1,zs,b2,c2,ho,hz,hb1,hzs,hne,⟨hl3,_⟩,hb2,rfl,rfl⟩
 ·have ef:=yr 4 e k he;have lw:=ui k;rw[b9 (λw hw=>by
   simp only[zam,List.not_mem_nil,or_false]at hw;subst hw;exact yg (by simp)) (λc hc=>by
   simp only[zam,List.not_mem_nil,or_false]at hc;subst hc;exact ef.1) (by simp)]at h
  walk_at "dl";simp only[ql,tBr,ZZ.g1];refine⟨k,by omega,he,trivial,[("give" : Str),y3 k],.inl rfl,?_,trivial,h⟩
  rw[sf];omega
 ·have ef:=yr 4 e k he;have bf:=yu n b1 c1 hb;have lw:=ui k;have lw2:=ui c1;have zl:=ww (wu hz);rw[b9 (λw hw=>by
   simp only[zam,List.not_mem_nil,or_false]at hw;rcases hw with rfl|rfl
   ·exact yg (by simp)
   ·exact wu hz) (λc hc=>by
   simp only[zam,List.not_mem_nil,or_false]at hc;rcases hc with rfl|rfl
   ·exact ef.1
   ·exact bf.1) (by simp)]at h
  walk_at "dl";simp only[ql,jo,tBr,ZZ.g1];refine⟨λz=>absurd z (by decide),λ_=>⟨k,by omega,he,c1,by omega,hb,rfl,[("let" : Str),z,y3 k,y3 c1],.inl rfl,?_,trivial,h⟩⟩
  have e1:wsum [("let" : Str),z,y3 k,y3 c1]=wsum [("let" : Str)]+(wsum [z]+(wsum [y3 k]+wsum [y3 c1])):=by rw[wk "let",wk z,wk (y3 k)]
  omega
 ·have ef1:=yr 4 e1 _ he1;have ef2:=yr 4 e2 _ he2;have bf1:=yu n b1 _ hb1;have bf2:=yu n b2 _ hb2;have lw1:=ui w1;have lw2:=ui w2;have lw3:=ui c1;have lw4:=ui c2;rw[b9 (λw hw=>by
   simp only[zam,List.not_mem_nil,or_false]at hw;subst hw;exact yg (by simp)) (λc hc=>by
   simp only[zam,List.not_mem_nil,or_false]at hc;rcases hc with rfl|rfl|rfl|rfl
   ·exact ef1.1
   ·exact ef2.1
   ·exact bf1.1
   ·exact bf2.1) (by simp)]at h
  have c13:cutD [D.str "less",e1,e2,b1,b2] (some 1) (some 3)=[e1,e2]:=rfl;have c3:cutD [D.str "less",e1,e2,b1,b2] (some 3) none=[b1,b2]:=wf [D.str "less",e1,e2,b1,b2] 3;walk_at "dl";refine⟨λz=>absurd z (by decide),λ_=>⟨λz=>absurd z (by decide),λ_=>?_⟩⟩
  refine zv [e1,e2] (λψ hψ=>?_) (λi fs=>fs=u6 ([w1,w2].take i)) (Nat.le_of_ble_eq_true rfl) rfl ?_ ?_
  ·walk_at "dl";rw[c13];exact⟨by decide,hψ⟩
  ·rintro i e fs he hle rfl;obtain⟨c,hc,hr',eq⟩:=qr (z0u he1 he2) he;walk_at "p";walk_at "dl";exact⟨c,by omega,hr',trivial,eq.symm⟩
  rintro fs rfl;rw[show[w1,w2].take [e1,e2].length=[w1,w2] from rfl];walk_at "dl";refine⟨by rw[tw,yy];exact Nat.le_of_ble_eq_true rfl,?_⟩
  refine zv [b1,b2] (λψ hψ=>?_) (λi fs=>fs=u6 ([c1,c2].take i)) (Nat.le_of_ble_eq_true rfl) rfl ?_ ?_
  ·walk_at "dl";rw[c3];exact⟨by decide,hψ⟩
  ·rintro i e fs he hle rfl;obtain⟨c,hc,hr',eq⟩:=qr (z0u hb1 hb2) he;walk_at "p";walk_at "dl";exact⟨c,by omega,hr',trivial,eq.symm⟩
  rintro fs rfl;rw[show[c1,c2].take [b1,b2].length=[c1,c2] from rfl];walk_at "dl";simp only[tBr,ZZ.g1];refine⟨by rw[tw,tw,yy];exact Nat.le_of_ble_eq_true rfl,[("less" : Str),y3 w1,y3 w2,y3 c1,y3 c2],.inl rfl,?_,trivial,h⟩
  have e1:wsum [("less" : Str),y3 w1,y3 w2,y3 c1,y3 c2]=wsum [("less" : Str)]+(wsum [y3 w1]+(wsum [y3 w2]+(wsum [y3 c1]+wsum [y3 c2]))):=by rw[wk "less",wk (y3 w1),wk (y3 w2),wk (y3 c1)]
  omega
 ·have hk:o≠"give"/\o≠"let"/\o≠"less":=by
   rcases ho with rfl|rfl <;> decide
  have bf1:=yu n b1 _ hb1;have bf2:=yu n b2 _ hb2;have zl:=ww (wu hz);have ol:=ww (dy ho);have lw3:=ui c1;have lw4:=ui c2;have lw5:=ui (brW zs);have hzs:=λw hw=>wu (hzs w hw);have zl3:=Y2 hzs;have wb:=qi zs;rw[b9 (λw hw=>by
   simp only[zam,List.not_mem_nil,or_false]at hw;rcases hw with rfl|rfl
   ·exact dy ho
   ·exact wu hz) (λc hc=>by
   simp only[zam,List.not_mem_nil,or_false]at hc;rcases hc with rfl|rfl|rfl
   ·exact bf1.1
   ·exact c9 zs
   ·exact bf2.1) (by simp)]at h
  have ec:cutD ([D.str o,D.str z,b1]++zs.map D.str++[b2]) (some 3) (some (-1))=zs.map D.str:=E8 _ _ _ _ rfl;have el2:atI ([D.str o,D.str z,b1]++zs.map D.str++[b2]) (-1)=some b2:=bg _ _;simp only[List.cons_append,List.nil_append]at ec el2 ⊢;walk_at "dl";simp only[jo,tBr,ZZ.g1,ec,el2];refine⟨λz=>absurd z hk.1,λ_=>⟨λz=>absurd z hk.2.1,λ_=>⟨λz=>absurd z hk.2.2,λ_=>?_⟩⟩⟩;refine⟨c1,by omega,hb1,?_,zs,.inr rfl,by omega,c2,by omega,hb2,rfl,[o,z,y3 c1,y3 (brW zs),y3 c2],.inl ?_,?_,trivial,h⟩
  ·intro q;have:=q.1;unfold ZZ.sIx at this;simp at this
  ·rw[Xy hzs hne];rfl
  ·have e1:wsum [o,z,y3 c1,y3 (brW zs),y3 c2]=wsum [o]+(wsum [z]+(wsum [y3 c1]+(wsum [y3 (brW zs)]+wsum [y3 c2]))):=by rw[wk o,wk z,wk (y3 c1),wk (y3 (brW zs))]
   omega
def Rk(T:Tops mg)(z8f:FD P w K mg base 1 "bracketed" ["words"] tBr)(z8g:FD P w K mg base 10 "show_expression" ["expression"] (ql 4))(F:Fun K "show_body" "show_body" (top 47) f fd)(m:mg "show_body" = some (.ref f)):∀n:Nat,FD P w K mg base (n+12) "show_body" ["body"] (jo n)
 |0=>by
  have S:zo ["body","kind","compared"] ["body"] (zd (top 47)):=by walk_at "f"
  refine yo F S (F.binds λ_ _ _ _ _ _ us hl=>(by obtain⟨_,rfl⟩:=xp hl;rfl)) m λqZ A outer s H E ds φ hr hl hT=>?_
  obtain⟨e,rfl,c,hn,he,h⟩:=xv hT;exact he.elim
 |n+1=>Vf T z8f z8g (Rk T z8f z8g F m n) F m
def prW(p:Str×Str):List Str:=brW [p.1,p.2]
def Fu(e:D)(c:List Str):Prop:=∃(name:Str)(ps:List (Str×Str))(shape:Str)(ns:List Int)(b:D)(k:List Str),IsNm name/\ps≠[]/\ps.length<=4/\(∀p∈ps,IsNm p.1/\IsSh p.2)/\IsSh shape/\ns.length<=5/\(∀i∈ns,i.natAbs<10 ^ 60)/\Bo 5 b k /\
 e=.tup [.str name,.tup (ps.map prD),.tup [.str shape,.tup (ns.map D.int)],b]/\c=bk ["fn",name] [bk [] (ps.map prW),brW (shape::ns.map numS),k]
def Uh{z:Str}(h:IsSh z):vk z:=by
 rcases h with rfl|rfl|rfl <;> exact yg (by simp)
def N8{ps:List (Str×Str)}(h:∀ p∈ps,IsNm p.1/\IsSh p.2):∀p∈ps,vk p.1/\vk p.2:=λp hp=>⟨wu (h p hp).1,Uh (h p hp).2⟩
def Rc(zs:List Str):Good (brW zs):=c9 zs
def N7{p:Str×Str}(h:vk p.1/\vk p.2):wsum (prW p)<=146:=by
 unfold prW;rw[qi,sf];have:=ww h.1;have:=ww h.2;omega
def N3{ps:List (Str×Str)}(h:∀ p∈ps,vk p.1/\vk p.2)(hl:ps.length<=4):wsum (bk [] (ps.map prW))<=588:=by
 rw[kq];have:=Zc (l:=(ps.map prW).map wsum) (b:=146) λx hx=>by
  obtain⟨c,hc,rfl⟩:=zah.mp hx;obtain⟨p,hp,rfl⟩:=zah.mp hc;exact N7 (h p hp)
 rw[zLm,zLm]at this;have e:wsum []=0:=rfl;have:=Nat.mul_le_mul_right 146 hl;omega
def Nv{ns:List Int}{shape:Str}(hs:vk shape)(h:∀ i∈ns,i.natAbs<10 ^ 60):∀w∈shape::ns.map numS,vk w:=λw hw=>by
 rcases zam.mp hw with rfl|hw
 ·exact hs
 ·obtain⟨i,hi,rfl⟩:=zah.mp hw;exact Sx (h i hi)
def Nu{ns:List Int}{shape:Str}(hs:vk shape)(h:∀ i∈ns,i.natAbs<10 ^ 60)(hl:ns.length<=5):wsum (brW (shape::ns.map numS))<=430:=by
 rw[qi];have:=Y2 (Nv hs h);rw[zLc,zLm]at this;omega
def Rf{e:D}{c:List Str}(h:Fu e c):Good c/\wsum c<=602000/\sw e:=by
 obtain⟨name,ps,shape,ns,b,k,g1,g21,g3,g4,g5,g6,g7,g8,rfl,rfl⟩:=h;have g1:=wu g1;have g4:=N8 g4;have g5:=Uh g5;obtain⟨b1,b2,b3⟩:=yu 5 b k g8;refine⟨jd _ _,?_,trivial,yi.mpr ?_,⟨trivial,yi.mpr ?_,trivial⟩,b3,trivial⟩
 ·rw[kq,sf];have h1:=ww g1;have h2:wsum [("fn" : Str)]<=71:=ww (yg (by simp))
  have h3:=N3 g4 g3;have h4:=Nu g5 g7 g6;have h5:=qb (n:=5) (by omega)
  show _+(wsum (bk [] (ps.map prW))+(wsum (brW (shape::ns.map numS))+(wsum k+0)))<=_;omega
 ·intro d hd;obtain⟨p,_,rfl⟩:=zah.mp hd;exact⟨trivial,trivial,trivial⟩
 ·intro d hd;obtain⟨p,_,rfl⟩:=zah.mp hd;trivial
def O5:FT:=g1 λe φ=>∃c,Fu e c/\φ (dv (.str (y3 c)))
def A5:FT:=g1 λd φ=>∃fs cs,d=.tup fs/\t0 Fu fs cs/\fs.length<=8/\φ (dv (.str (y3 cs.flatten)))
def sr{α β:Type}{l:List α}{i:Nat}{d:α}(f:α->β)(h:l[i]?=some d):(l.take (i+1)).map f=(l.take i).map f++[f d]:=by
 rw[List.take_succ,h];simp
def Dk{p:Str×Str}(h:vk p.1/\vk p.2):y3 (prW p)=lp++Str.join sp [p.1,p.2]++rp:=Xy (λw hw=>by
 simp only[zam,List.not_mem_nil,or_false]at hw;rcases hw with rfl|rfl
 ·exact h.1
 ·exact h.2) (by simp)
def Dh{ps:List (Str×Str)}(hn:ps≠[]):y3 (bk [] (ps.map prW))=lp++Str.join sp ((ps.map prW).map y3)++rp:=by
 have:=M9 (cs:=ps.map prW) (λc hc=>by
  obtain⟨p,_,rfl⟩:=zah.mp hc;exact Rc _) (by simpa using hn)
 unfold bk;simpa using this
def z0d{ps:List (Str×Str)}(h:∀ p∈ps,vk p.1/\vk p.2)(hl:ps.length<=4):wsum ((ps.map prW).map y3)<=588:=by
 unfold wsum;have:=Zc (l:=((ps.map prW).map y3).map λw=>w.length+1) (b:=147) λx hx=>by
  obtain⟨c,hc,rfl⟩:=zah.mp hx;obtain⟨p,hp,rfl⟩:=zah.mp hc;obtain⟨q,hq,rfl⟩:=zah.mp hp;have:=N7 (h q hq);have:=ss (prW q);omega
 simp only[zLm]at this;have:=Nat.mul_le_mul_right 147 hl;omega
def z2b{fs:List D}{cs:List (List Str)}(h:t0 Fu fs cs)(hl:fs.length<=8):wsum (cs.map y3)<=8*602001:=by
 unfold wsum;have:=Zc (l:=(cs.map y3).map λw=>w.length+1) (b:=602001) λx hx=>by
  rw[List.map_map]at hx;obtain⟨c,hc,rfl⟩:=zah.mp hx;obtain⟨e,_,he⟩:=h.mem hc;have:=(Rf he).2.1;have:=ss c;show(y3 c).length+1<=_;omega
 rw[zLm,zLm,<- h.1]at this;exact zak this (Nat.mul_le_mul_right _ hl)
def h9(T:Tops mg)(z4p:FD P w K mg base 1 "bracketed" ["words"] tBr)(z4x:FD P w K mg base 17 "show_body" ["body"] (jo 5))(F:Fun K "show_function" "show_function" (top 46) f fd)(m:mg "show_function" = some (.ref f)):FD P w K mg base 18 "show_function" ["function"] O5:=by
 have S:zo ["function","gives","params","size"] ["function"] (zd (top 46)):=by walk_at "f"
 walk_at "b";refine⟨_,(ze (zj (zt 1 S.nd (zk hu (za 0) zc)))
   (ze (zj (zt 2 S.nd (zg z4p (hr.e rfl) (z9 (yf (T:=["param"]) (F:=[]) (js:=[]) (yj (zk hu (za 0) zc)) (show zm (zd (top 46)) _ _ _ from by walk_at "c") .nil (by decide) (λcl C fp s H=>(zn (i:=0) (nd1 _) rfl (by walk_at "o"))) (zw (by decide)) (yc 0) (λcl C fp s H=>ya) (λcl C fp s H=>(zg z4p (hr.e rfl) (z9 (za 0) zb)))) zb))))
   (ze (zj (yn (T:=["number"]) (F:=[]) (js:=[]) 3 S.nd (yj (zk hu (za 1) zc)) (show zm (zd (top 46)) _ _ _ from by walk_at "c") .nil (by decide) (λcl C fp s H=>(zn (i:=0) (nd1 _) rfl (by walk_at "o"))) (zw (by decide)) (yc 0) (λcl C fp s H=>ya) (λcl C fp s H=>(Xp T.str (z9 (za 0) zb)))))
   (zi (zp (zg z4p (hr.e rfl) (z9 (y4 (z9 zh (z9 (zk hu (za 0) zc) (z9 (za 2) (z9 (zg z4p (hr.e rfl) (z9 (y8 (y4 (z9 (zk hu (za 1) zc) zb)) (za 3)) zb)) (z9 (zg z4x (hr.e rfl) (z9 (zk hu (za 0) zc) zb)) zb)))))) zb))))))),?_⟩
 obtain⟨e,rfl,c,⟨name,ps,shape,ns,b,k,q1,q2,q3,q4,q5,q6,q7,q8,rfl,rfl⟩,h⟩:=xv hT;have q1:=wu q1;have q4:=N8 q4;have q5:=Uh q5;refine zf (λρ=>ρ=[q_ (.tup [.str name,.tup (ps.map prD),.tup [.str shape,.tup (ns.map D.int)],b]),q_ (.tup [.str shape,.tup (ns.map D.int)]),none,none]) ?_ ?_
 ·walk_at "dl"
 rintro _ rfl;refine zf (λρ=>ρ=[q_ (.tup [.str name,.tup (ps.map prD),.tup [.str shape,.tup (ns.map D.int)],b]),q_ (.tup [.str shape,.tup (ns.map D.int)]),q_ (.str (y3 (bk [] (ps.map prW)))),none]) ?_ ?_
 ·walk_at "dl";refine zv (ps.map prD) (λψ hψ=>?_) (λi fs=>fs=((ps.take i).map λp=>D.str (y3 (prW p)))) (by rw[zLm];omega) rfl ?_ ?_
  ·walk_at "dl";exact hψ
  ·rintro i e fs he hle rfl;rw[zai]at he;obtain⟨p,hp,rfl⟩:=zar.mp he;have gp:=q4 p (zan hp);walk_at "p";simp only[prD];walk_at "dl";simp only[tBr,ZZ.g1];refine⟨[p.1,p.2],.inr rfl,?_,trivial,?_⟩
   ·rw[sf];have:=ww gp.1;have:=ww gp.2;omega
   ·rw[sr _ hp,Dk gp]
  rintro fs rfl;rw[zLm,List.take_length];walk_at "dl";simp only[tBr,ZZ.g1];refine⟨(ps.map prW).map y3,.inl ?_,?_,?_⟩
  ·rw[List.map_map,List.map_map];rfl
  ·have:=z0d q4 q3;omega
  ·rw[Dh q2];exact⟨trivial,rfl⟩
 rintro _ rfl;refine zf (λρ=>ρ=[q_ (.tup [.str name,.tup (ps.map prD),.tup [.str shape,.tup (ns.map D.int)],b]),q_ (.tup [.str shape,.tup (ns.map D.int)]),q_ (.str (y3 (bk [] (ps.map prW)))),Q_ (.lst ((ns.map numS).map D.str))]) ?_ ?_
 ·walk_at "dl";refine zv (ns.map D.int) (λψ hψ=>?_) (λi fs=>fs=((ns.take i).map λp=>D.str (numS p))) (by rw[zLm];omega) rfl ?_ ?_
  ·walk_at "dl";exact hψ
  ·rintro i e fs he hle rfl;rw[zai]at he;obtain⟨p,hp,rfl⟩:=zar.mp he;have gp:=q7 p (zan hp);walk_at "p";walk_at "dl";exact⟨Wt gp,by rw[sr _ hp];rfl⟩
  rintro fs rfl;rw[zLm,List.take_length];walk_at "dl";rw[List.map_map];rfl
 rintro _ rfl;walk_at "dl";simp only[tBr,ZZ.g1,jo];have bf:=yu 5 b k q8;have kb:=qb (n:=5) (by omega)
 have ng:=Nv q5 q7;have w1:=ww q1;have w2:wsum [("fn" : Str)]<=71:=ww (yg (by simp))
 have w3:=ui (bk [] (ps.map prW));have w4:=ui (brW (shape::ns.map numS));have w5:=ui k;have w6:=N3 q4 q3;have w7:=Nu q5 q7 q6;rw[b9 (λw hw=>by
   simp only[zam,List.not_mem_nil,or_false]at hw;rcases hw with rfl|rfl
   ·exact yg (by simp)
   ·exact q1) (λc hc=>by
   simp only[zam,List.not_mem_nil,or_false]at hc;rcases hc with rfl|rfl|rfl
   ·exact jd _ _
   ·exact Rc _
   ·exact bf.1) (by simp)]at h
 refine⟨by rw[yy];omega,shape::ns.map numS,.inl rfl,?_,k,by omega,q8,rfl,[("fn" : Str),name,y3 (bk [] (ps.map prW)),y3 (brW (shape::ns.map numS)),y3 k],.inl ?_,?_,trivial,h⟩
 ·rw[qi]at w7;omega
 ·rw[Xy ng (by simp)]
  rfl
 ·have e1:wsum [("fn" : Str),name,y3 (bk [] (ps.map prW)),y3 (brW (shape::ns.map numS)),y3 k]=wsum [("fn" : Str)]+(wsum [name]+(wsum [y3 (bk [] (ps.map prW))]+(wsum [y3 (brW (shape::ns.map numS))]+wsum [y3 k]))):=by rw[wk "fn",wk name,wk (y3 (bk [] (ps.map prW))),wk (y3 (brW (shape::ns.map numS)))]
  omega
def B1(T:Tops mg)(z6b:FD P w K mg base 18 "show_function" ["function"] O5)(F:Fun K "show" "show" (top 44) f fd)(m:mg "show" = some (.ref f)):FD P w K mg base 19 "show" ["program"] A5:=by
 have S:zo ["program"] ["program"] (zd (top 44)):=by walk_at "f"
 walk_at "b";refine⟨_,(zi (zp (Rp zh (yf (T:=["function"]) (F:=[]) (js:=[]) (yj (za 0)) (show zm (zd (top 44)) _ _ _ from by walk_at "c") .nil (by decide) (λcl C fp s H=>(zn (i:=0) (nd1 _) rfl (by walk_at "o"))) (zw (by decide)) (yc 0) (λcl C fp s H=>ya) (λcl C fp s H=>(zg z6b (hr.e rfl) (z9 (za 0) zb))))))),?_⟩
 obtain⟨d,rfl,es,cs,rfl,hp,hl8,h⟩:=xv hT;walk_at "dl";refine zv es (λψ hψ=>?_) (λi fs=>fs=u6 (cs.take i)) (by omega) rfl ?_ ?_
 ·walk_at "dl";exact hψ
 ·rintro i e fs he hle rfl;obtain⟨c,hc,hr',eq⟩:=qr hp he;walk_at "p";walk_at "dl";exact⟨c,hr',trivial,eq.symm⟩
 rintro fs rfl;rw[hp.1,List.take_length];walk_at "dl";refine⟨cs.map y3,rfl,?_,?_⟩
 ·have:=z2b hp hl8;rw[R8,yy];omega
 ·rw[M8 (λc hc=>by
   obtain⟨e,_,he⟩:=hp.mem hc;exact(Rf he).1)]at h
  exact h
def Pa(ns:List Int)(k:Nat):Int:=match ns[k]? with
 |some n=>n.fmod (10 ^ 62)
 |none=>0
def Za:FT:=ZZ.g2 λd e φ=>∃(ns:List Int)(k:Nat),d=.scr ns/\e=.int k/\φ (dv (.int (Pa ns k)))
def mkS(w:List Nat):Str:=⟨w.toArray⟩
def Fi{a b:List Nat}(h:mkS a=mkS b):a=b:=by
 have:=congrArg (λz:Str=>z.cps.toList) h;exact this
def jt(w:List Nat):(mkS w).length=w.length:=rfl
def Ut(w:List Nat)(c:Nat):mkS w++(⟨#[c]⟩:Str)=mkS (w++[c]):=by
 have:(mkS w++(⟨#[c]⟩:Str)).cps=(mkS (w++[c])).cps:=by
  apply Array.toList_inj.mp;show(w.toArray++#[c]).toList=w++[c];simp
 exact congrArg Str.mk this
def st(x:Int):Int:=1+2*x.fmod 6
def bs(c:Int)(n:Nat):Int:=if (c.fdiv 1664).fmod 2=1 then((c.fdiv 3328).fdiv ((n:Int)+1)+(n:Int)*n).fmod 26 else(c.fdiv 64).fmod 26
def lt(c k:Int)(n:Nat):Int:=if (n:Int)=(c.fdiv 8).fmod (1+c.fmod 8) then(bs c n+k*st (c.fdiv 3328)).fmod 26 else bs c n
def ltr(c k:Int)(n:Nat):Nat:=97+(lt c k n).toNat
def wd0(c k:Int):List Nat:=(List.range (1+c.fmod 8).toNat).map (ltr c k)
def ws26:List Str:=["num","list","tree","give","let","less","call","cons","node","add","sub","fn","var","make","sum","open","hold","leafs","nila","price","room","run","ways","find","ahead","cut"]
def ws13:List Str:=["num","list","tree","give","let","less","call","cons","node","add","sub","fn","var"]
def ws11:List Str:=["make","sum","open","hold","leafs","nila","price","room","run","ways","find"]
def ws2:List Str:=["ahead","cut"]
def nm(c k:Int):Str:=if (c.fdiv 5).fmod 8=3 then ws26.getD ((k*st (c.fdiv 40)+c.fdiv 240).fmod 26).toNat "" else if mkS (wd0 c k) = "nil"\/mkS (wd0 c k) = "leaf" then mkS (wd0 c k)++("x" : Str) else mkS (wd0 c k)
def Q9:FT:=ZZ.g2 λa b φ=>∃(c:Int)(k:Nat),a=.int c/\b=.int k/\k<=100/\φ (dv (.str (nm c k)))
def Ss(x:Int):atI [D.int 1,D.int 3,D.int 5,D.int 7,D.int 9,D.int 11] (x.fmod 6)=some (.int (st x)):=by
 have m:=x4 x 6 (by decide)
 unfold st;have h:x.fmod 6=0\/x.fmod 6=1\/x.fmod 6=2\/x.fmod 6=3\/x.fmod 6=4\/x.fmod 6=5:=by omega
 rcases h with h|h|h|h|h|h <;> rw[h] <;> rfl
def Af(x:Int):0<=st x/\st x<=11:=by
 have m:=x4 x 6 (by decide)
 unfold st;omega
def Dq(x:Int):atI (ws26.map D.str) (x.fmod 26)=some (.str (ws26.getD (x.fmod 26).toNat "")):=by
 have m:=x4 x 26 (by decide)
 have hl:(x.fmod 26).toNat<ws26.length:=by show _<26;omega
 refine U7 m.1 ?_;rw[zai,zaf hl,zaq,zaf hl];rfl
def abc:Str:="abcdefghijklmnopqrstuvwxyz"
def Bq:∀i:Fin 26,abc.cps.toList[i.val]?=some (97+i.val):=by decide +kernel
def Jz{Q:Nat->Prop}(x:Int)(h:Q (97+(x.fmod 26).toNat)):match atI ("abcdefghijklmnopqrstuvwxyz" : Str).cps.toList (x.fmod 26) with
  |some c=>Q c
  |none=>False:=by
 have m:=x4 x 26 (by decide)
 have e:=U7 m.1 (Bq ⟨(x.fmod 26).toNat,by omega⟩)
 unfold abc at e;rw[e];exact h
def z4o(c:Int)(n:Nat):0<=bs c n/\bs c n<26:=by
 unfold bs;split
 ·exact x4 _ 26 (by decide)
 ·exact x4 _ 26 (by decide)
def Cd(c k:Int)(n:Nat):0<=lt c k n/\lt c k n<26:=by
 unfold lt;split
 ·exact x4 _ 26 (by decide)
 ·exact z4o c n
def fm26{a b:Int}(h:a.fmod 26=b.fmod 26):∃q,a-b=26*q:=by
 have h1:=Int.fmod_def a 26;have h2:=Int.fmod_def b 26;exact⟨a.fdiv 26-b.fdiv 26,by omega⟩
def Sb{s b:Int}{k k':Nat}(hs:∃ x,s=st x)(hk:k<=25)(hk':k'<=25)(h:(b+(k:Int)*s).fmod 26=(b+(k':Int)*s).fmod 26):k=k':=by
 obtain⟨x,rfl⟩:=hs;obtain⟨q,hq⟩:=fm26 h;have m:=x4 x 6 (by decide)
 unfold st at hq;have hx:x.fmod 6=0\/x.fmod 6=1\/x.fmod 6=2\/x.fmod 6=3\/x.fmod 6=4\/x.fmod 6=5:=by omega
 rcases hx with h|h|h|h|h|h <;> rw[h]at hq <;> omega
def z3b:ws26.Nodup:=by decide +kernel
def Hl{l:List Str}(nd:l.Nodup){i j:Nat}(hi:i<l.length)(hj:j<l.length)(h:l.getD i "" = l.getD j ""):i=j:=by
 rw[zaq,zaq,zaf hi,zaf hj]at h;exact(List.getElem_inj nd).mp h
def Y4(c k:Int):(wd0 c k).length=(1+c.fmod 8).toNat:=by
 unfold wd0;rw[zLm,List.length_range]
def Pl{c:Int}{k k':Nat}(hk:k<=25)(hk':k'<=25)(h:wd0 c k=wd0 c k'):k=k':=by
 have mb:=x4 c 8 (by decide)
 have mb2:=x4 (c.fdiv 8) (1+c.fmod 8) (by omega)
 have e:=congrArg (λl=>l[((c.fdiv 8).fmod (1+c.fmod 8)).toNat]?) h;have hl:((c.fdiv 8).fmod (1+c.fmod 8)).toNat<(1+c.fmod 8).toNat:=by omega
 unfold wd0 at e;simp only[zai,List.getElem?_range hl,Option.map_some]at e;have e1:=Option.some.inj e;have p:((((c.fdiv 8).fmod (1+c.fmod 8)).toNat:Nat):Int)=(c.fdiv 8).fmod (1+c.fmod 8):=Int.toNat_of_nonneg mb2.1;have b1:=Cd c k ((c.fdiv 8).fmod (1+c.fmod 8)).toNat;have b2:=Cd c k' ((c.fdiv 8).fmod (1+c.fmod 8)).toNat;unfold ltr at e1;have e2:lt c k ((c.fdiv 8).fmod (1+c.fmod 8)).toNat=lt c k' ((c.fdiv 8).fmod (1+c.fmod 8)).toNat:=by omega
 unfold lt at e2;rw[if_pos p,if_pos p]at e2;exact Sb ⟨_,rfl⟩ hk hk' e2
def Eh:("x" : Str).length=1:=by decide +kernel
def z1h{c:Int}{k k':Nat}(hk:k<=25)(hk':k'<=25)(h:nm c k=nm c k'):k=k':=by
 unfold nm at h;by_cases hc:(c.fdiv 5).fmod 8=3
 ·rw[if_pos hc,if_pos hc]at h;have m1:=x4 ((k:Int)*st (c.fdiv 40)+c.fdiv 240) 26 (by decide)
  have m2:=x4 ((k':Int)*st (c.fdiv 40)+c.fdiv 240) 26 (by decide)
  have e:=Hl z3b (by show _<26;omega) (by show _<26;omega) h
  refine Sb (s:=st (c.fdiv 40)) (b:=c.fdiv 240) ⟨_,rfl⟩ hk hk' ?_;rw[Int.add_comm,Int.add_comm (c.fdiv 240)];omega
 ·rw[if_neg hc,if_neg hc]at h;have l1:=Y4 c k;have l2:=Y4 c k';by_cases h1:mkS (wd0 c k) = "nil"\/mkS (wd0 c k) = "leaf" <;> by_cases h2:mkS (wd0 c k') = "nil"\/mkS (wd0 c k') = "leaf"
  ·rw[if_pos h1,if_pos h2]at h;have ex:("x" : Str)=⟨#[120]⟩:=by decide +kernel
   rw[ex,Ut,Ut]at h;exact Pl hk hk' (List.append_cancel_right (Fi h))
  ·rw[if_pos h1,if_neg h2]at h;have:=congrArg Str.length h;rw[Str.length_append,jt,jt,Eh]at this;omega
  ·rw[if_neg h1,if_pos h2]at h;have:=congrArg Str.length h;rw[Str.length_append,jt,jt,Eh]at this;omega
  ·rw[if_neg h1,if_neg h2]at h;exact Pl hk hk' (Fi h)
def Aj:∀i:Fin 26,rc (97+i.val)=true:=by decide +kernel
def z3a:∀w∈ws26,1<=w.length/\w.length<=8/\w≠"nil"/\w≠"leaf"/\∀c∈w.cps.toList,rc c=true:=by decide +kernel
def Ca(c:Int)(k:Nat):IsNm (nm c k):=by
 unfold nm;by_cases hc:(c.fdiv 5).fmod 8=3
 ·rw[if_pos hc];have m1:=x4 ((k:Int)*st (c.fdiv 40)+c.fdiv 240) 26 (by decide)
  have hl:(((k:Int)*st (c.fdiv 40)+c.fdiv 240).fmod 26).toNat<ws26.length:=by show _<26;omega
  rw[zaq,zaf hl];exact z3a _ (List.getElem_mem hl)
 ·rw[if_neg hc];have mb:=x4 c 8 (by decide)
  have l1:=Y4 c k;have sg:∀x∈wd0 c k,rc x=true:=λx hx=>by
   obtain⟨n,_,rfl⟩:=zah.mp hx;have b:=Cd c k n;exact Aj ⟨(lt c k n).toNat,by omega⟩
  by_cases h1:mkS (wd0 c k) = "nil"\/mkS (wd0 c k) = "leaf"
  ·rw[if_pos h1];rcases h1 with h1|h1 <;> rw[h1]
   ·have:IsNm (("nil" : Str)++("x" : Str)):=by
     unfold IsNm
     decide +kernel
    exact this
   ·have:IsNm (("leaf" : Str)++("x" : Str)):=by
     unfold IsNm
     decide +kernel
    exact this
  ·rw[if_neg h1];refine⟨by rw[jt];omega,by rw[jt];omega,λe=>h1 (.inl e),λe=>h1 (.inr e),sg⟩
def D7{tc:TDb}{t1 t2:TDS}{ρ:DE}{Z:DZ}(b:Bool)(h:∀ ψ:Bool->Prop,ψ b->tc ρ ψ)(h1:b=true->t1 ρ Z)(h2:b=false->t2 ρ Z):sIf tc t1 t2 ρ Z:=h _ ⟨h1,h2⟩
def C4(c:Nat):(⟨#[c]⟩:Str).length=1:=rfl
def Z1(T:Tops mg)(F:Fun K "_law_cell_at" "_law_cell_at" (top 51) f fd)(m:mg "_law_cell_at" = some (.ref f)):FD P w K mg base 1 "_law_cell_at" ["_law_script","_law_k"] Za:=by
 have S:zo ["_law_script","_law_k"] ["_law_script","_law_k"] (zd (top 51)):=by walk_at "f"
 walk_at "b";refine⟨_,(ze (yh (Xm (za 1) (xt T.len (z9 (za 0) zb))) (zi (zp (yt (zk hu (za 0) (za 1)) (Ro zc zc)))) y7)
   (zi (zp zc))),?_⟩
 obtain⟨d,e,rfl,ns,k,rfl,rfl,h⟩:=B3 hT;unfold Pa at h;walk_at "dl";refine⟨λhk=>?_,λhk=>?_⟩
 ·have hk':k<ns.length:=by omega
  rw[U7 (x:=ns[k]) (by omega) (by simp[hk'])]
  rw[zaf hk']at h;exact h
 ·rw[List.getElem?_eq_none (by omega)]at h
  exact h
def Tj(T:Tops mg)(F:Fun K "_law_name" "_law_name" (top 52) f fd)(m:mg "_law_name" = some (.ref f)):FD P w K mg base 1 "_law_name" ["_law_cell","_law_k"] Q9:=by
 have S:zo ["_law_cell","_law_k","_law_some","_law_many","_law_at","_law_word","_law_j","_law_letter"] ["_law_cell","_law_k"] (zd (top 52)):=by walk_at "f"
 walk_at "b";refine⟨_,(ze (zj (yh (xr hu (yt (vj (za 0) zc) zc) zc) (ze (zj (zt 2 S.nd (y4 (z9 zh (z9 zh (z9 zh (z9 zh (z9 zh (z9 zh (z9 zh (z9 zh (z9 zh (z9 zh (z9 zh (z9 zh (z9 zh zb))))))))))))))))
    (ze (zj (zt 2 S.nd (y8 (za 2) (y4 (z9 zh (z9 zh (z9 zh (z9 zh (z9 zh (z9 zh (z9 zh (z9 zh (z9 zh (z9 zh (z9 zh zb)))))))))))))))
    (ze (zj (zt 2 S.nd (y8 (za 2) (y4 (z9 zh (z9 zh zb))))))
    (zi (zp (zk hu (za 2) (yt (y8 (ck (za 1) (zk hu (y4 (z9 zc (z9 zc (z9 zc (z9 zc (z9 zc (z9 zc zb))))))) (yt (vj (za 0) zc) zc))) (vj (za 0) zc)) zc))))))) y7))
   (ze (zj (zt 3 S.nd (y8 zc (yt (za 0) zc))))
   (ze (zj (zt 4 S.nd (yt (vj (za 0) zc) (za 3))))
   (ze (zj (zt 5 S.nd zh))
   (ze (zj (fk (vf T.range (z9 (za 3) zb)) (zn (i:=6) S.nd rfl (by walk_at "o")) (yc 6) (ze (zt 7 S.nd (yt (vj (za 0) zc) zc))
    (ze (yh (xr hu (yt (vj (za 0) zc) zc) zc) (zi (zt 7 S.nd (yt (y8 (vj (vj (za 0) zc) (y8 (za 6) zc)) (ck (za 6) (za 6))) zc))) y7)
    (ze (yh (xr hu (za 6) (za 4)) (zi (zt 7 S.nd (yt (y8 (za 7) (ck (za 1) (zk hu (y4 (z9 zc (z9 zc (z9 zc (z9 zc (z9 zc (z9 zc zb))))))) (yt (vj (za 0) zc) zc)))) zc))) y7)
    (zi (zt 5 S.nd (y8 (za 5) (zk hu zh (za 7))))))))))
   (ze (yh (EW.et (tz (xr hu (za 5) zh) (um (xr hu (za 5) zh)))) (zi (zt 5 S.nd (y8 (za 5) zh))) y7)
   (zi (zp (za 5))))))))),?_⟩
 obtain⟨c0,k0,rfl,i,j,rfl,rfl,j1,h⟩:=B3 hT;have er:=Ss (i.fdiv 40);have ew:=Dq ((j:Int)*st (i.fdiv 40)+i.fdiv 240);have sb:=Af (i.fdiv 40);have sb':=Af (i.fdiv 3328);refine zf (λρ=>¬ (i.fdiv 5).fmod 8=3/\ρ=[q_ (.int i),q_ (.int (j:Int)),none,none,none,none,none,none]) ?_ ?_
 ·refine D7 (decide ((i.fdiv 5).fmod 8=3)) (λψ hψ=>?_) (λq=>?_) (λq=>?_)
  ·walk_at "dl";exact⟨of_eq_true (xk (by decide) (by decide)),hψ⟩
  ·refine zf (λρ=>∃l:List D,l=ws13.map D.str/\ρ=[q_ (.int i),q_ (.int (j:Int)),Q_ (.lst l),none,none,none,none,none]) ?_ ?_
   ·walk_at "dl";exact⟨_,rfl,rfl⟩
   rintro _ ⟨l1,e1,rfl⟩;have n1:l1.length=13:=by rw[e1];rfl
   refine zf (λρ=>∃l:List D,l=l1++ws11.map D.str/\ρ=[q_ (.int i),q_ (.int (j:Int)),Q_ (.lst l),none,none,none,none,none]) ?_ ?_
   ·walk_at "dl";exact⟨by rw[n1,sizeLine_eq];omega,_,rfl,rfl⟩
   rintro _ ⟨l2,e2,rfl⟩;have n2:l2.length=24:=by rw[e2,zLa,n1];rfl
   refine zf (λρ=>∃l:List D,l=l2++ws2.map D.str/\ρ=[q_ (.int i),q_ (.int (j:Int)),Q_ (.lst l),none,none,none,none,none]) ?_ ?_
   ·walk_at "dl";exact⟨by rw[n2,sizeLine_eq];omega,_,rfl,rfl⟩
   rintro _ ⟨l3,e3,rfl⟩;rw[e2,e1,<- zMa,<- zMa,show ws13++ws11++ws2=ws26 from rfl]at e3;rw[<- e3]at ew;walk_at "dl";rw[er];walk_at "dl";rw[ew];unfold nm at h;rw[if_pos (of_decide_eq_true q)]at h;exact⟨of_eq_true (xk (by decide) (by decide)),IntMulOk.of_left (a:=(j:Int)) (Y0 (by omega)),of_eq_true (xk (by decide) (by decide)),trivial,h⟩
  ·walk_at "dl";exact of_decide_eq_false q
 rintro _ ⟨hno,rfl⟩;unfold nm at h;rw[if_neg hno]at h;have mb:=x4 i 8 (by decide)
 have mb2:=x4 (i.fdiv 8) (1+i.fmod 8) (by omega)
 refine zf (λρ=>ρ=[q_ (.int i),q_ (.int (j:Int)),none,q_ (.int (1+i.fmod 8)),none,none,none,none]) ?_ ?_
 ·walk_at "dl"
 rintro _ rfl;refine zf (λρ=>ρ=[q_ (.int i),q_ (.int (j:Int)),none,q_ (.int (1+i.fmod 8)),q_ (.int ((i.fdiv 8).fmod (1+i.fmod 8))),none,none,none]) ?_ ?_
 ·walk_at "dl";exact⟨of_eq_true (xk (by decide) (by decide)),λz=>by omega⟩
 rintro _ rfl;refine zf (λρ=>ρ=[q_ (.int i),q_ (.int (j:Int)),none,q_ (.int (1+i.fmod 8)),q_ (.int ((i.fdiv 8).fmod (1+i.fmod 8))),q_ (.str ""),none,none]) ?_ ?_
 ·walk_at "dl"
 rintro _ rfl;refine zf (λρ=>∃(a b:Option EV),ρ=[q_ (.int i),q_ (.int (j:Int)),none,q_ (.int (1+i.fmod 8)),q_ (.int ((i.fdiv 8).fmod (1+i.fmod 8))),q_ (.str (mkS (wd0 i j))),a,b]) ?_ ?_
 ·refine rk (rngD 0 (1+i.fmod 8).toNat) (λψ hψ=>?_) (λn ρ=>∃(a b:Option EV),ρ=[q_ (.int i),q_ (.int (j:Int)),none,q_ (.int (1+i.fmod 8)),q_ (.int ((i.fdiv 8).fmod (1+i.fmod 8))),q_ (.str (mkS ((List.range n).map (ltr i j)))),a,b]) ?_ ?_ ?_
  ·walk_at "dl";exact⟨by omega,by omega,hψ⟩
  ·exact⟨none,none,rfl⟩
  ·rintro n d ρ hd ⟨a,b,rfl⟩;have dn:d=.int n:=by
    obtain⟨hn,rfl⟩:=ub hd;simp
   have n8:n<8:=by
    obtain⟨hn,_⟩:=ub hd;omega
   subst dn;have er':=Ss (i.fdiv 3328);have al:("abcdefghijklmnopqrstuvwxyz" : Str).length<=sizeLine:=by rw[sizeLine_eq];decide +kernel
   have go:∀(u:EV)(c:Nat),c=ltr i j n->(mkS ((List.range n).map (ltr i j))).length+({cps:=#[c]}:Str).length<=sizeLine/\∃(a b:Option EV),[q_ (D.int i),q_ (D.int (j:Int)),none,q_ (D.int (1+i.fmod 8)),q_ (D.int ((i.fdiv 8).fmod (1+i.fmod 8))),q_ (D.str (mkS ((List.range n).map (ltr i j))++({cps:=#[c]}:Str))),q_ (D.int n),some u]=[q_ (D.int i),q_ (D.int (j:Int)),none,q_ (D.int (1+i.fmod 8)),q_ (D.int ((i.fdiv 8).fmod (1+i.fmod 8))),q_ (D.str (mkS ((List.range (n+1)).map (ltr i j)))),a,b]:=λu c hc=>by
    refine⟨by rw[C4,jt,zLm,List.length_range,sizeLine_eq];omega,q_ (D.int n),some u,?_⟩
    rw[Ut,List.range_succ,zMa,hc];rfl
   have mo:IntMulOk (n:Int) n:=IntMulOk.of_left (a:=(n:Int)) (Y0 (by omega))
   have mo2:IntMulOk (j:Int) (st (i.fdiv 3328)):=IntMulOk.of_left (a:=(j:Int)) (Y0 (by omega))
   have fo:∀x:Int,FdOk x ((n:Int)+1):=λx=>fdOk (m:=64) (by omega) (Y0 (by omega))
   walk_at "dl";rw[er'];refine⟨of_eq_true (xk (by decide) (by decide)),of_eq_true (xk (by decide) (by decide)),λq1=>⟨of_eq_true (xk (by decide) (by decide)),fo _,mo,λq2=>⟨of_eq_true (xk (by decide) (by decide)),mo2,al,Jz _ (go _ _ ?_)⟩,λq2=>⟨al,Jz _ (go _ _ ?_)⟩⟩,λq1=>⟨λq2=>⟨of_eq_true (xk (by decide) (by decide)),mo2,al,Jz _ (go _ _ ?_)⟩,λq2=>⟨al,Jz _ (go _ _ ?_)⟩⟩⟩
   ·unfold ltr lt bs;rw[if_pos q2,if_pos q1]
   ·unfold ltr lt bs;rw[if_neg q2,if_pos q1]
   ·unfold ltr lt bs;rw[if_pos q2,if_neg q1]
   ·unfold ltr lt bs;rw[if_neg q2,if_neg q1]
  ·rintro ρ ⟨a,b,rfl⟩;rw[vc];exact⟨a,b,rfl⟩
 rintro _ ⟨a,b,rfl⟩;have wl:=Y4 i j;have hz:(mkS (wd0 i j)).length+("x" : Str).length<=sizeLine:=by rw[jt,Eh,sizeLine_eq];omega
 walk_at "dl";refine⟨λq=>⟨hz,?_⟩,λq=>⟨λq2=>⟨hz,?_⟩,λq2=>?_⟩⟩
 ·rw[if_pos (.inl q)]at h;exact h
 ·rw[if_pos (.inr q2)]at h;exact h
 ·rw[if_neg (λy=>y.elim q q2)]at h;exact h
def rowD(r:D×List Str):D:=.tup [r.1,.lst (r.2.map D.str)]
def wds(rows:List (D×List Str)):List Str:=(rows.map Prod.snd).flatten
def Y9:FT:=g1 λd φ=>∃rows:List (D×List Str),d=.lst (rows.map rowD)/\(wds rows).length<=10000000/\φ (df (.lst ((wds rows).map D.str)))
structure OkT(rows:List (Str×Str)):Prop where
 nm:∀p∈rows,IsNm p.1/\IsSh p.2
 nd:(rows.map Prod.fst).Nodup
 ln:rows.length<=1000
def S9:FT:=g3 λth sh ce φ=>∃(rows:List (Str×Str))(s:Str)(i:Int),th=.lst (rows.map prD)/\OkT rows/\sh=.str s/\IsSh s/\ce=.int i/\∀e c,ExB e c->(∀fs n,Sh1 fs rows (n+1) e (some s))->φ ⟨.new,rowD (e,c)⟩
def Yl:∀{rows:List (Str×Str)}{z s:Str},(rows.map Prod.fst).Nodup->(z,s)∈rows->rn rows z=some s
 |[],_,_,_,h=>nomatch h
 |p::r,z,s,hn,h=>by
  rw[List.map_cons,List.nodup_cons]at hn;unfold rn;rcases zam.mp h with e|h
  ·rw[<- e,if_pos rfl]
  ·rw[if_neg (λe=>hn.1 (by rw[<- e];exact zah.mpr ⟨_,h,rfl⟩))]
   exact Yl hn.2 h
def Gy(fs:List Fn)(env:List (Str×Str))(n:Nat):Sh1 fs env (n+1) (.tup [.str "nil"]) (some "list"):=.inr (.inr (.inr ⟨"nil",[],[],by decide,by decide,by decide,rfl,⟨rfl,λi e c he=>by simp at he⟩,by decide,by decide⟩))
def Oo(fs:List Fn)(env:List (Str×Str))(n:Nat):Sh1 fs env (n+1) (.tup [.str "leaf"]) (some "tree"):=.inr (.inr (.inr ⟨"leaf",[],[],by decide,by decide,by decide,rfl,⟨rfl,λi e c he=>by simp at he⟩,by decide,by decide⟩))
def Kg{rows:List (D×List Str)}{i:Nat}{r:D×List Str}(h:rows[i]?=some r):wds (rows.take (i+1))=wds (rows.take i)++r.2:=by
 unfold wds;rw[List.take_succ,h];simp
def Kf(rows:List (D×List Str))(i:Nat):(wds (rows.take i)).length<=(wds rows).length:=by
 conv=>rhs;rw[<- List.take_append_drop i rows]
 unfold wds;rw[zMa,List.flatten_append,zLa];omega
def xq(ws:List Str):ve (ws.map D.str):=Sa ws
def WdT(rows:List (Str×Str))(s:Str)(fs:List D):Prop:=∃zs:List Str,fs=zs.map D.str/\∀z∈zs,IsNm z/\rn rows z=some s
def Ge{rows:List (Str×Str)}{s:Str}:WdT rows s []:=⟨[],rfl,λ_ h=>(nomatch h)⟩
def Gf{rows:List (Str×Str)}{s:Str}{fs:List D}{z:Str}(h:WdT rows s fs)(g:IsNm z/\rn rows z=some s):WdT rows s (fs++[.str z]):=by
 obtain⟨zs,rfl,a⟩:=h;refine⟨zs++[z],by simp,λw hw=>?_⟩
 rcases zas.mp hw with hw|hw
 ·exact a w hw
 ·rw[List.mem_singleton.mp hw];exact g
def okW(zs:List Str):okD 40 (D.lst (zs.map D.str)):=by
 rw[qa (by decide)]
 intro x hx;obtain⟨z,_,rfl⟩:=zah.mp hx;rw[xg];trivial
def ok0:okD 40 (D.lst []):=by
 rw[qa (by decide)]
 exact λx hx=>(nomatch hx)
def Nb(x:Int):∃r:Int,(r=1\/r = -1)/\atI [dv (D.int 1),dv (D.int (-1))] (x.fmod 2)=q_ (.int r):=by
 have m:=x4 x 2 (by decide)
 rcases(by omega:x.fmod 2=0\/x.fmod 2=1) with e|e
 ·exact⟨1,.inl rfl,by rw[e,bj]⟩
 ·exact⟨-1,.inr rfl,by rw[e,bh]⟩
def Na{Q:Str->Prop}{zs:List Str}(h:∀ z∈zs,Q z)(hn:zs≠[])(x:Int):∃w,Q w/\atI (zs.map D.str) (x.fmod (zs.length:Int))=some (.str w):=by
 obtain⟨d,hd,e⟩:=K2 (l:=zs.map D.str) (by simpa using hn) x
 obtain⟨r,hr,rfl⟩:=zah.mp hd;rw[zLm]at e;exact⟨r,h r hr,e⟩
def fh:FT:=g1 λd φ=>d=.fd 0/\∀c:Int,φ (dv (.int c))
def Ti(T:Tops mg)(F:Fun K "_law_next" "_law_next" (top 53) f fd)(m:mg "_law_next" = some (.ref f)):FD P w K mg base 1 "_law_next" ["_law_feed"] fh:=by
 have S:zo ["_law_feed"] ["_law_feed"] (zd (top 53)):=by walk_at "f"
 walk_at "b";refine⟨_,(Kt 0 T.len),?_⟩;obtain⟨d,rfl,rfl,h⟩:=xv hT;walk_at "dl";exact h
def Tp(T:Tops mg)(F:Fun K "_law_flat" "_law_flat" (top 54) f fd)(m:mg "_law_flat" = some (.ref f)):FD P w K mg base 1 "_law_flat" ["_law_made"] Y9:=by
 have S:zo ["_law_made","_law_words","_law_one","_law_more"] ["_law_made"] (zd (top 54)):=by walk_at "f"
 walk_at "b";refine⟨_,(ze (zj (zt 1 S.nd (y4 zb)))
   (ze (zj (fk (yj (za 0)) (wt (K0:=K) (n:=2) (by rfl) (by rfl) (yb (zn (i:=2) S.nd rfl (by walk_at "o")) (yb (zn (i:=3) S.nd rfl (by walk_at "o")) wq))) (v5 2 3) (zi (zt 1 S.nd (y8 (za 1) (za 3))))))
   (zi (zp (za 1))))),?_⟩
 obtain⟨d,rfl,rows,rfl,hb,h⟩:=xv hT;refine zf (λρ=>ρ=[q_ (.lst (rows.map rowD)),Q_ (.lst []),none,none]) ?_ ?_
 ·walk_at "dl"
 rintro _ rfl;refine zf (λρ=>∃a b,ρ=[q_ (.lst (rows.map rowD)),Q_ (.lst ((wds rows).map D.str)),a,b]) ?_ ?_
 ·refine rk (rows.map rowD) (λψ hψ=>?_) (λi ρ=>∃a b,ρ=[q_ (.lst (rows.map rowD)),Q_ (.lst ((wds (rows.take i)).map D.str)),a,b]) ⟨none,none,rfl⟩ ?_ ?_
  ·walk_at "dl";exact hψ
  ·rintro i d ρ hd ⟨a,b,rfl⟩;rw[zai]at hd;obtain⟨r,hr',rfl⟩:=zar.mp hd;unfold rowD;walk_at "dl";have e:=Kg hr';have l1:=Kf rows (i+1);rw[e]at l1 ⊢;rw[zLa]at l1;rw[zMa];exact⟨by rw[yy];omega,_,_,rfl⟩
  ·rintro ρ ⟨a,b,rfl⟩;rw[zLm,List.take_length];exact⟨a,b,rfl⟩
 rintro _ ⟨a,b,rfl⟩;walk_at "dl";exact⟨xq _,h⟩
def Vj(T:Tops mg)(F:Fun K "_law_plain" "_law_plain" (top 55) f fd)(m:mg "_law_plain" = some (.ref f)):FD P w K mg base 1 "_law_plain" ["_law_there","_law_shape","_law_cell"] S9:=by
 have S:zo ["_law_there","_law_shape","_law_cell","_law_some","_law_name_here","_law_number","_law_word"] ["_law_there","_law_shape","_law_cell"] (zd (top 55)):=by walk_at "f"
 walk_at "b";refine⟨_,(ze (zj (yn (T:=["_law_name_here","_law_kind"]) (F:=["_law_shape"]) (js:=[1]) 3 S.nd (yj (za 0)) (show zm (zd (top 55)) _ _ _ from by walk_at "c") (.cons rfl .nil) (by decide) (λcl C fp s H=>(wt (K0:=K) (n:=2) (by rfl) (by rfl) (yb (zn (i:=0) (show(["_law_name_here","_law_kind","_law_shape"]:List Str).Nodup by decide +kernel) rfl (by walk_at "o")) (yb (zn (i:=1) (show(["_law_name_here","_law_kind","_law_shape"]:List Str).Nodup by decide +kernel) rfl (by walk_at "o")) wq)))) (uk (ym y9 (xo y9 xc) (zw (by decide)) (ym y9 xc (zw (by decide)) ul))) (v5 0 1) (λcl C fp s H=>(ci (xr hu (za 1) (za 2)))) (λcl C fp s H=>(za 0))))
   (ze (yh (EW.et (rf (qf hu (za 3) (y4 zb)) (qe (qf hu (yt (za 2) zc) zc)))) (ze (zt 4 S.nd (zk hu (za 3) (yt (vj (za 2) zc) (xt T.len (z9 (za 3) zb)))))
    (zi (zp (x9 (z9 (x9 (z9 zh (z9 (za 4) zb))) (z9 (y4 (z9 (za 4) zb)) zb)))))) y7)
   (ze (yh (xr hu (za 1) zh) (ze (zt 5 S.nd (ck (jg (z9 zc (z9 (Vs zc) zb)) (yt (vj (za 2) zc) zc)) (yt (vj (za 2) zc) (Ro zc zc))))
    (zi (zp (x9 (z9 (x9 (z9 zh (z9 (za 5) zb))) (z9 (y4 (z9 (Xp T.str (z9 (za 5) zb)) zb)) zb)))))) y7)
   (ze (zt 6 S.nd (jg (z9 zh (z9 zh zb)) (Tu T.int (z9 (Xq hu (za 1) zh) zb))))
   (zi (zp (x9 (z9 (x9 (z9 (za 6) zb)) (z9 (y4 (z9 (za 6) zb)) zb))))))))),?_⟩
 obtain⟨a0,b0,c0,rfl,rows,s,i,rfl,ok,rfl,hsh,rfl,h⟩:=z2g hT;have hl1:=ok.ln;refine zf (λρ=>∃zs:List Str,(∀z∈zs,IsNm z/\rn rows z=some s)/\ρ=[q_ (.lst (rows.map prD)),q_ (.str s),q_ (.int i),Q_ (.lst (zs.map D.str)),none,none,none]) ?_ ?_
 ·refine zv (rows.map prD) (λψ hψ=>?_) (λi fs=>WdT rows s fs) (by rw[zLm];omega) Ge ?_ ?_
  ·walk_at "dl";exact hψ
  ·rintro k e fs he hle wd;rw[zai]at he;obtain⟨p,hp,rfl⟩:=zar.mp he;have gp:=ok.nm p (zan hp);walk_at "p";simp only[prD];walk_at "dl";exact⟨λq=>Gf wd ⟨gp.1,Yl ok.nd (by have:=zan hp;rw[<- q];exact this)⟩,λ_=>wd⟩
  ·rintro fs ⟨zs,rfl,hz⟩;exact⟨trivial,zs,hz,rfl⟩
 rintro _ ⟨zs,hz,rfl⟩;walk_at "dl";refine⟨okW zs,ok0,λhne=>⟨λ_=>?_,λ_=>?_⟩,λ_=>?_⟩
 ·have hzn:zs≠[]:=λz=>by
   subst z;exact absurd hne (by decide)
  have hl0:¬ (zs.length:Int)=0:=λz=>hzn (List.eq_nil_of_length_eq_zero (by omega))
  obtain⟨w,gw,ew⟩:=Na hz hzn (i.fdiv 3);rw[W0]at ew;rw[ew];exact⟨of_eq_true (xk (by decide) (by decide)),hl0,trivial,trivial,h _ _ (.inr (.inl ⟨w,gw.1,rfl,rfl⟩)) λfs n=>.inr (.inl ⟨w,rfl,gw.2.symm⟩)⟩
 ·refine⟨λhs=>?_,λhs=>?_⟩
  ·obtain⟨r,hr',er⟩:=Nb (i.fdiv 3);have mm:=x4 (i.fdiv 6) (10 ^ 60) (by decide)
   have bd:(r*(i.fdiv 6).fmod (10 ^ 60)).natAbs<10 ^ 60:=by
    rcases hr' with rfl|rfl
    ·omega
    ·omega
   rw[er];exact⟨of_eq_true (xk (by decide) (by decide)),of_eq_true (xk (by decide) (by decide)),IntMulOk.of_left (by rcases hr' with rfl|rfl <;> decide),Wt bd,h _ _ (.inl ⟨_,bd,rfl,rfl⟩) λfs n=>.inl ⟨_,rfl,by rw[hs];rfl⟩⟩
  ·by_cases ht:s = "tree"
   ·rw[if_pos ht,bh];exact⟨trivial,trivial,rfl,trivial,h _ _ (.inr (.inr (.inr ⟨rfl,rfl⟩))) λfs n=>by rw[ht];exact Oo fs rows n⟩
   ·rw[if_neg ht,bj];exact⟨trivial,trivial,rfl,trivial,h _ _ (.inr (.inr (.inl ⟨rfl,rfl⟩))) λfs n=>by rw[hsh.resolve_left hs |>.resolve_right ht];exact Gy fs rows n⟩
 ·refine⟨λhs=>?_,λhs=>?_⟩
  ·obtain⟨r,hr',er⟩:=Nb (i.fdiv 3);have mm:=x4 (i.fdiv 6) (10 ^ 60) (by decide)
   have bd:(r*(i.fdiv 6).fmod (10 ^ 60)).natAbs<10 ^ 60:=by
    rcases hr' with rfl|rfl
    ·omega
    ·omega
   rw[er];exact⟨of_eq_true (xk (by decide) (by decide)),of_eq_true (xk (by decide) (by decide)),IntMulOk.of_left (by rcases hr' with rfl|rfl <;> decide),Wt bd,h _ _ (.inl ⟨_,bd,rfl,rfl⟩) λfs n=>.inl ⟨_,rfl,by rw[hs];rfl⟩⟩
  ·by_cases ht:s = "tree"
   ·rw[if_pos ht,bh];exact⟨trivial,trivial,rfl,trivial,h _ _ (.inr (.inr (.inr ⟨rfl,rfl⟩))) λfs n=>by rw[ht];exact Oo fs rows n⟩
   ·rw[if_neg ht,bj];exact⟨trivial,trivial,rfl,trivial,h _ _ (.inr (.inr (.inl ⟨rfl,rfl⟩))) λfs n=>by rw[hsh.resolve_left hs |>.resolve_right ht];exact Gy fs rows n⟩
def g5(g:D->D->D->D->D->(EV->Prop)->Prop):FT:=λds φ=>∃a b c d e,ds=[a,b,c,d,e]/\g a b c d e φ
structure Hd where
 name:Str
 kinds:List Str
 shape:Str
 size:List Int
def hdD(h:Hd):D:=.tup [.str h.name,.lst (h.kinds.map D.str),.str h.shape,.lst (h.size.map D.int)]
structure OkH(h:Hd):Prop where
 name:IsNm h.name
 n0:h.kinds≠[]
 n4:h.kinds.length<=4
 kinds:∀k∈h.kinds,IsSh k
 shape:IsSh h.shape
 gv:bn h.shape h.size h.kinds
 size:∀i∈h.size,i.natAbs<10 ^ 60
structure OkHs(hs:List Hd):Prop where
 ok:∀h∈hs,OkH h
 ln:hs.length<=8
 nd:(hs.map Hd.name).Nodup
def hdFn(h:Hd):Fn:=⟨h.name,h.kinds.map λk=>("",k),h.shape,[],.non⟩
def hfs(hs:List Hd):List Fn:=hs.map hdFn
def tE:Nat->FT
 |0=>λ_ _=>False
 |n+1=>g5 λfe he th sh de φ=>fe=.fd 0/\∃(hs:List Hd)(rows:List (Str×Str))(s:Str),he=.lst (hs.map hdD)/\OkHs hs/\th=.lst (rows.map prD)/\OkT rows/\sh=.str s/\IsSh s/\de=.int n/\n<=3/\∀e c,Ex1 (n+1) e c->Sh1 (hfs hs) rows (n+1) e (some s)->φ ⟨.new,rowD (e,c)⟩
def Hds(all:List Hd)(s:Str)(fs:List D):Prop:=∃hs:List Hd,fs=hs.map hdD/\∀h∈hs,h∈all/\h.shape=s
def Ct{all:List Hd}{s:Str}:Hds all s []:=⟨[],rfl,λ_ h=>(nomatch h)⟩
def Cu{all:List Hd}{s:Str}{fs:List D}{z:Hd}(h:Hds all s fs)(g:z∈all/\z.shape=s):Hds all s (fs++[hdD z]):=by
 obtain⟨zs,rfl,a⟩:=h;refine⟨zs++[z],by simp,λw hw=>?_⟩
 rcases zas.mp hw with hw|hw
 ·exact a w hw
 ·rw[List.mem_singleton.mp hw];exact g
structure Ua(fs:List Fn)(env:List (Str×Str))(n:Nat)(ks:List Str)(i:Nat)(ds:List D)(rs:List (D×List Str)):Prop where
 eq:ds=rs.map rowD
 ln:rs.length=i
 ok:∀(j:Nat)(r:D×List Str)(k:Str),rs[j]?=some r->ks[j]?=some k->Ex1 n r.1 r.2/\Sh1 fs env n r.1 (some k)
def Wg{fs:List Fn}{env:List (Str×Str)}{n:Nat}{ks:List Str}{i:Nat}{ds:List D}{rs:List (D×List Str)}{e:D}{c:List Str}{k:Str}(h:Ua fs env n ks i ds rs)(hk:ks[i]?=some k)(g:Ex1 n e c)(g21:Sh1 fs env n e (some k)):Ua fs env n ks (i+1) (ds++[rowD (e,c)]) (rs++[(e,c)]):=by
 refine⟨by rw[h.eq];simp,by simp[h.ln],λj r k' hr hk'=>?_⟩
 rcases Nat.lt_or_ge j rs.length with hj|hj
 ·rw[List.getElem?_append_left hj]at hr;exact h.ok j r k' hr hk'
 ·rw[List.getElem?_append_right hj]at hr;have hj0:j-rs.length=0:=by
   rcases Nat.eq_zero_or_pos (j-rs.length) with z|z
   ·exact z
   ·rw[List.getElem?_eq_none (by rw[List.length_singleton];exact z)]at hr;cases hr
  rw[hj0]at hr;cases hr;have:j=i:=by have:=h.ln;omega
  subst this;rw[hk]at hk';cases hk';exact⟨g,g21⟩
def Ua.all{fs:List Fn}{env:List (Str×Str)}{n:Nat}{ks:List Str}{ds:List D}{rs:List (D×List Str)}(h:Ua fs env n ks ks.length ds rs):(∀r∈rs,Ex1 n r.1 r.2)/\wx (Sh1 fs env n) (rs.map Prod.fst) (ks.map some):=by
 refine⟨λr hr=>?_,by rw[zLm,zLm,h.ln],λi e c he hc=>?_⟩
 ·obtain⟨j,hj⟩:=List.getElem?_of_mem hr;have hl:=(zag.mp hj).1;exact(h.ok j r _ hj (zaf (by rw[<- h.ln];exact hl))).1
 ·rw[zai]at he hc;obtain⟨r,hr,rfl⟩:=zar.mp he;obtain⟨k,hk,rfl⟩:=zar.mp hc;exact(h.ok i r k hr hk).2
def Fz:∀{hs:List Hd}{h:Hd},(hs.map Hd.name).Nodup->h∈hs->fnL (hfs hs) h.name=some (hdFn h)
 |[],_,_,h=>nomatch h
 |a::r,h,hn,hm=>by
  rw[List.map_cons,List.nodup_cons]at hn;show(if h.name=a.name then some (hdFn a) else fnL (hfs r) h.name)=_
  rcases zam.mp hm with e|hm
  ·rw[e,if_pos rfl]
  ·rw[if_neg (λe=>hn.1 (by rw[<- e];exact zah.mpr ⟨_,hm,rfl⟩))]
   exact Fz hn.2 hm
def D2{hs:List Hd}{h:Hd}{env:List (Str×Str)}{n:Nat}{es:List D}{s:Str}(ok:OkHs hs)(hm:h∈hs)(hsh:h.shape=s)(hp:wx (Sh1 (hfs hs) env n) es (h.kinds.map some))(hl:es.length<=100):Sh1 (hfs hs) env (n+1) (.tup [.str "call",.str h.name,.tup es]) (some s):=.inr (.inr (.inl ⟨h.name,es,_,rfl,hp,hl,by
 unfold U0;rw[Fz ok.nd hm];show _=ifS _ ((h.kinds.map λk=>(("" : Str),k)).map Prod.snd) h.shape;rw[List.map_map,show(Prod.snd ∘ λk:Str=>(("" : Str),k))=id from rfl,List.map_id];unfold ifS;rw[if_pos rfl,hsh]⟩))
def Opk(s o:Str)(ks:List Str):Prop:=(s = "list"/\o = "cons"/\ks=[("num" : Str),"list"])\/(s = "tree"/\o = "node"/\ks=[("tree" : Str),"num","tree"])\/(s≠"list"/\s≠"tree"/\(o = "add"\/o = "sub")/\ks=[("num" : Str),"num"])
def Wm{s o:Str}{ks:List Str}(h:Opk s o ks)(hs:IsSh s):o∈ops/\ks.length<=3/\ks.length=ar o/\(∀k∈ks,IsSh k)/\o≠"num"/\o≠"var"/\o≠"call"/\qc o=some (ks,s):=by
 rcases h with⟨rfl,rfl,rfl⟩|⟨rfl,rfl,rfl⟩|⟨h1,h2,h3,rfl⟩
 ·exact⟨by decide,by decide,by decide,λk hk=>by simp at hk;rcases hk with rfl|rfl <;> simp[IsSh],by decide,by decide,by decide,by decide⟩
 ·exact⟨by decide,by decide,by decide,λk hk=>by simp at hk;rcases hk with rfl|rfl|rfl <;> simp[IsSh],by decide,by decide,by decide,by decide⟩
 ·have:s = "num":=(hs.resolve_right λz=>z.elim h1 h2);subst this;have ik:∀k∈([("num" : Str),"num"]),IsSh k:=λk hk=>by simp at hk;rw[hk];exact .inl rfl
  rcases h3 with rfl|rfl
  ·exact⟨by decide,by decide,by decide,ik,by decide,by decide,by decide,by decide⟩
  ·exact⟨by decide,by decide,by decide,ik,by decide,by decide,by decide,by decide⟩
def z3j{fs:List Fn}{env:List (Str×Str)}{n:Nat}{es:List D}{s o:Str}{ks:List Str}(h:Opk s o ks)(hs:IsSh s)(hp:wx (Sh1 fs env n) es (ks.map some))(hl:es.length<=100):Sh1 fs env (n+1) (.tup (.str o::es)) (some s):=by
 obtain⟨_,_,_,_,n1,n2,n3,ft⟩:=Wm h hs;refine .inr (.inr (.inr ⟨o,es,_,n1,n2,n3,rfl,hp,hl,?_⟩));unfold Cw;rw[ft];exact(if_pos rfl).symm
def okHd(hs:List Hd):okD 40 (D.lst (hs.map hdD)):=by
 rw[qa (by decide)]
 intro x hx;obtain⟨z,_,rfl⟩:=zah.mp hx;unfold hdD;rw[C8 (by decide)]
 intro y hy;simp only[zam,List.not_mem_nil,or_false]at hy;rcases hy with rfl|rfl|rfl|rfl
 ·rw[xg];trivial
 ·rw[qa (by decide)]
  intro x hx;obtain⟨z,_,rfl⟩:=zah.mp hx;rw[xg];trivial
 ·rw[xg];trivial
 ·rw[qa (by decide)]
  intro x hx;obtain⟨z,_,rfl⟩:=zah.mp hx;rw[d9];trivial
def Ds{Q:Hd->Prop}{hs:List Hd}(h:∀ z∈hs,Q z)(hn:hs≠[])(x:Int):∃w,Q w/\atI (hs.map hdD) (x.fmod (hs.length:Int))=some (hdD w):=by
 obtain⟨d,hd,e⟩:=K2 (l:=hs.map hdD) (by simpa using hn) x
 obtain⟨r,hr,rfl⟩:=zah.mp hd;rw[zLm]at e;exact⟨r,h r hr,e⟩
def fw{n:Nat}{rs:List (D×List Str)}(h:∀ r∈rs,Ex1 n r.1 r.2):t0 (Ex1 n) (rs.map Prod.fst) (rs.map Prod.snd):=by
 refine⟨by simp,λi e c he hc=>?_⟩
 rw[zai]at he hc;obtain⟨r,hr,rfl⟩:=zar.mp he;rw[hr]at hc;cases hc;exact h r (zan hr)
def Wf{n:Nat}{rs:List (D×List Str)}(h:∀ r∈rs,Ex1 n r.1 r.2):ve (rs.map Prod.fst):=yi.mpr λd hd=>by
 obtain⟨r,hr,rfl⟩:=zah.mp hd;exact(yr n _ _ (h r hr)).2.2
def wg(c:List Str):c.length<=wsum c:=by
 induction c with
 |nil=>exact zaj _
 |cons a c ih =>
  rw[yk,zLc];omega
def Pk{n:Nat}{rs:List (D×List Str)}(h:∀ r∈rs,Ex1 n r.1 r.2)(hl:rs.length<=4)(hn:n<=4):(wds rs).length<=34000:=by
 have:=Tb (fw h) (by simpa using hl) (yr n)
 have:=Uz hn;have:=wg (rs.map Prod.snd).flatten;show(rs.map Prod.snd).flatten.length<=_;omega
def Dt(x:Int):∃o:Str,(o = "add"\/o = "sub")/\atI [dv (D.str "add"),dv (D.str "sub")] (x.fmod 2)=q_ (.str o):=by
 have m:=x4 x 2 (by decide)
 rcases(by omega:x.fmod 2=0\/x.fmod 2=1) with e|e
 ·exact⟨"add",.inl rfl,by rw[e,bj]⟩
 ·exact⟨"sub",.inr rfl,by rw[e,bh]⟩
def fstD:D->Option D
 |.tup (e::_)=>some e
 |_=>none
def gy(rs:List (D×List Str)):(rs.map rowD).filterMap fstD=rs.map Prod.fst:=by
 rw[List.filterMap_map,<- List.filterMap_eq_map];rfl
def Hs{n:Nat}(T:Tops mg)(z5l:FD P w K mg base 1 "_law_next" ["_law_feed"] fh)(z6t:FD P w K mg base 1 "_law_plain" ["_law_there","_law_shape","_law_cell"] S9)(z4y:FD P w K mg base 1 "_law_flat" ["_law_made"] Y9)(z5v:FD P w K mg base (n+2) "_law_e" ["_law_feed","_law_heads","_law_there","_law_shape","_law_deep"] (tE n))(F:Fun K "_law_e" "_law_e" (top 56) f fd)(m:mg "_law_e" = some (.ref f)):FD P w K mg base (n+3) "_law_e" ["_law_feed","_law_heads","_law_there","_law_shape","_law_deep"] (tE (n+1)):=by
 have S:zo ["_law_feed","_law_heads","_law_there","_law_shape","_law_deep","_law_cell","_law_some","_law_head_here","_law_made","_law_word","_law_kinds"] ["_law_feed","_law_heads","_law_there","_law_shape","_law_deep"] (zd (top 56)):=by walk_at "f"
 walk_at "b";refine⟨_,(ze (zj (zt 5 S.nd (zg z5l hr.d (z9 (za 0) zb))))
   (ze (zj (yh (EW.et (tz (Xm (za 4) zc) (tz (Xm (Rr 0) zc) (um (Xm (yt (za 5) zc) zc))))) (zi (zp (zg z6t hr.d (z9 (za 2) (z9 (za 3) (z9 (vj (za 5) zc) zb)))))) y7))
   (ze (zj (Sf 0 (uw (Rr 0) zc)))
   (ze (zj (yn (T:=["_law_head_here"]) (F:=["_law_shape"]) (js:=[3]) 6 S.nd (yj (za 1)) (show zm (zd (top 56)) _ _ _ from by walk_at "c") (.cons rfl .nil) (by decide) (λcl C fp s H=>(zn (i:=0) (show(["_law_head_here","_law_shape"]:List Str).Nodup by decide +kernel) rfl (by walk_at "o"))) (zw (by decide)) (yc 0) (λcl C fp s H=>(ci (xr hu (zk hu (za 0) zc) (za 1)))) (λcl C fp s H=>(za 0))))
   (ze (zj (yh (EW.et (rf (L7 (yt (za 5) zc) zc) (qe (qf hu (za 6) (y4 zb))))) (ze (zj (zt 7 S.nd (zk hu (za 6) (yt (vj (za 5) zc) (xt T.len (z9 (za 6) zb))))))
    (ze (zj (yn (T:=["_law_kind"]) (F:=["_law_feed","_law_heads","_law_there","_law_deep"]) (js:=[0,1,2,4]) 8 S.nd (yj (zk hu (za 7) zc)) (show zm (zd (top 56)) _ _ _ from by walk_at "c") (.cons rfl (.cons rfl (.cons rfl (.cons rfl .nil)))) (by decide) (λcl C fp s H=>(zn (i:=0) (show(["_law_kind","_law_feed","_law_heads","_law_there","_law_deep"]:List Str).Nodup by decide +kernel) rfl (by walk_at "o"))) (zw (by decide)) (yc 0) (λcl C fp s H=>ya) (λcl C fp s H=>(zg z5v hr.d (z9 (za 1) (z9 (za 2) (z9 (za 3) (z9 (za 0) (z9 (uw (za 4) zc) zb)))))))))
    (zi (tf 8 (zp (x9 (z9 (x9 (z9 zh (z9 (zk hu (za 7) zc) (z9 (xn T.tuple (z9 (Xr (T:=["_law_one","_law_more"]) (F:=[]) (js:=[]) (yj (za 8)) (show zm (zd (top 56)) _ _ _ from by walk_at "c") .nil (by decide) (λcl C fp s H=>(wt (K0:=K) (n:=2) (by rfl) (by rfl) (yb (zn (i:=0) (show(["_law_one","_law_more"]:List Str).Nodup by decide +kernel) rfl (by walk_at "o")) (yb (zn (i:=1) (show(["_law_one","_law_more"]:List Str).Nodup by decide +kernel) rfl (by walk_at "o")) wq)))) (uk (ym y9 (xo y9 xc) (zw (by decide)) (ym y9 xc (zw (by decide)) ul))) (v5 0 1) (λcl C fp s H=>ya) (λcl C fp s H=>(za 0))) zb)) zb)))) (z9 (y8 (y8 (y4 (z9 zh (z9 zh (z9 (zk hu (za 7) zc) zb)))) (zg z4y hr.d (z9 (za 8) zb))) (y4 (z9 zh zb))) zb)))))))) y7))
   (ze (zj (zt 9 S.nd (jg (z9 zh (z9 zh zb)) (yt (vj (za 5) zc) zc))))
   (ze (zj (zt 10 S.nd (y4 (z9 zh (z9 zh zb)))))
   (ze (zj (yh (xr hu (za 3) zh) (ze (zt 9 S.nd zh)
    (zi (zt 10 S.nd (y4 (z9 zh (z9 zh zb)))))) y7))
   (ze (zj (yh (xr hu (za 3) zh) (ze (zt 9 S.nd zh)
    (zi (zt 10 S.nd (y4 (z9 zh (z9 zh (z9 zh zb))))))) y7))
   (ze (zj (tf 10 (yn (T:=["_law_kind"]) (F:=["_law_feed","_law_heads","_law_there","_law_deep"]) (js:=[0,1,2,4]) 8 S.nd (yj (za 10)) (show zm (zd (top 56)) _ _ _ from by walk_at "c") (.cons rfl (.cons rfl (.cons rfl (.cons rfl .nil)))) (by decide) (λcl C fp s H=>(zn (i:=0) (show(["_law_kind","_law_feed","_law_heads","_law_there","_law_deep"]:List Str).Nodup by decide +kernel) rfl (by walk_at "o"))) (zw (by decide)) (yc 0) (λcl C fp s H=>ya) (λcl C fp s H=>(zg z5v hr.d (z9 (za 1) (z9 (za 2) (z9 (za 3) (z9 (za 0) (z9 (uw (za 4) zc) zb))))))))))
   (zi (tf 8 (zp (x9 (z9 (xn T.tuple (z9 (y8 (y4 (z9 (za 9) zb)) (Xr (T:=["_law_one","_law_more"]) (F:=[]) (js:=[]) (yj (za 8)) (show zm (zd (top 56)) _ _ _ from by walk_at "c") .nil (by decide) (λcl C fp s H=>(wt (K0:=K) (n:=2) (by rfl) (by rfl) (yb (zn (i:=0) (show(["_law_one","_law_more"]:List Str).Nodup by decide +kernel) rfl (by walk_at "o")) (yb (zn (i:=1) (show(["_law_one","_law_more"]:List Str).Nodup by decide +kernel) rfl (by walk_at "o")) wq)))) (uk (ym y9 (xo y9 xc) (zw (by decide)) (ym y9 xc (zw (by decide)) ul))) (v5 0 1) (λcl C fp s H=>ya) (λcl C fp s H=>(za 0)))) zb)) (z9 (y8 (y8 (y4 (z9 zh (z9 (za 9) zb))) (zg z4y hr.d (z9 (za 8) zb))) (y4 (z9 zh zb))) zb)))))))))))))))),?_⟩
 obtain⟨a0,b0,c0,d0,e0,rfl,rfl,hs,rows,s,rfl,oh,rfl,ot,rfl,hsh,rfl,hn3,h⟩:=hT;refine zf (λρ=>∃c:Int,ρ=[q_ (.fd 0),q_ (.lst (hs.map hdD)),q_ (.lst (rows.map prD)),q_ (.str s),q_ (.int n),q_ (.int c),none,none,none,none,none]) ?_ ?_
 ·walk_at "dl";simp only[fh,ZZ.g1];exact⟨trivial,λc=>⟨trivial,c,rfl⟩⟩
 rintro _ ⟨c,rfl⟩;refine zf (λρ=>∃m:Nat,n=m+1/\ρ=[q_ (.fd 0),q_ (.lst (hs.map hdD)),q_ (.lst (rows.map prD)),q_ (.str s),q_ (.int n),q_ (.int c),none,none,none,none,none]) ?_ ?_
 ·walk_at "dl";simp only[S9,ZZ.g3];have pl:FdOk c 8/\∃(rows':List (Str×Str))(s':Str)(i:Int),D.lst (rows.map prD)=.lst (rows'.map prD)/\OkT rows'/\D.str s=.str s'/\IsSh s'/\D.int (c.fdiv 8)=.int i/\∀e c,ExB e c->(∀fs n,Sh1 fs rows' (n+1) e (some s'))->True/\φ ⟨.new,rowD (e,c)⟩:=⟨of_eq_true (xk (by decide) (by decide)),rows,s,_,rfl,ot,rfl,hsh,rfl,λe c hec hsc=>⟨trivial,h e c (.inl hec) (hsc _ _)⟩⟩
  exact⟨λ_=>pl,λhn=>λc1=>⟨λ_=>pl,λ_=>⟨λ_=>pl,λ_=>⟨n-1,by omega⟩⟩⟩⟩
 rintro _ ⟨m,rfl,rfl⟩;refine zf (λρ=>ρ=[q_ (.fd 0),q_ (.lst (hs.map hdD)),q_ (.lst (rows.map prD)),q_ (.str s),q_ (.int (m+1:Nat)),q_ (.int c),none,none,none,none,none]) ?_ ?_
 ·walk_at "dl"
 rintro _ rfl;refine zf (λρ=>∃os:List Hd,(∀h∈os,h∈hs/\h.shape=s)/\ρ=[q_ (.fd 0),q_ (.lst (hs.map hdD)),q_ (.lst (rows.map prD)),q_ (.str s),q_ (.int (m+1:Nat)),q_ (.int c),Q_ (.lst (os.map hdD)),none,none,none,none]) ?_ ?_
 ·refine zv (hs.map hdD) (λψ hψ=>?_) (λi fs=>Hds hs s fs) (by rw[zLm];have:=oh.ln;omega) Ct ?_ ?_
  ·walk_at "dl";exact hψ
  ·rintro k e fs he hle wd;rw[zai]at he;obtain⟨p,hp,rfl⟩:=zar.mp he;have gp:=zan hp;walk_at "p";simp only[hdD];walk_at "dl";exact⟨λq=>Cu wd ⟨gp,q⟩,λ_=>wd⟩
  ·rintro fs ⟨zs,rfl,hz⟩;exact⟨trivial,zs,hz,rfl⟩
 rintro _ ⟨os,oo,rfl⟩;refine zf (λρ=>ρ=[q_ (.fd 0),q_ (.lst (hs.map hdD)),q_ (.lst (rows.map prD)),q_ (.str s),q_ (.int (m+1:Nat)),q_ (.int c),Q_ (.lst (os.map hdD)),none,none,none,none]) ?_ ?_
 ·refine D7 (decide (c.fmod 8 > 5)&&decide (os≠[])) (λψ hψ=>?_) (λhb=>?_) (λ_=>?_)
  ·have ne:(5<c.fmod 8->okD 40 (D.lst (os.map hdD))/\okD 40 (D.lst [])/\ψ !eqD (D.lst (os.map hdD)) (D.lst []))/\(¬5<c.fmod 8->ψ false):=by
    refine⟨λz=>⟨okHd os,ok0,?_⟩,λz=>?_⟩
    ·have e:(decide (c.fmod 8 > 5)&&decide (os≠[]))=!eqD (D.lst (os.map hdD)) (D.lst []):=by
      cases os with
      |nil=>simp[eqD,eqDs]
      |cons a l =>
       have:decide (c.fmod 8 > 5)=true:=decide_eq_true z;rw[this];rfl
     rw[<- e];exact hψ
    ·rw[show decide (c.fmod 8 > 5)=false from decide_eq_false z]at hψ;exact hψ
   walk_at "dl";exact ne
  ·have hos:os≠[]:=by
    simp only[Bool.and_eq_true,decide_eq_true_eq]at hb;exact hb.2
   have hl0:¬ (os.length:Int)=0:=λz=>hos (List.eq_nil_of_length_eq_zero (by omega))
   obtain⟨w,⟨wm,wsh⟩,ew⟩:=Ds oo hos (c.fdiv 8);have ow:=oh.ok w wm;rw[W0]at ew;refine zf (λρ=>ρ=[q_ (.fd 0),q_ (.lst (hs.map hdD)),q_ (.lst (rows.map prD)),q_ (.str s),q_ (.int (m+1:Nat)),q_ (.int c),Q_ (.lst (os.map hdD)),q_ (hdD w),none,none,none]) ?_ ?_
   ·walk_at "dl";rw[ew];exact⟨of_eq_true (xk (by decide) (by decide)),hl0,rfl⟩
   rintro _ rfl;refine zf (λρ=>∃rs:List (D×List Str),Ua (hfs hs) rows (m+1) w.kinds w.kinds.length (rs.map rowD) rs/\ρ=[q_ (.fd 0),q_ (.lst (hs.map hdD)),q_ (.lst (rows.map prD)),q_ (.str s),q_ (.int (m+1:Nat)),q_ (.int c),Q_ (.lst (os.map hdD)),q_ (hdD w),Q_ (.lst (rs.map rowD)),none,none]) ?_ ?_
   ·refine zv (w.kinds.map D.str) (λψ hψ=>?_) (λi ds=>∃rs,Ua (hfs hs) rows (m+1) w.kinds i ds rs) (by rw[zLm];have:=ow.n4;omega) ⟨[],rfl,rfl,λ_ _ _ z=>by simp at z⟩ ?_ ?_
    ·unfold hdD;walk_at "dl";exact hψ
    ·rintro k e fs he hle ⟨qs,wd⟩;rw[zai]at he;obtain⟨p,hp,rfl⟩:=zar.mp he;walk_at "p";walk_at "dl";exact⟨_,_,_,_,_,rfl,rfl,hs,rows,p,rfl,oh,rfl,ot,rfl,ow.kinds p (zan hp),by rw[show((m+1:Nat):Int)-1=(m:Int) by omega],by omega,λe c hec hsc=>⟨trivial,_,Wg wd hp hec hsc⟩⟩
    ·rintro fs ⟨zs,hz⟩;rw[zLm]at hz;have e:=hz.eq;subst e;exact⟨trivial,zs,hz,rfl⟩
   rintro _ ⟨rs,hR,rfl⟩;obtain⟨hr',hP⟩:=hR.all;have lr:=hR.ln;have l4:=ow.n4;have wl:=Pk hr' (by omega) (by omega)
   simp only[hdD];walk_at "dl";refine ff (rs.map rowD) (λψ hψ=>?_) fstD (by rw[zLm];omega) (λd hd=>?_) ?_
   ·walk_at "dl";exact hψ
   ·obtain⟨r,_,rfl⟩:=zah.mp hd;unfold rowD;walk_at "p";walk_at "dl";rfl
   rw[gy];walk_at "dl";simp only[Y9,ZZ.g1];have key:=h (.tup [.str "call",.str w.name,.tup (rs.map Prod.fst)]) ([lp,"call",w.name]++(rs.map Prod.snd).flatten++[rp]) (.inr (.inl ⟨w.name,_,_,ow.name,fw hr',by rw[zLm];omega,rfl,rfl⟩)) (D2 oh wm wsh hP (by rw[zLm];omega))
   have pu:=xq ([lp,"call",w.name]++wds rs++[rp]);unfold rowD at key;rw[zMa,zMa]at key pu;exact⟨Wf hr',rs,rfl,by omega,by simp only[zLm,zLc,zLn];rw[yy];omega,by simp only[zLa,zLm,zLc,zLn];rw[yy];omega,pu,key⟩
  ·walk_at "dl"
 rintro _ rfl;refine zf (λρ=>∃o:Str,(o = "add"\/o = "sub")/\ρ=[q_ (.fd 0),q_ (.lst (hs.map hdD)),q_ (.lst (rows.map prD)),q_ (.str s),q_ (.int (m+1:Nat)),q_ (.int c),Q_ (.lst (os.map hdD)),none,none,q_ (.str o),none]) ?_ ?_
 ·walk_at "dl";obtain⟨o,ho,eo⟩:=Dt (c.fdiv 8);rw[eo];exact⟨of_eq_true (xk (by decide) (by decide)),trivial,o,ho,rfl⟩
 rintro _ ⟨o,ho,rfl⟩;refine zf (λρ=>∃(o:Str)(ks:List Str),(o = "add"\/o = "sub")/\ks=[("num" : Str),"num"]/\ρ=[q_ (.fd 0),q_ (.lst (hs.map hdD)),q_ (.lst (rows.map prD)),q_ (.str s),q_ (.int (m+1:Nat)),q_ (.int c),Q_ (.lst (os.map hdD)),none,none,q_ (.str o),Q_ (.lst (ks.map D.str))]) ?_ ?_
 ·walk_at "dl";exact⟨o,["num","num"],ho,rfl,rfl⟩
 rintro _ ⟨o,ks,ho,hk,rfl⟩;refine zf (λρ=>∃(o:Str)(ks:List Str),((s = "list"/\o = "cons"/\ks=[("num" : Str),"list"])\/(s≠"list"/\(o = "add"\/o = "sub")/\ks=[("num" : Str),"num"]))/\ρ=[q_ (.fd 0),q_ (.lst (hs.map hdD)),q_ (.lst (rows.map prD)),q_ (.str s),q_ (.int (m+1:Nat)),q_ (.int c),Q_ (.lst (os.map hdD)),none,none,q_ (.str o),Q_ (.lst (ks.map D.str))]) ?_ ?_
 ·walk_at "dl";exact⟨λq=>⟨"cons",["num","list"],.inl ⟨q,rfl,rfl⟩,rfl⟩,λq=>⟨o,ks,.inr ⟨q,ho,hk⟩,rfl⟩⟩
 rintro _ ⟨o,ks,ho,rfl⟩;refine zf (λρ=>∃(o:Str)(ks:List Str),Opk s o ks/\ρ=[q_ (.fd 0),q_ (.lst (hs.map hdD)),q_ (.lst (rows.map prD)),q_ (.str s),q_ (.int (m+1:Nat)),q_ (.int c),Q_ (.lst (os.map hdD)),none,none,q_ (.str o),Q_ (.lst (ks.map D.str))]) ?_ ?_
 ·walk_at "dl";exact⟨λq=>⟨"node",["tree","num","tree"],.inr (.inl ⟨q,rfl,rfl⟩),rfl⟩,λq=>⟨o,ks,ho.elim (λz=>.inl z) λz=>.inr (.inr ⟨z.1,q,z.2⟩),rfl⟩⟩
 rintro _ ⟨o,ks,hop,rfl⟩;obtain⟨ho,hk,hka,hks,_⟩:=Wm hop hsh;refine zf (λρ=>∃(rs:List (D×List Str))(x:Option EV),Ua (hfs hs) rows (m+1) ks ks.length (rs.map rowD) rs/\ρ=[q_ (.fd 0),q_ (.lst (hs.map hdD)),q_ (.lst (rows.map prD)),q_ (.str s),q_ (.int (m+1:Nat)),q_ (.int c),Q_ (.lst (os.map hdD)),none,Q_ (.lst (rs.map rowD)),q_ (.str o),x]) ?_ ?_
 ·walk_at "dl";refine zv (ks.map D.str) (λψ hψ=>?_) (λi ds=>∃rs,Ua (hfs hs) rows (m+1) ks i ds rs) (by rw[zLm];omega) ⟨[],rfl,rfl,λ_ _ _ z=>by simp at z⟩ ?_ ?_
  ·walk_at "dl";exact hψ
  ·rintro k e fs he hle ⟨qs,wd⟩;rw[zai]at he;obtain⟨p,hp,rfl⟩:=zar.mp he;walk_at "p";walk_at "dl";exact⟨_,_,_,_,_,rfl,rfl,hs,rows,p,rfl,oh,rfl,ot,rfl,hks p (zan hp),by rw[show((m+1:Nat):Int)-1=(m:Int) by omega],by omega,λe c hec hsc=>⟨trivial,_,Wg wd hp hec hsc⟩⟩
  ·rintro fs ⟨zs,hz⟩;rw[zLm]at hz;have e:=hz.eq;subst e;walk_at "dl";exact⟨zs,_,hz,rfl⟩
 rintro _ ⟨rs,x,hR,rfl⟩;obtain⟨hr',hP⟩:=hR.all;have lr:=hR.ln;have wl:=Pk hr' (by omega) (by omega)
 walk_at "dl";refine ff (rs.map rowD) (λψ hψ=>?_) fstD (by rw[zLm];omega) (λd hd=>?_) ?_
 ·walk_at "dl";exact hψ
 ·obtain⟨r,_,rfl⟩:=zah.mp hd;unfold rowD;walk_at "p";walk_at "dl";rfl
 rw[gy];walk_at "dl";simp only[Y9,ZZ.g1];have key:=h (.tup (.str o::rs.map Prod.fst)) ([lp,o]++(rs.map Prod.snd).flatten++[rp]) (.inr (.inr ⟨o,_,_,ho,fw hr',by rw[zLm];omega,rfl,rfl⟩)) (z3j hop hsh hP (by rw[zLm];omega))
 have pu:=xq ([lp,o]++wds rs++[rp]);unfold rowD at key;rw[zMa,zMa]at key pu;exact⟨by rw[yy];omega,rs,rfl,by omega,by simp only[zLm,zLc,zLn];rw[yy];omega,by simp only[zLa,zLm,zLc,zLn];rw[yy];omega,⟨Wf hr',pu⟩,key⟩
def L1(T:Tops mg)(F1:FD P w K mg base 1 "_law_next" ["_law_feed"] fh)(F2:FD P w K mg base 1 "_law_plain" ["_law_there","_law_shape","_law_cell"] S9)(F3:FD P w K mg base 1 "_law_flat" ["_law_made"] Y9)(F:Fun K "_law_e" "_law_e" (top 56) f fd)(m:mg "_law_e" = some (.ref f)):∀n:Nat,FD P w K mg base (n+2) "_law_e" ["_law_feed","_law_heads","_law_there","_law_shape","_law_deep"] (tE n)
 |0=>by
  have S:zo ["_law_feed","_law_heads","_law_there","_law_shape","_law_deep","_law_cell","_law_some","_law_head_here","_law_made","_law_word","_law_kinds"] ["_law_feed","_law_heads","_law_there","_law_shape","_law_deep"] (zd (top 56)):=by walk_at "f"
  refine yo F S (F.binds λ_ _ _ _ _ _ us hl=>(by obtain⟨_,_,_,_,_,rfl⟩:=Me hl;rfl)) m λqZ A outer s H E ds φ hr hl hT=>?_
  exact hT.elim
 |n+1=>Hs T F1 F2 F3 (L1 T F1 F2 F3 F m n) F m
def g6(g:D->D->D->D->D->D->(EV->Prop)->Prop):FT:=λds φ=>∃a b c d e f,ds=[a,b,c,d,e,f]/\g a b c d e f φ
def g8(g:D->D->D->D->D->D->D->D->(EV->Prop)->Prop):FT:=λds φ=>∃a b c d e f i j,ds=[a,b,c,d,e,f,i,j]/\g a b c d e f i j φ
structure OkB(n:Nat)(rows:List (Str×Str))(zs:List Str):Prop where
 ot:OkT rows
 rl:rows.length+3*n<=100
 nz:∀z∈zs,IsNm z
 nd:(rows.map Prod.fst++zs).Nodup
 lo:3*n<=zs.length
 hi:zs.length<=100
def OkB.down{n:Nat}{rows:List (Str×Str)}{zs:List Str}(h:OkB (n+1) rows zs):OkB n rows zs:=⟨h.ot,by have:=h.rl;omega,h.nz,h.nd,by have:=h.lo;omega,h.hi⟩
def gc:∀(zs ks:List Str),(zs.take ks.length).zip ks=zs.zip ks
 |zs,[]=>by rw[List.zip_nil_right,List.zip_nil_right]
 |[],k::ks=>rfl
 |z::zs,k::ks=>by
  rw[zLc,List.take_succ_cons,List.zip_cons_cons,List.zip_cons_cons,gc zs ks]
def Ef{zs ks:List Str}(h:ks.length<=zs.length):(zs.zip ks).map Prod.fst=zs.take ks.length:=by
 rw[<- gc,List.map_fst_zip (by rw[List.length_take];omega)]
def OkB.more{n:Nat}{rows:List (Str×Str)}{zs ks:List Str}(h:OkB (n+1) rows zs)(hk:ks.length<=3)(hs:∀ k∈ks,IsSh k):OkB n (rows++zs.zip ks) (zs.drop ks.length)/\Ka rows (zs.zip ks):=by
 have hl:ks.length<=zs.length:=by have:=h.lo;omega
 have e1:=Ef hl;have nd:=h.nd;rw[<- List.take_append_drop ks.length zs,<- List.append_assoc]at nd;have nd1:=(List.nodup_append.mp nd).1;have hm:∀p∈zs.zip ks,IsNm p.1/\IsSh p.2:=λp hp=>by
  obtain⟨a,b⟩:=p;have:=List.of_mem_zip hp;exact⟨h.nz _ this.1,hs _ this.2⟩
 have ln:(zs.zip ks).length=ks.length:=by rw[List.length_zip];omega
 refine⟨⟨⟨λp hp=>?_,by rw[zMa,e1];exact nd1,by rw[zLa,ln];have:=h.rl;omega⟩,by rw[zLa,ln];have:=h.rl;omega,λz hz=>h.nz z (List.mem_of_mem_drop hz),by rw[zMa,e1];exact nd,by rw[List.length_drop];have:=h.lo;omega,by rw[List.length_drop];have:=h.hi;omega⟩,by rw[e1];exact(List.nodup_append.mp nd1).2.1,λp hp=>(hm p hp).1,λp hp hq=>?_,by rw[ln];exact hk⟩
 ·rcases zas.mp hp with hp|hp
  ·exact h.ot.nm p hp
  ·exact hm p hp
 ·have m1:p.1∈zs.take ks.length:=by rw[<- e1];exact zah.mpr ⟨p,hp,rfl⟩
  exact(List.nodup_append.mp nd1).2.2 p.1 hq p.1 m1 rfl
theorem On{fs:List Fn}{env:List (Str×Str)}:∀{n:Nat}{e:D}{r:Option Str},Sh1 fs env n e r->Sh1 fs env (n+1) e r
 |0,_,_,h=>h.elim
 |n+1,e,r,h=>by
  rcases h with h|h|⟨f,es,rs,he,hp,hl,hc⟩|⟨o,es,rs,n1,n2,n3,he,hp,hl,hc⟩
  ·exact .inl h
  ·exact .inr (.inl h)
  ·exact .inr (.inr (.inl ⟨f,es,rs,he,⟨hp.1,λi e c a b=>On (hp.2 i e c a b)⟩,hl,hc⟩))
  ·exact .inr (.inr (.inr ⟨o,es,rs,n1,n2,n3,he,⟨hp.1,λi e c a b=>On (hp.2 i e c a b)⟩,hl,hc⟩))
def Oc:Nat->FT
 |0=>λ_ _=>False
 |n+1=>g6 λfe he th na sh de φ=>fe=.fd 0/\∃(hs:List Hd)(rows:List (Str×Str))(zs:List Str)(s:Str),he=.lst (hs.map hdD)/\OkHs hs/\th=.lst (rows.map prD)/\OkB n rows zs/\na=.lst (zs.map D.str)/\sh=.str s/\IsSh s/\de=.int n/\n<=4/\∀b c,Bo (n+1) b c->Rb (hfs hs) s 4 (n+1) rows b->φ ⟨.new,rowD (b,c)⟩
def A7(n:Nat):FT:=g8 λfe he th na sh de op ki φ=>fe=.fd 0/\∃(hs:List Hd)(rows:List (Str×Str))(zs:List Str)(s:Str)(o k:Str),he=.lst (hs.map hdD)/\OkHs hs/\th=.lst (rows.map prD)/\OkB n rows zs/\na=.lst (zs.map D.str)/\sh=.str s/\IsSh s/\de=.int n/\1<=n/\n<=4/\op=.str o/\(IsNm o/\rn rows o=some k)/\ki=.str k/\(k = "list"\/k = "tree")/\∀b c,Bo (n+1) b c->Rb (hfs hs) s 4 (n+1) rows b->φ ⟨.new,rowD (b,c)⟩
def Ke(k o:Str)(c1 zs c2:List Str):bk [k,o] [c1,brW zs,c2]=lp::k::o::(c1++[lp]++zs++[rp]++c2++[rp]):=by
 simp[bk,brW]
def Qd{k:Str}(hk:k = "list"\/k = "tree"):∃ks:List Str,Zy k=some ks/\(∀j∈ks,IsSh j)/\ks.length<=3/\ks≠[]/\(ks.length=if k = "tree" then 3 else 2)/\atI [df (D.lst [.str "num",.str "list"]),df (D.lst [.str "tree",.str "num",.str "tree"])] (if k = "tree" then 1 else 0)=some (df (.lst (ks.map D.str))):=by
 rcases hk with rfl|rfl
 ·exact⟨["num","list"],by decide,λj hj=>by simp at hj;rcases hj with rfl|rfl <;> simp[IsSh],by decide,by decide,by decide,by rw[if_neg (by decide),bj];rfl⟩
 ·exact⟨["tree","num","tree"],by decide,λj hj=>by simp at hj;rcases hj with rfl|rfl|rfl <;> simp[IsSh],by decide,by decide,by decide,by rw[if_pos rfl,bh];rfl⟩
def Th{n:Nat}(T:Tops mg)(z4u:FD P w K mg base (2*n+7) "_law_body" ["_law_feed","_law_heads","_law_there","_law_names","_law_shape","_law_deep"] (Oc n))(F:Fun K "_law_open" "_law_open" (top 57) f fd)(m:mg "_law_open" = some (.ref f)):FD P w K mg base (2*n+8) "_law_open" ["_law_feed","_law_heads","_law_there","_law_names","_law_shape","_law_deep","_law_opened","_law_kind"] (A7 n):=by
 have S:zo ["_law_feed","_law_heads","_law_there","_law_names","_law_shape","_law_deep","_law_opened","_law_kind","_law_kinds","_law_some","_law_brought","_law_first","_law_other","_law_words"] ["_law_feed","_law_heads","_law_there","_law_names","_law_shape","_law_deep","_law_opened","_law_kind"] (zd (top 57)):=by walk_at "f"
 walk_at "b";refine⟨_,(ze (zj (zt 8 S.nd (jg (z9 (y4 (z9 zh (z9 zh zb))) (z9 (y4 (z9 zh (z9 zh (z9 zh zb)))) zb)) (Tu T.int (z9 (Xq hu (za 7) zh) zb)))))
   (ze (zj (yn (T:=["_law_k"]) (F:=["_law_names","_law_kinds"]) (js:=[3,8]) 9 S.nd (vf T.range (z9 (xt T.len (z9 (za 8) zb)) zb)) (show zm (zd (top 57)) _ _ _ from by walk_at "c") (.cons rfl (.cons rfl .nil)) (by decide) (λcl C fp s H=>(zn (i:=0) (show(["_law_k","_law_names","_law_kinds"]:List Str).Nodup by decide +kernel) rfl (by walk_at "o"))) (zw (by decide)) (yc 0) (λcl C fp s H=>ya) (λcl C fp s H=>(x9 (z9 (zk hu (za 1) (za 0)) (z9 (zk hu (za 2) (za 0)) zb))))))
   (ze (zj (zt 10 S.nd (xf (za 3) vi (x8 (xt T.len (z9 (za 8) zb))))))
   (ze (zj (zt 11 S.nd (zg z4u hr.d (z9 (za 0) (z9 (za 1) (z9 (za 2) (z9 (za 3) (z9 (za 4) (z9 (uw (za 5) zc) zb)))))))))
   (ze (zj (zt 12 S.nd (zg z4u hr.d (z9 (za 0) (z9 (za 1) (z9 (y8 (za 2) (za 9)) (z9 (xf (za 3) (x8 (xt T.len (z9 (za 8) zb))) vi) (z9 (za 4) (z9 (uw (za 5) zc) zb)))))))))
   (ze (zj (zt 13 S.nd (y8 (y8 (y8 (y8 (y8 (y8 (y4 (z9 zh (z9 (za 7) (z9 (za 6) zb)))) (zk hu (za 11) zc)) (y4 (z9 zh zb))) (za 10)) (y4 (z9 zh zb))) (zk hu (za 12) zc)) (y4 (z9 zh zb)))))
   (zi (Oq (z9 (Ld (Ld (x9 (z9 (za 7) (z9 (za 6) (z9 (zk hu (za 11) zc) zb)))) (xn T.tuple (z9 (za 10) zb))) (x9 (z9 (zk hu (za 12) zc) zb))) (z9 (za 13) zb)))))))))),?_⟩
 obtain⟨a0,b0,c0,d0,e0,f0,g0,h0,rfl,rfl,hs,rows,zs,s,o,k,rfl,oh,rfl,ob,rfl,rfl,hsh,rfl,hn1,hn4,rfl,⟨go,gr⟩,rfl,hk,h⟩:=hT;obtain⟨m,rfl⟩:∃m,n=m+1:=⟨n-1,by omega⟩
 obtain⟨ks,hbt,hks,kl1,kl2,kle,eks⟩:=Qd hk;have kl:ks.length<=3/\ks≠[]:=⟨kl1,kl2⟩;have oz1:=ob.nz;have oz2:=ob.lo;have oz3:=ob.hi;have or2:=ob.rl;obtain⟨obm,fr⟩:=ob.more kl1 hks;have zkl:(zs.zip ks).length=ks.length:=by rw[List.length_zip];omega
 refine zf (λρ=>ρ=[q_ (.fd 0),q_ (.lst (hs.map hdD)),q_ (.lst (rows.map prD)),q_ (.lst (zs.map D.str)),q_ (.str s),q_ (.int (m+1:Nat)),q_ (.str o),q_ (.str k),Q_ (.lst (ks.map D.str)),none,none,none,none,none]) ?_ ?_
 ·walk_at "dl";rw[eks];exact⟨trivial,rfl⟩
 rintro _ rfl;refine zf (λρ=>∃more:List (Str×Str),more=zs.zip ks/\ρ=[q_ (.fd 0),q_ (.lst (hs.map hdD)),q_ (.lst (rows.map prD)),q_ (.lst (zs.map D.str)),q_ (.str s),q_ (.int (m+1:Nat)),q_ (.str o),q_ (.str k),Q_ (.lst (ks.map D.str)),Q_ (.lst (more.map prD)),none,none,none,none]) ?_ ?_
 ·refine zv (rngD 0 ks.length) (λψ hψ=>?_) (λi fs=>fs=((zs.zip ks).take i).map prD) (by rw[vc];omega) rfl ?_ ?_
  ·walk_at "dl";rw[Int.toNat_natCast];exact⟨by omega,by omega,hψ⟩
  ·rintro i e fs he hle rfl;obtain⟨hi,rfl⟩:=ub he;walk_at "p";walk_at "dl";rw[xh1 (by omega),zaf (by omega),xh1 hi,zaf hi]
   refine⟨⟨trivial,trivial⟩,?_⟩;have ez:(zs.zip ks)[i]?=some (zs[i]'(by omega),ks[i]):=List.getElem?_zip_eq_some.mpr ⟨zaf _,zaf hi⟩
   rw[List.take_succ,ez,zMa];rfl
  ·rintro fs rfl;rw[vc,List.take_of_length_le (by omega)]
   exact⟨trivial,_,rfl,rfl⟩
 rintro _ ⟨more,hmo,rfl⟩;have hm2:more.length<=3:=by rw[hmo];omega
 refine zf (λρ=>ρ=[q_ (.fd 0),q_ (.lst (hs.map hdD)),q_ (.lst (rows.map prD)),q_ (.lst (zs.map D.str)),q_ (.str s),q_ (.int (m+1:Nat)),q_ (.str o),q_ (.str k),Q_ (.lst (ks.map D.str)),Q_ (.lst (more.map prD)),Q_ (.lst ((zs.take ks.length).map D.str)),none,none,none]) ?_ ?_
 ·walk_at "dl";rw[Lr,<- List.map_take]
 rintro _ rfl;refine zf (λρ=>∃b1 c1,Bo (m+1) b1 c1/\Rb (hfs hs) s 4 (m+1) rows b1/\ρ=[q_ (.fd 0),q_ (.lst (hs.map hdD)),q_ (.lst (rows.map prD)),q_ (.lst (zs.map D.str)),q_ (.str s),q_ (.int (m+1:Nat)),q_ (.str o),q_ (.str k),Q_ (.lst (ks.map D.str)),Q_ (.lst (more.map prD)),Q_ (.lst ((zs.take ks.length).map D.str)),q_ (rowD (b1,c1)),none,none]) ?_ ?_
 ·walk_at "dl";exact⟨_,_,_,_,_,_,rfl,rfl,hs,rows,zs,s,rfl,oh,rfl,ob.down,rfl,rfl,hsh,by rw[show((m+1:Nat):Int)-1=(m:Int) by omega],by omega,λb c hbc hrb=>⟨trivial,b,c,hbc,hrb,rfl⟩⟩
 rintro _ ⟨b1,c1,hb1,hr1,rfl⟩;refine zf (λρ=>∃b2 c2,Bo (m+1) b2 c2/\Rb (hfs hs) s 4 (m+1) (rows++more) b2/\ρ=[q_ (.fd 0),q_ (.lst (hs.map hdD)),q_ (.lst (rows.map prD)),q_ (.lst (zs.map D.str)),q_ (.str s),q_ (.int (m+1:Nat)),q_ (.str o),q_ (.str k),Q_ (.lst (ks.map D.str)),Q_ (.lst (more.map prD)),Q_ (.lst ((zs.take ks.length).map D.str)),q_ (rowD (b1,c1)),q_ (rowD (b2,c2)),none]) ?_ ?_
 ·walk_at "dl";refine⟨by rw[yy];omega,_,_,_,_,_,_,rfl,rfl,hs,rows++more,zs.drop ks.length,s,rfl,oh,by rw[zMa],by rw[hmo];exact obm,by rw[wf,List.map_drop],rfl,hsh,by rw[show((m+1:Nat):Int)-1=(m:Int) by omega],by omega,λb c hbc hrb=>⟨trivial,b,c,hbc,hrb,rfl⟩⟩
 rintro _ ⟨b2,c2,hb2,hr2,rfl⟩;refine zf (λρ=>ρ=[q_ (.fd 0),q_ (.lst (hs.map hdD)),q_ (.lst (rows.map prD)),q_ (.lst (zs.map D.str)),q_ (.str s),q_ (.int (m+1:Nat)),q_ (.str o),q_ (.str k),Q_ (.lst (ks.map D.str)),Q_ (.lst (more.map prD)),Q_ (.lst ((zs.take ks.length).map D.str)),q_ (rowD (b1,c1)),q_ (rowD (b2,c2)),Q_ (.lst ((bk [k,o] [c1,brW (zs.take ks.length),c2]).map D.str))]) ?_ ?_
 ·have f1:=(yu _ _ _ hb1).2.1;have f2:=(yu _ _ _ hb2).2.1;have f3:=qb (n:=m+1) (by omega)
  have f4:=wg c1;have f5:=wg c2;have f6:=List.length_take_le ks.length zs;rw[Ke];unfold rowD;walk_at "dl";simp only[zLa,zLm,zLc,zLn,zMa];rw[yy];exact⟨by omega,by omega,by omega,by omega,by omega,by omega,rfl⟩
 rintro _ rfl;have f1:=(yu _ _ _ hb1).2.2;have f2:=(yu _ _ _ hb2).2.2;have f6:=List.length_take_le ks.length zs;have key:=h (.tup ([.str k,.str o,b1]++(zs.take ks.length).map D.str++[b2])) (bk [k,o] [c1,brW (zs.take ks.length),c2]) (.inr (.inr (.inr ⟨k,o,b1,c1,zs.take ks.length,b2,c2,hk,go,hb1,λw hw=>oz1 w (List.mem_of_mem_take hw),λz=>?_,⟨by omega,by rw[List.length_take,Nat.min_eq_left (by omega)];exact kle⟩,hb2,rfl,rfl⟩))) (.inr (.inr (.inr ⟨k,o,b1,zs.take ks.length,ks,b2,hbt,gr,by rw[List.length_take];omega,by rw[gc];exact fr,hr1,by rw[gc,<- hmo];exact hr2,rfl⟩)))
 ·unfold rowD;walk_at "dl";unfold rowD at key;exact⟨f1,xq _,by rw[yy];omega,f2,by rw[yy];omega,xq _,key⟩
 ·have:=congrArg List.length z;rw[List.length_take,zLn]at this;have:=List.length_pos_iff.mpr kl.2;omega
def z0j(x:Int):∃k:Str,IsSh k/\atI [dv (D.str "num"),dv (D.str "list"),dv (D.str "tree")] (x.fmod 3)=q_ (.str k):=by
 have m:=x4 x 3 (by decide)
 rcases(by omega:x.fmod 3=0\/x.fmod 3=1\/x.fmod 3=2) with e|e|e
 ·exact⟨"num",.inl rfl,by rw[e,bj]⟩
 ·exact⟨"list",.inr (.inl rfl),by rw[e,bh]⟩
 ·exact⟨"tree",.inr (.inr rfl),by rw[e,K4]⟩
def bk1(k:List Str):bk ["give"] [k]=[lp,"give"]++k++[rp]:=by simp[bk]
def bk2(z:Str)(q c:List Str):bk ["let",z] [q,c]=[lp,"let",z]++q++c++[rp]:=by simp[bk]
def Ox{tc:TDb}{t1 t2:TDS}{ρ:DE}{Z:DZ}{Q:Prop}(h:∀ ψ:Bool->Prop,(∀ b,(b=false->Q)->ψ b)->tc ρ ψ)(h1:t1 ρ Z)(h2:Q->t2 ρ Z):sIf tc t1 t2 ρ Z:=h _ λb q=>⟨λ_=>h1,λhb=>h2 (q hb)⟩
def Dr(b:Bool):∃k:Str,(k = "list"\/k = "tree")/\atI [dv (D.str "list"),dv (D.str "tree")] (if b=true then 1 else 0)=q_ (.str k):=by
 cases b
 ·exact⟨"list",.inl rfl,by rw[if_neg (by decide),bj]⟩
 ·exact⟨"tree",.inr rfl,by rw[if_pos rfl,bh]⟩
def Tq{n:Nat}(T:Tops mg)(F2__law_e:FD P w K mg base 5 "_law_e" ["_law_feed","_law_heads","_law_there","_law_shape","_law_deep"] (tE 3))(z5l:FD P w K mg base 1 "_law_next" ["_law_feed"] fh)(z4y:FD P w K mg base 1 "_law_flat" ["_law_made"] Y9)(z5v:FD P w K mg base 6 "_law_e" ["_law_feed","_law_heads","_law_there","_law_shape","_law_deep"] (tE 4))(z4u:FD P w K mg base (2*n+7) "_law_body" ["_law_feed","_law_heads","_law_there","_law_names","_law_shape","_law_deep"] (Oc n))(z7j:FD P w K mg base (2*n+8) "_law_open" ["_law_feed","_law_heads","_law_there","_law_names","_law_shape","_law_deep","_law_opened","_law_kind"] (A7 n))(F:Fun K "_law_body" "_law_body" (top 58) f fd)(m:mg "_law_body" = some (.ref f)):FD P w K mg base (2*n+9) "_law_body" ["_law_feed","_law_heads","_law_there","_law_names","_law_shape","_law_deep"] (Oc (n+1)):=by
 have S:zo ["_law_feed","_law_heads","_law_there","_law_names","_law_shape","_law_deep","_law_cell","_law_way","_law_made","_law_kind","_law_body_here","_law_some"] ["_law_feed","_law_heads","_law_there","_law_names","_law_shape","_law_deep"] (zd (top 58)):=by walk_at "f"
 walk_at "b";refine⟨_,(ze (zj (zt 6 S.nd (zg z5l hr.d (z9 (za 0) zb))))
   (ze (zj (zt 7 S.nd (yt (za 6) zc)))
   (ze (zj (yh (EW.et (tz (Xm (za 7) zc) (tz (Xm (za 5) zc) (um (Xm (Rr 0) zc))))) (ze (zj (zt 8 S.nd (zg z5v hr.d (z9 (za 0) (z9 (za 1) (z9 (za 2) (z9 (za 4) (z9 zc zb))))))))
    (zi (zp (x9 (z9 (x9 (z9 zh (z9 (zk hu (za 8) zc) zb))) (z9 (y8 (y8 (y4 (z9 zh (z9 zh zb))) (zk hu (za 8) zc)) (y4 (z9 zh zb))) zb)))))) y7))
   (ze (zj (Sf 0 (uw (Rr 0) zc)))
   (ze (zj (yh (Xm (za 7) zc) (ze (zj (zt 9 S.nd (jg (z9 zh (z9 zh (z9 zh zb))) (yt (vj (za 6) zc) zc))))
    (ze (zj (zt 8 S.nd (zg F2__law_e hr.d (z9 (za 0) (z9 (za 1) (z9 (za 2) (z9 (za 9) (z9 zc zb))))))))
    (ze (zj (zt 10 S.nd (zg z4u hr.d (z9 (za 0) (z9 (za 1) (z9 (y8 (za 2) (y4 (z9 (x9 (z9 (zk hu (za 3) zc) (z9 (za 9) zb))) zb))) (z9 (xf (za 3) (x8 zc) vi) (z9 (za 4) (z9 (uw (za 5) zc) zb)))))))))
    (zi (zp (x9 (z9 (x9 (z9 zh (z9 (zk hu (za 3) zc) (z9 (zk hu (za 8) zc) (z9 (zk hu (za 10) zc) zb))))) (z9 (y8 (y8 (y8 (y4 (z9 zh (z9 zh (z9 (zk hu (za 3) zc) zb)))) (zk hu (za 8) zc)) (zk hu (za 10) zc)) (y4 (z9 zh zb))) zb)))))))) y7))
   (ze (zj (zt 9 S.nd (jg (z9 zh (z9 zh zb)) (Tu T.int (z9 (z4l (za 7) zc) zb)))))
   (ze (zj (yn (T:=["_law_name_here","_law_one"]) (F:=["_law_kind"]) (js:=[9]) 11 S.nd (yj (za 2)) (show zm (zd (top 58)) _ _ _ from by walk_at "c") (.cons rfl .nil) (by decide) (λcl C fp s H=>(wt (K0:=K) (n:=2) (by rfl) (by rfl) (yb (zn (i:=0) (show(["_law_name_here","_law_one","_law_kind"]:List Str).Nodup by decide +kernel) rfl (by walk_at "o")) (yb (zn (i:=1) (show(["_law_name_here","_law_one","_law_kind"]:List Str).Nodup by decide +kernel) rfl (by walk_at "o")) wq)))) (uk (ym y9 (xo y9 xc) (zw (by decide)) (ym y9 xc (zw (by decide)) ul))) (v5 0 1) (λcl C fp s H=>(ci (xr hu (za 1) (za 2)))) (λcl C fp s H=>(za 0))))
   (ze (zj (yh (EW.et (rf (Xm (za 7) zc) (qe (qf hu (za 11) (y4 zb))))) (zi (zp (zg z7j hr.d (z9 (za 0) (z9 (za 1) (z9 (za 2) (z9 (za 3) (z9 (za 4) (z9 (za 5) (z9 (zk hu (za 11) (yt (vj (za 6) zc) (xt T.len (z9 (za 11) zb)))) (z9 (za 9) zb))))))))))) y7))
   (ze (zj (zt 8 S.nd (y4 (z9 (zg F2__law_e hr.d (z9 (za 0) (z9 (za 1) (z9 (za 2) (z9 zh (z9 zc zb)))))) (z9 (zg F2__law_e hr.d (z9 (za 0) (z9 (za 1) (z9 (za 2) (z9 zh (z9 zc zb)))))) zb)))))
   (ze (zj (qo 8 (zg z4u hr.d (z9 (za 0) (z9 (za 1) (z9 (za 2) (z9 (za 3) (z9 (za 4) (z9 (uw (za 5) zc) zb)))))))))
   (ze (zj (qo 8 (zg z4u hr.d (z9 (za 0) (z9 (za 1) (z9 (za 2) (z9 (za 3) (z9 (za 4) (z9 (uw (za 5) zc) zb)))))))))
   (zi (tf 8 (zp (x9 (z9 (xn T.tuple (z9 (y8 (y4 (z9 zh zb)) (Xr (T:=["_law_one","_law_more"]) (F:=[]) (js:=[]) (yj (za 8)) (show zm (zd (top 58)) _ _ _ from by walk_at "c") .nil (by decide) (λcl C fp s H=>(wt (K0:=K) (n:=2) (by rfl) (by rfl) (yb (zn (i:=0) (show(["_law_one","_law_more"]:List Str).Nodup by decide +kernel) rfl (by walk_at "o")) (yb (zn (i:=1) (show(["_law_one","_law_more"]:List Str).Nodup by decide +kernel) rfl (by walk_at "o")) wq)))) (uk (ym y9 (xo y9 xc) (zw (by decide)) (ym y9 xc (zw (by decide)) ul))) (v5 0 1) (λcl C fp s H=>ya) (λcl C fp s H=>(za 0)))) zb)) (z9 (y8 (y8 (y4 (z9 zh (z9 zh zb))) (zg z4y hr.d (z9 (za 8) zb))) (y4 (z9 zh zb))) zb))))))))))))))))),?_⟩
 obtain⟨a0,b0,c0,d0,e0,f0,rfl,rfl,hs,rows,zs,s,rfl,oh,rfl,ob,rfl,rfl,hsh,rfl,hn4,h⟩:=hT;have oz1:=ob.nz;have oz2:=ob.lo;have oz3:=ob.hi;have or2:=ob.rl;have ot:=ob.ot;refine zf (λρ=>∃c:Int,ρ=[q_ (.fd 0),q_ (.lst (hs.map hdD)),q_ (.lst (rows.map prD)),q_ (.lst (zs.map D.str)),q_ (.str s),q_ (.int n),q_ (.int c),none,none,none,none,none]) ?_ ?_
 ·walk_at "dl";simp only[fh,ZZ.g1];exact⟨trivial,λc=>⟨trivial,c,rfl⟩⟩
 rintro _ ⟨c,rfl⟩;refine zf (λρ=>ρ=[q_ (.fd 0),q_ (.lst (hs.map hdD)),q_ (.lst (rows.map prD)),q_ (.lst (zs.map D.str)),q_ (.str s),q_ (.int n),q_ (.int c),q_ (.int (c.fmod 8)),none,none,none,none]) ?_ ?_
 ·walk_at "dl"
 rintro _ rfl;refine zf (λρ=>∃m:Nat,n=m+1/\ρ=[q_ (.fd 0),q_ (.lst (hs.map hdD)),q_ (.lst (rows.map prD)),q_ (.lst (zs.map D.str)),q_ (.str s),q_ (.int n),q_ (.int c),q_ (.int (c.fmod 8)),none,none,none,none]) ?_ ?_
 ·refine Ox (Q:=1<=n) (λψ hψ=>?_) ?_ (λq=>?_)
  ·walk_at "dl";have t:ψ true:=hψ true λz=>(nomatch z);exact⟨λ_=>t,λ_=>⟨λ_=>t,λhn=>λc1=>hψ _ λ_=>by omega⟩⟩
  ·refine zf (λρ=>∃e k,Ex1 4 e k/\Sh1 (hfs hs) rows 4 e (some s)/\ρ=[q_ (.fd 0),q_ (.lst (hs.map hdD)),q_ (.lst (rows.map prD)),q_ (.lst (zs.map D.str)),q_ (.str s),q_ (.int n),q_ (.int c),q_ (.int (c.fmod 8)),q_ (rowD (e,k)),none,none,none]) ?_ ?_
   ·walk_at "dl";exact⟨_,_,_,_,_,rfl,rfl,hs,rows,s,rfl,oh,rfl,ot,rfl,hsh,rfl,by decide,λe k hek hse=>⟨trivial,e,k,hek,hse,rfl⟩⟩
   rintro _ ⟨e,k,hek,hse,rfl⟩;have ef:=yr 4 e k hek;have lk:=wg k;have l4:=LE4;have key:=h (.tup [.str "give",e]) (bk ["give"] [k]) (.inl ⟨e,k,hek,rfl,rfl⟩) (.inl ⟨e,hse,rfl⟩);have pu:=xq (bk ["give"] [k]);rw[bk1]at key pu;unfold rowD at key ⊢;simp only[zMa,List.map_cons,List.map_nil,List.cons_append,List.nil_append]at key pu;walk_at "dl";exact⟨ef.2.2,by rw[yy];omega,by rw[yy];omega,pu.2.2,key⟩
  ·walk_at "dl";exact⟨n-1,by omega⟩
 rintro _ ⟨m,rfl,rfl⟩;refine zf (λρ=>ρ=[q_ (.fd 0),q_ (.lst (hs.map hdD)),q_ (.lst (rows.map prD)),q_ (.lst (zs.map D.str)),q_ (.str s),q_ (.int (m+1:Nat)),q_ (.int c),q_ (.int (c.fmod 8)),none,none,none,none]) ?_ ?_
 ·walk_at "dl"
 rintro _ rfl;refine zf (λρ=>ρ=[q_ (.fd 0),q_ (.lst (hs.map hdD)),q_ (.lst (rows.map prD)),q_ (.lst (zs.map D.str)),q_ (.str s),q_ (.int (m+1:Nat)),q_ (.int c),q_ (.int (c.fmod 8)),none,none,none,none]) ?_ ?_
 ·refine D7 (decide (c.fmod 8<4)) (λψ hψ=>?_) (λ_=>?_) (λ_=>?_)
  ·walk_at "dl";exact hψ
  ·obtain⟨k,hks,ek⟩:=z0j (c.fdiv 8);refine zf (λρ=>ρ=[q_ (.fd 0),q_ (.lst (hs.map hdD)),q_ (.lst (rows.map prD)),q_ (.lst (zs.map D.str)),q_ (.str s),q_ (.int (m+1:Nat)),q_ (.int c),q_ (.int (c.fmod 8)),none,q_ (.str k),none,none]) ?_ ?_
   ·walk_at "dl";rw[ek];exact⟨of_eq_true (xk (by decide) (by decide)),trivial,rfl⟩
   rintro _ rfl;refine zf (λρ=>∃e q,Ex1 4 e q/\Sh1 (hfs hs) rows 4 e (some k)/\ρ=[q_ (.fd 0),q_ (.lst (hs.map hdD)),q_ (.lst (rows.map prD)),q_ (.lst (zs.map D.str)),q_ (.str s),q_ (.int (m+1:Nat)),q_ (.int c),q_ (.int (c.fmod 8)),q_ (rowD (e,q)),q_ (.str k),none,none]) ?_ ?_
   ·walk_at "dl";exact⟨_,_,_,_,_,rfl,rfl,hs,rows,k,rfl,oh,rfl,ot,rfl,hks,rfl,by decide,λe k hek hse=>⟨trivial,e,k,L5 hek,On hse,rfl⟩⟩
   rintro _ ⟨e,q,hek,hse,rfl⟩;obtain⟨obm,fr⟩:=ob.more (ks:=[k]) (by simp) (λj hj=>by rw[List.mem_singleton.mp hj];exact hks)
   obtain⟨z0,zr,rfl⟩:∃z0 zr,zs=z0::zr:=by
    cases zs with
    |nil=>simp at oz2
    |cons a b=>exact⟨a,b,rfl⟩
   have gz:=oz1 z0 zao;rw[zLc]at oz2 oz3;refine zf (λρ=>∃b1 c1,Bo (m+1) b1 c1/\Rb (hfs hs) s 4 (m+1) (rows++[(z0,k)]) b1/\ρ=[q_ (.fd 0),q_ (.lst (hs.map hdD)),q_ (.lst (rows.map prD)),q_ (.lst ((z0::zr).map D.str)),q_ (.str s),q_ (.int (m+1:Nat)),q_ (.int c),q_ (.int (c.fmod 8)),q_ (rowD (e,q)),q_ (.str k),q_ (rowD (b1,c1)),none]) ?_ ?_
   ·walk_at "dl";refine⟨by rw[yy];omega,_,_,_,_,_,_,rfl,rfl,hs,rows++[(z0,k)],zr,s,rfl,oh,by rw[zMa];rfl,by have:=obm;rw[List.zip_cons_cons,List.zip_nil_right]at this;exact this,congrArg D.lst (wf (D.str z0::zr.map D.str) 1),rfl,hsh,by rw[show((m+1:Nat):Int)-1=(m:Int) by omega],by omega,λb c hbc hrb=>⟨trivial,b,c,hbc,hrb,rfl⟩⟩
   rintro _ ⟨b1,c1,hb1,hr1,rfl⟩;have ef:=yr 4 e q hek;have bf:=yu _ _ _ hb1;have lk:=wg q;have lk1:=wg c1;have l4:=LE4;have f3:=qb (n:=m+1) (by omega)
   have key:=h (.tup [.str "let",.str z0,e,b1]) (bk ["let",z0] [q,c1]) (.inr (.inl ⟨z0,e,q,b1,c1,gz,hek,hb1,rfl,rfl⟩)) (.inr (.inl ⟨z0,e,k,b1,hse,by have:=fr;rw[List.zip_cons_cons,List.zip_nil_right]at this;exact this,hr1,rfl⟩))
   have pu:=xq (bk ["let",z0] [q,c1]);rw[bk2]at key pu;unfold rowD at key ⊢;simp only[zMa,List.map_cons,List.map_nil,List.cons_append,List.nil_append]at key pu;walk_at "dl";exact⟨⟨ef.2.2,bf.2.2⟩,by rw[yy];omega,by rw[yy];omega,by rw[zLa,zLm,zLm,yy];omega,pu.2.2.2,key⟩
  ·walk_at "dl"
 rintro _ rfl;refine zf (λρ=>∃k:Str,(k = "list"\/k = "tree")/\ρ=[q_ (.fd 0),q_ (.lst (hs.map hdD)),q_ (.lst (rows.map prD)),q_ (.lst (zs.map D.str)),q_ (.str s),q_ (.int (m+1:Nat)),q_ (.int c),q_ (.int (c.fmod 8)),none,q_ (.str k),none,none]) ?_ ?_
 ·obtain⟨k,hk,ek⟩:=Dr (decide (5<c.fmod 8));simp only[decide_eq_true_eq]at ek;walk_at "dl";rw[ek];exact⟨trivial,k,hk,rfl⟩
 rintro _ ⟨k,hk,rfl⟩;refine zf (λρ=>∃ws:List Str,(∀w∈ws,IsNm w/\rn rows w=some k)/\ρ=[q_ (.fd 0),q_ (.lst (hs.map hdD)),q_ (.lst (rows.map prD)),q_ (.lst (zs.map D.str)),q_ (.str s),q_ (.int (m+1:Nat)),q_ (.int c),q_ (.int (c.fmod 8)),none,q_ (.str k),none,Q_ (.lst (ws.map D.str))]) ?_ ?_
 ·refine zv (rows.map prD) (λψ hψ=>?_) (λi fs=>WdT rows k fs) (by rw[zLm];omega) Ge ?_ ?_
  ·walk_at "dl";exact hψ
  ·rintro i e fs he hle wd;rw[zai]at he;obtain⟨p,hp,rfl⟩:=zar.mp he;have gp:=ot.nm p (zan hp);walk_at "p";simp only[prD];walk_at "dl";exact⟨λq=>Gf wd ⟨gp.1,Yl ot.nd (by have:=zan hp;rw[<- q];exact this)⟩,λ_=>wd⟩
  ·rintro fs ⟨ws,rfl,hz⟩;exact⟨trivial,ws,hz,rfl⟩
 rintro _ ⟨ws,hws,rfl⟩;refine zf (λρ=>ρ=[q_ (.fd 0),q_ (.lst (hs.map hdD)),q_ (.lst (rows.map prD)),q_ (.lst (zs.map D.str)),q_ (.str s),q_ (.int (m+1:Nat)),q_ (.int c),q_ (.int (c.fmod 8)),none,q_ (.str k),none,Q_ (.lst (ws.map D.str))]) ?_ ?_
 ·walk_at "dl";refine λ_=>⟨okW ws,ok0,λhne=>?_⟩;have hwn:ws≠[]:=λz=>by
   subst z;exact absurd hne (by decide)
  have hl0:¬ (ws.length:Int)=0:=λz=>hwn (List.eq_nil_of_length_eq_zero (by omega))
  obtain⟨w,gw,ew⟩:=Na hws hwn (c.fdiv 8);rw[W0]at ew;rw[ew];exact⟨of_eq_true (xk (by decide) (by decide)),hl0,_,_,_,_,_,_,_,_,rfl,rfl,hs,rows,zs,s,w,k,rfl,oh,rfl,ob,rfl,rfl,hsh,rfl,by omega,by omega,rfl,gw,rfl,hk,λb c hbc hrb=>⟨trivial,h b c hbc hrb⟩⟩
 rintro _ rfl;refine zf (λρ=>∃e1 k1 e2 k2,Ex1 4 e1 k1/\Ex1 4 e2 k2/\Sh1 (hfs hs) rows 4 e1 (some ("num" : Str))/\Sh1 (hfs hs) rows 4 e2 (some ("num" : Str))/\ρ=[q_ (.fd 0),q_ (.lst (hs.map hdD)),q_ (.lst (rows.map prD)),q_ (.lst (zs.map D.str)),q_ (.str s),q_ (.int (m+1:Nat)),q_ (.int c),q_ (.int (c.fmod 8)),Q_ (.lst [rowD (e1,k1),rowD (e2,k2)]),q_ (.str k),none,Q_ (.lst (ws.map D.str))]) ?_ ?_
 ·walk_at "dl";exact⟨_,_,_,_,_,rfl,rfl,hs,rows,_,rfl,oh,rfl,ot,rfl,.inl rfl,rfl,by decide,λe k hek hse=>⟨_,_,_,_,_,rfl,rfl,hs,rows,_,rfl,oh,rfl,ot,rfl,.inl rfl,rfl,by decide,λe' k' hek' hse'=>⟨rfl,e,k,e',k',L5 hek,L5 hek',On hse,On hse',rfl⟩⟩⟩
 rintro _ ⟨e1,k1,e2,k2,he1,he2,hs1,hs2,rfl⟩;refine zf (λρ=>∃b1 c1,Bo (m+1) b1 c1/\Rb (hfs hs) s 4 (m+1) rows b1/\ρ=[q_ (.fd 0),q_ (.lst (hs.map hdD)),q_ (.lst (rows.map prD)),q_ (.lst (zs.map D.str)),q_ (.str s),q_ (.int (m+1:Nat)),q_ (.int c),q_ (.int (c.fmod 8)),Q_ (.lst [rowD (e1,k1),rowD (e2,k2),rowD (b1,c1)]),q_ (.str k),none,Q_ (.lst (ws.map D.str))]) ?_ ?_
 ·refine Yi rfl ?_;walk_at "dl";exact⟨_,_,_,_,_,_,rfl,rfl,hs,rows,zs,s,rfl,oh,rfl,ob.down,rfl,rfl,hsh,by rw[show((m+1:Nat):Int)-1=(m:Int) by omega],by omega,λb c hbc hrb=>⟨trivial,b,c,hbc,hrb,rfl⟩⟩
 rintro _ ⟨b1,c1,hb1,hr1,rfl⟩;refine zf (λρ=>∃b2 c2,Bo (m+1) b2 c2/\Rb (hfs hs) s 4 (m+1) rows b2/\ρ=[q_ (.fd 0),q_ (.lst (hs.map hdD)),q_ (.lst (rows.map prD)),q_ (.lst (zs.map D.str)),q_ (.str s),q_ (.int (m+1:Nat)),q_ (.int c),q_ (.int (c.fmod 8)),Q_ (.lst [rowD (e1,k1),rowD (e2,k2),rowD (b1,c1),rowD (b2,c2)]),q_ (.str k),none,Q_ (.lst (ws.map D.str))]) ?_ ?_
 ·refine Yi rfl ?_;walk_at "dl";exact⟨_,_,_,_,_,_,rfl,rfl,hs,rows,zs,s,rfl,oh,rfl,ob.down,rfl,rfl,hsh,by rw[show((m+1:Nat):Int)-1=(m:Int) by omega],by omega,λb c hbc hrb=>⟨trivial,b,c,hbc,hrb,rfl⟩⟩
 rintro _ ⟨b2,c2,hb2,hr2,rfl⟩;have ef1:=yr 4 _ _ he1;have ef2:=yr 4 _ _ he2;have bf1:=yu _ _ _ hb1;have bf2:=yu _ _ _ hb2;have lk1:=wg k1;have lk2:=wg k2;have lk3:=wg c1;have lk4:=wg c2;have l4:=LE4;have f3:=qb (n:=m+1) (by omega)
 have fl:(wds [(e1,k1),(e2,k2),(b1,c1),(b2,c2)]).length=k1.length+(k2.length+(c1.length+c2.length)):=by simp[wds]
 have key:=h (.tup [.str "less",e1,e2,b1,b2]) (bk ["less"] [k1,k2,c1,c2]) (.inr (.inr (.inl ⟨e1,k1,e2,k2,b1,c1,b2,c2,he1,he2,hb1,hb2,rfl,rfl⟩))) (.inr (.inr (.inl ⟨e1,e2,b1,b2,hs1,hs2,hr1,hr2,rfl⟩)));have pu:=xq (bk ["less"] [k1,k2,c1,c2]);unfold bk at key pu;unfold rowD at key;rw[zMa,zMa]at key pu;walk_at "dl";refine ff ([(e1,k1),(e2,k2),(b1,c1),(b2,c2)].map rowD) (λψ hψ=>?_) fstD (Nat.le_of_ble_eq_true rfl) (λd hd=>?_) ?_
 ·walk_at "dl";exact hψ
 ·obtain⟨r,_,rfl⟩:=zah.mp hd;unfold rowD;walk_at "p";walk_at "dl";rfl
 rw[gy];walk_at "dl";exact⟨by rw[yy];omega,[(e1,k1),(e2,k2),(b1,c1),(b2,c2)],rfl,by omega,by simp only[zLm,zLc,zLn];rw[yy];omega,by simp only[zLa,zLm,zLc,zLn];rw[yy];omega,⟨⟨ef1.2.2,ef2.2.2,bf1.2.2,bf2.2.2⟩,pu⟩,key⟩
theorem Tr(T:Tops mg)(F1:FD P w K mg base 1 "_law_next" ["_law_feed"] fh)(F3:FD P w K mg base 1 "_law_flat" ["_law_made"] Y9)(F4:FD P w K mg base 6 "_law_e" ["_law_feed","_law_heads","_law_there","_law_shape","_law_deep"] (tE 4))(F5:FD P w K mg base 5 "_law_e" ["_law_feed","_law_heads","_law_there","_law_shape","_law_deep"] (tE 3)){f2:Addr}{fd2:FuncData}(G:Fun K "_law_open" "_law_open" (top 57) f2 fd2)(mo:mg "_law_open" = some (.ref f2))(F:Fun K "_law_body" "_law_body" (top 58) f fd)(m:mg "_law_body" = some (.ref f)):∀n:Nat,FD P w K mg base (2*n+7) "_law_body" ["_law_feed","_law_heads","_law_there","_law_names","_law_shape","_law_deep"] (Oc n)
 |0=>by
  have S:zo ["_law_feed","_law_heads","_law_there","_law_names","_law_shape","_law_deep","_law_cell","_law_way","_law_made","_law_kind","_law_body_here","_law_some"] ["_law_feed","_law_heads","_law_there","_law_names","_law_shape","_law_deep"] (zd (top 58)):=by walk_at "f"
  refine yo F S (F.binds λ_ _ _ _ _ _ us hl=>(by obtain⟨_,_,_,_,_,_,rfl⟩:=z1k hl;rfl)) m λqZ A outer s H E ds φ hr hl hT=>?_
  exact hT.elim
 |n+1=>Tq T F5 F1 F3 F4 (Tr T F1 F3 F4 F5 G mo F m n) (Th T (Tr T F1 F3 F4 F5 G mo F m n) G mo) F m
def En:FT:=g3 λna ce mo φ=>∃(w:Str)(i M:Int),na=.str w/\IsNm w/\ce=.int i/\mo=.int M/\0<M/\M<=10 ^ 60/\∀h:Hd,h.name=w->OkH h->φ ⟨.new,hdD h⟩
def Gq:FT:=g5 λna pa sh si bo φ=>∃(w:Str)(ps:List (Str×Str))(s:Str)(ns:List Int)(b:D)(c:List Str),na=.str w/\IsNm w/\pa=.lst (ps.map prD)/\ps≠[]/\ps.length<=4/\(∀p∈ps,IsNm p.1/\IsSh p.2)/\sh=.str s/\IsSh s/\si=.lst (ns.map D.int)/\ns.length<=5/\(∀i∈ns,i.natAbs<10 ^ 60)/\bo=rowD (b,c)/\Bo 5 b c/\∀k,Fu (fnD ⟨w,ps,s,ns,b⟩) k->φ ⟨.new,rowD (fnD ⟨w,ps,s,ns,b⟩,k)⟩
def Nf(x:Int):∃k:Str,IsSh k/\atI [D.str "num",D.str "list",D.str "tree"] (x.fmod 3)=some (.str k):=by
 have m:=x4 x 3 (by decide)
 rcases(by omega:x.fmod 3=0\/x.fmod 3=1\/x.fmod 3=2) with e|e|e
 ·exact⟨"num",.inl rfl,by rw[e,bj]⟩
 ·exact⟨"list",.inr (.inl rfl),by rw[e,bh]⟩
 ·exact⟨"tree",.inr (.inr rfl),by rw[e,K4]⟩
def Sz(s:Str)(ks:List Str)(j:Nat)(n:Int):Prop:=0<=n/\n<10 ^ 60/\(s = "num"->n=0)/\∀i,j=i+1->ks[i]?=some ("num" : Str)->n=0
def Szs(s:Str)(ks:List Str)(ns:List Int):Prop:=∀(j:Nat)(n:Int),ns[j]?=some n->Sz s ks j n
def Ep{s:Str}{ks:List Str}{ns:List Int}{n:Int}(h:Szs s ks ns)(g:Sz s ks ns.length n):Szs s ks (ns++[n]):=λj m hm=>by
 rcases Nat.lt_or_ge j ns.length with hj|hj
 ·rw[List.getElem?_append_left hj]at hm;exact h j m hm
 ·rw[List.getElem?_append_right hj]at hm;have hj0:j=ns.length:=by
   rcases Nat.eq_zero_or_pos (j-ns.length) with z|z
   ·omega
   ·rw[List.getElem?_eq_none (by rw[List.length_singleton];exact z)]at hm;cases hm
  rw[hj0,Nat.sub_self]at hm;cases hm;rw[hj0];exact g
def Ad{s:Str}{ks:List Str}{ns:List Int}(h:Szs s ks ns)(hl:ns.length=ks.length+1)(hs:IsSh s)(hk:∀ k∈ks,IsSh k):bn s ns ks/\∀i∈ns,i.natAbs<10 ^ 60:=by
 have al:∀n∈ns,∃j,Sz s ks j n:=λn hn=>by
  obtain⟨j,hj⟩:=List.getElem?_of_mem hn;exact⟨j,h j n hj⟩
 refine⟨⟨hs,hk,hl,λn hn=>(al n hn).elim λj q=>q.1,λe n hn=>(al n hn).elim λj q=>q.2.2.1 e,λi n e hn=>(h (i+1) n hn).2.2.2 i rfl e⟩,λn hn=>(al n hn).elim λj q=>by have:=q.1;have:=q.2.1;omega⟩
def qy(ns:List Int):ve (ns.map D.int):=yi.mpr λd hd=>by
 obtain⟨t,_,rfl⟩:=zah.mp hd;trivial
def Jg(ps:List (Str×Str)):ve (ps.map prD):=yi.mpr λd hd=>by
 obtain⟨t,_,rfl⟩:=zah.mp hd;exact⟨trivial,trivial,trivial⟩
def Uo(ps:List (Str×Str)):((ps.map prW).flatten).length=4*ps.length:=by
 induction ps with
 |nil=>rfl
 |cons p ps ih =>
  rw[List.map_cons,List.flatten_cons,zLa,ih,zLc];show 4+_=_;omega
def Jf{ps:List (Str×Str)}{j:Nat}{p:Str×Str}(h:ps[j]?=some p):((ps.take (j+1)).map prW).flatten=((ps.take j).map prW).flatten++prW p:=by
 rw[List.take_succ,h];simp
def Hm(w s:Str)(ps:List (Str×Str))(qs c:List Str):bk ["fn",w] [bk [] (ps.map prW),brW (s::qs),c]=([lp,"fn",w,lp]++(ps.map prW).flatten++[rp,lp,s]++qs++[rp])++c++[rp]:=by
 simp[bk,brW]
def Du{i:Nat}(h:i<4):∃r:Int,0<r/\r<=27/\atI [D.int 1,D.int 3,D.int 9,D.int 27] (i:Int)=some (.int r):=by
 rcases(by omega:i=0\/i=1\/i=2\/i=3) with rfl|rfl|rfl|rfl
 ·exact⟨1,by decide,by decide,by rw[xh1 (by decide)];rfl⟩
 ·exact⟨3,by decide,by decide,by rw[xh1 (by decide)];rfl⟩
 ·exact⟨9,by decide,by decide,by rw[xh1 (by decide)];rfl⟩
 ·exact⟨27,by decide,by decide,by rw[xh1 (by decide)];rfl⟩
def To(T:Tops mg)(F:Fun K "_law_head" "_law_head" (top 59) f fd)(m:mg "_law_head" = some (.ref f)):FD P w K mg base 1 "_law_head" ["_law_name_here","_law_cell","_law_most"] En:=by
 have S:zo ["_law_name_here","_law_cell","_law_most","_law_kinds","_law_shape","_law_size","_law_k","_law_number"] ["_law_name_here","_law_cell","_law_most"] (zd (top 59)):=by walk_at "f"
 walk_at "b";refine⟨_,(ze (zj (yn (T:=["_law_k"]) (F:=["_law_cell"]) (js:=[1]) 3 S.nd (vf T.range (z9 (y8 zc (yt (za 1) zc)) zb)) (show zm (zd (top 59)) _ _ _ from by walk_at "c") (.cons rfl .nil) (by decide) (λcl C fp s H=>(zn (i:=0) (show(["_law_k","_law_cell"]:List Str).Nodup by decide +kernel) rfl (by walk_at "o"))) (zw (by decide)) (yc 0) (λcl C fp s H=>ya) (λcl C fp s H=>(zk hu (y4 (z9 zh (z9 zh (z9 zh zb)))) (yt (vj (vj (za 1) zc) (zk hu (y4 (z9 zc (z9 zc (z9 zc (z9 zc zb))))) (za 0))) zc)))))
   (ze (zj (zt 4 S.nd (zk hu (y4 (z9 zh (z9 zh (z9 zh zb)))) (yt (vj (za 1) zc) zc))))
   (ze (zj (zt 5 S.nd (y4 zb)))
   (ze (zj (fk (vf T.range (z9 (y8 (xt T.len (z9 (za 3) zb)) zc) zb)) (zn (i:=6) S.nd rfl (by walk_at "o")) (yc 6) (ze (zj (zt 7 S.nd (yt (vj (vj (za 1) zc) (y8 (ck zc (za 6)) zc)) (za 2))))
    (ze (zj (yh (EW.et (tz (xr hu (za 4) zh) (um (EW.et (rf (L7 (za 6) zc) (qe (xr hu (zk hu (za 3) (uw (za 6) zc)) zh))))))) (zi (zt 7 S.nd zc)) y7))
    (zi (qo 5 (za 7)))))))
   (zi (Oq (z9 (za 0) (z9 (za 3) (z9 (za 4) (z9 (za 5) zb)))))))))),?_⟩
 obtain⟨a0,b0,c0,rfl,w,i,M,rfl,gw,rfl,rfl,M0,M1,h⟩:=z2g hT;have mb:=x4 i 4 (by decide)
 refine zf (λρ=>∃ks:List Str,(∀k∈ks,IsSh k)/\ks≠[]/\ks.length<=4/\ρ=[q_ (.str w),q_ (.int i),q_ (.int M),Q_ (.lst (ks.map D.str)),none,none,none,none]) ?_ ?_
 ·refine zv (rngD 0 (1+i.fmod 4).toNat) (λψ hψ=>?_) (λj fs=>∃ks:List Str,fs=ks.map D.str/\ks.length=j/\∀k∈ks,IsSh k) (by rw[vc];omega) ⟨[],rfl,rfl,λ_ z=>(nomatch z)⟩ ?_ ?_
  ·walk_at "dl";exact⟨by omega,by omega,hψ⟩
  ·rintro j e fs he hle ⟨ks,rfl,kl,kg⟩;obtain⟨hj,rfl⟩:=ub he;obtain⟨r,r0,r1,er⟩:=Du (i:=j) (by omega)
   obtain⟨k,gk,ek⟩:=Nf ((i.fdiv 4).fdiv r);walk_at "p";walk_at "dl";rw[er];walk_at "dl";rw[ek];refine⟨of_eq_true (xk (by decide) (by decide)),fdOk (m:=64) (by omega) (Y0 (by omega)),ks++[k],by rw[zMa];rfl,by rw[zLa,kl];rfl,λz hz=>?_⟩
   rcases zas.mp hz with hz|hz
   ·exact kg z hz
   ·rw[List.mem_singleton.mp hz];exact gk
  ·rintro fs ⟨ks,rfl,kl,kg⟩;rw[vc]at kl;exact⟨trivial,ks,kg,λz=>by rw[z,zLn]at kl;omega,by omega,rfl⟩
 rintro _ ⟨ks,kg,kn,kl,rfl⟩;obtain⟨s,gs,es⟩:=Nf (i.fdiv 324);refine zf (λρ=>ρ=[q_ (.str w),q_ (.int i),q_ (.int M),Q_ (.lst (ks.map D.str)),q_ (.str s),none,none,none]) ?_ ?_
 ·walk_at "dl";rw[es];exact⟨of_eq_true (xk (by decide) (by decide)),rfl⟩
 rintro _ rfl;refine zf (λρ=>ρ=[q_ (.str w),q_ (.int i),q_ (.int M),Q_ (.lst (ks.map D.str)),q_ (.str s),Q_ (.lst []),none,none]) ?_ ?_
 ·walk_at "dl"
 rintro _ rfl;refine zf (λρ=>∃(ns:List Int)(a b:Option EV),ns.length=ks.length+1/\Szs s ks ns/\ρ=[q_ (.str w),q_ (.int i),q_ (.int M),Q_ (.lst (ks.map D.str)),q_ (.str s),Q_ (.lst (ns.map D.int)),a,b]) ?_ ?_
 ·refine rk (rngD 0 (ks.length+1)) (λψ hψ=>?_) (λj ρ=>∃(ns:List Int)(a b:Option EV),ns.length=j/\Szs s ks ns/\ρ=[q_ (.str w),q_ (.int i),q_ (.int M),Q_ (.lst (ks.map D.str)),q_ (.str s),Q_ (.lst (ns.map D.int)),a,b]) ⟨[],none,none,rfl,λ_ _ z=>by simp at z,rfl⟩ ?_ ?_
  ·walk_at "dl";exact⟨by omega,by omega,by rw[show((ks.length:Int)+1).toNat=ks.length+1 by omega];exact hψ⟩
  ·rintro j d ρ hd ⟨ns,a,b,nl,ng,rfl⟩;obtain⟨hj,rfl⟩:=ub hd;rw[Int.zero_add];refine zf (λρ=>∃n:Int,(0<=n/\n<10 ^ 60)/\ρ=[q_ (.str w),q_ (.int i),q_ (.int M),Q_ (.lst (ks.map D.str)),q_ (.str s),Q_ (.lst (ns.map D.int)),q_ (.int j),q_ (.int n)]) ?_ ?_
   ·have mm:=x4 ((i.fdiv 972).fdiv (5*j+1)) M M0;walk_at "dl";exact⟨of_eq_true (xk (by decide) (by decide)),IntMulOk.of_left (by decide),fdOk (m:=64) (by omega) (Y0 (by omega)),by omega,_,by omega,rfl⟩
   rintro _ ⟨n,hn,rfl⟩;refine zf (λρ=>∃n:Int,Sz s ks j n/\ρ=[q_ (.str w),q_ (.int i),q_ (.int M),Q_ (.lst (ks.map D.str)),q_ (.str s),Q_ (.lst (ns.map D.int)),q_ (.int j),q_ (.int n)]) ?_ ?_
   ·refine Ox (Q:=s≠"num"/\∀i,j=i+1->ks[i]?≠some ("num" : Str)) (λψ hψ=>?_) ?_ (λq=>?_)
    ·walk_at "dl";refine⟨λ_=>hψ _ λz=>(nomatch z),λq1=>⟨λj0=>?_,λj0=>hψ _ λ_=>⟨q1,λi e=>by omega⟩⟩⟩
     rw[show(j:Int)-1=((j-1:Nat):Int) by omega,xh1 (by omega),zaf (by omega)]
     refine⟨by rw[xg];trivial,hψ _ λz=>⟨q1,λi e=>?_⟩⟩
     subst e;have hi:i<ks.length:=by omega
     have z':eqD (.str (ks[i]'hi)) (.str ("num" : Str))=false:=z;rw[v6]at z';rw[zaf hi];exact λy=>by rw[Option.some.inj y]at z';exact absurd z' (by decide)
    ·walk_at "dl";exact⟨0,⟨by decide,by decide,λ_=>rfl,λ_ _ _=>rfl⟩,rfl⟩
    ·walk_at "dl";exact⟨n,⟨hn.1,hn.2,λz=>absurd z q.1,λi e z=>absurd z (q.2 i e)⟩,rfl⟩
   rintro _ ⟨n,hn,rfl⟩;refine Yi rfl ?_;walk_at "dl";exact⟨by omega,ns++[n],_,_,by rw[zLa,nl];rfl,Ep ng (by rw[nl];exact hn),by rw[zMa];rfl⟩
  ·rintro ρ ⟨ns,a,b,nl,ng,rfl⟩;rw[vc]at nl;exact⟨ns,a,b,nl,ng,rfl⟩
 rintro _ ⟨ns,a,b,nl,ng,rfl⟩;have go:=Ad ng nl gs kg;have key:=h ⟨w,ks,s,ns⟩ rfl ⟨gw,kn,kl,kg,gs,go.1,go.2⟩;walk_at "dl";exact⟨⟨xq _,qy _⟩,key⟩
def Vl(T:Tops mg)(F:Fun K "_law_built" "_law_built" (top 60) f fd)(m:mg "_law_built" = some (.ref f)):FD P w K mg base 1 "_law_built" ["_law_name_here","_law_params","_law_shape","_law_size","_law_body_here"] Gq:=by
 have S:zo ["_law_name_here","_law_params","_law_shape","_law_size","_law_body_here","_law_words","_law_word","_law_kind"] ["_law_name_here","_law_params","_law_shape","_law_size","_law_body_here"] (zd (top 60)):=by walk_at "f"
 walk_at "b";refine⟨_,(ze (zj (zt 5 S.nd (y4 (z9 zh (z9 zh (z9 (za 0) (z9 zh zb)))))))
   (ze (zj (fk (yj (za 1)) (wt (K0:=K) (n:=2) (by rfl) (by rfl) (yb (zn (i:=6) S.nd rfl (by walk_at "o")) (yb (zn (i:=7) S.nd rfl (by walk_at "o")) wq))) (v5 6 7) (zi (zt 5 S.nd (y8 (za 5) (y4 (z9 zh (z9 (za 6) (z9 (za 7) (z9 zh zb))))))))))
   (ze (zj (zt 5 S.nd (y8 (y8 (y8 (za 5) (y4 (z9 zh (z9 zh (z9 (za 2) zb))))) (yf (T:=["_law_number"]) (F:=[]) (js:=[]) (yj (za 3)) (show zm (zd (top 60)) _ _ _ from by walk_at "c") .nil (by decide) (λcl C fp s H=>(zn (i:=0) (nd1 _) rfl (by walk_at "o"))) (zw (by decide)) (yc 0) (λcl C fp s H=>ya) (λcl C fp s H=>(Xp T.str (z9 (za 0) zb))))) (y4 (z9 zh zb)))))
   (zi (zp (x9 (z9 (x9 (z9 (za 0) (z9 (xn T.tuple (z9 (za 1) zb)) (z9 (x9 (z9 (za 2) (z9 (xn T.tuple (z9 (za 3) zb)) zb))) (z9 (zk hu (za 4) zc) zb))))) (z9 (y8 (y8 (za 5) (zk hu (za 4) zc)) (y4 (z9 zh zb))) zb)))))))),?_⟩
 obtain⟨a0,b0,c0,d0,e0,rfl,w,ps,s,ns,b,c,rfl,gw,rfl,pn,pl,pg,rfl,gs,rfl,nl,ng,rfl,hb,h⟩:=hT;refine zf (λρ=>ρ=[q_ (.str w),q_ (.lst (ps.map prD)),q_ (.str s),q_ (.lst (ns.map D.int)),q_ (rowD (b,c)),Q_ (.lst (([lp,"fn",w,lp]:List Str).map D.str)),none,none]) ?_ ?_
 ·walk_at "dl";rfl
 rintro _ rfl;refine zf (λρ=>∃x y,ρ=[q_ (.str w),q_ (.lst (ps.map prD)),q_ (.str s),q_ (.lst (ns.map D.int)),q_ (rowD (b,c)),Q_ (.lst (([lp,"fn",w,lp]++(ps.map prW).flatten).map D.str)),x,y]) ?_ ?_
 ·refine rk (ps.map prD) (λψ hψ=>?_) (λj ρ=>∃x y,ρ=[q_ (.str w),q_ (.lst (ps.map prD)),q_ (.str s),q_ (.lst (ns.map D.int)),q_ (rowD (b,c)),Q_ (.lst (([lp,"fn",w,lp]++((ps.take j).map prW).flatten).map D.str)),x,y]) ⟨none,none,rfl⟩ ?_ ?_
  ·walk_at "dl";exact hψ
  ·rintro j d ρ hd ⟨x,y,rfl⟩;rw[zai]at hd;obtain⟨p,hp,rfl⟩:=zar.mp hd;have jl:=(zag.mp hp).1;have fl:=Uo (ps.take j);have tl:=List.length_take_le j ps;rw[Jf hp];simp only[prD];walk_at "dl";rw[zMa];exact⟨by rw[yy];omega,_,_,rfl⟩
  ·rintro ρ ⟨x,y,rfl⟩;rw[zLm,List.take_length];exact⟨x,y,rfl⟩
 rintro _ ⟨x,y,rfl⟩;refine zf (λρ=>ρ=[q_ (.str w),q_ (.lst (ps.map prD)),q_ (.str s),q_ (.lst (ns.map D.int)),q_ (rowD (b,c)),Q_ (.lst (([lp,"fn",w,lp]++(ps.map prW).flatten++[rp,lp,s]++ns.map numS++[rp]).map D.str)),x,y]) ?_ ?_
 ·have fl:=Uo ps;generalize (ps.map prW).flatten=qs at *;walk_at "dl";refine⟨by rw[yy];omega,?_⟩
  refine zv (ns.map D.int) (λψ hψ=>?_) (λi fs=>fs=((ns.take i).map λp=>D.str (numS p))) (by rw[zLm];omega) rfl ?_ ?_
  ·walk_at "dl";exact hψ
  ·rintro i e fs he hle rfl;rw[zai]at he;obtain⟨p,hp,rfl⟩:=zar.mp he;have gp:=ng p (zan hp);walk_at "p";walk_at "dl";exact⟨Wt gp,by rw[sr _ hp];rfl⟩
  rintro fs rfl;rw[zLm,List.take_length];walk_at "dl";simp only[zLa,zLm,zLc,zLn,zMa,List.map_map];rw[yy];exact⟨by omega,by omega,rfl⟩
 rintro _ rfl;have fl:=Uo ps;have bf:=yu _ _ _ hb;have lk:=wg c;have f3:=qb (n:=5) (by omega)
 have key:=h (bk ["fn",w] [bk [] (ps.map prW),brW (s::ns.map numS),c]) ⟨w,ps,s,ns,b,c,gw,pn,pl,pg,gs,nl,ng,hb,rfl,rfl⟩;rw[Hm]at key;have wl:([lp,"fn",w,lp]++(ps.map prW).flatten++[rp,lp,s]++ns.map numS++[rp]).length<=100:=by
  simp only[zLa,zLm,zLc,zLn];omega
 generalize [lp,"fn",w,lp]++(ps.map prW).flatten++[rp,lp,s]++ns.map numS++[rp]=qs at *;have pu:=xq (qs++c++[rp]);unfold rowD fnD at key;unfold rowD;rw[zMa,zMa]at key pu;walk_at "dl";exact⟨qy _,⟨Jg _,bf.2.2⟩,by rw[yy];omega,by rw[zLa,zLm,zLm,yy];omega,pu,key⟩
def g4(g:D->D->D->D->(EV->Prop)->Prop):FT:=λds φ=>∃a b c d,ds=[a,b,c,d]/\g a b c d φ
structure Gd(hs:List Hd)(h:Hd)(f:Fn):Prop where
 nm:f.name=h.name
 ks:f.params.map Prod.snd=h.kinds
 sh:f.shape=h.shape
 hd:K9 f
 bd:Rb (hfs hs) f.shape 4 5 f.params f.body
def tFun:FT:=g4 λfe he hh wo φ=>fe=.fd 0/\∃(hs:List Hd)(h:Hd)(i:Int),he=.lst (hs.map hdD)/\OkHs hs/\hh=hdD h/\OkH h/\wo=.int i/\∀f k,Fu (fnD f) k->Gd hs h f->φ ⟨.new,rowD (fnD f,k)⟩
def rowF(r:Fn×List Str):D:=rowD (fnD r.1,r.2)
def Gn:FT:=g1 λd φ=>∃ns,d=.scr ns/\∀rs:List (Fn×List Str),(∀r∈rs,Fu (fnD r.1) r.2)->Y1 4 5 (rs.map Prod.fst)->φ ⟨.new,.lst (rs.map rowF)⟩
def psF(i:Int)(ks:List Str):List (Str×Str):=((List.range ks.length).map λj=>nm i (j:Nat)).zip ks
def zsF(i:Int)(n:Nat):List Str:=(List.range (25-n)).map λj=>nm i ((n+j:Nat):Int)
def Wr(i:Int):((List.range 25).map λj=>nm i ((j:Nat):Int)).Nodup:=by
 rw[List.Nodup,List.pairwise_map];refine List.Pairwise.imp_of_mem (R:=λa b=>a≠b) (λha hb hne e=>hne (z1h ?_ ?_ e)) List.nodup_range
 ·have:=List.mem_range.mp ha;omega
 ·have:=List.mem_range.mp hb;omega
def Um(i:Int)(ks:List Str):(psF i ks).length=ks.length:=by
 unfold psF;rw[List.length_zip,zLm,List.length_range,Nat.min_self]
def z0f{i:Int}{ks:List Str}{j:Nat}(h:j<ks.length):(psF i ks)[j]?=some (nm i (j:Nat),ks[j]):=by
 unfold psF;exact List.getElem?_zip_eq_some.mpr ⟨by rw[zai,List.getElem?_range h];rfl,zaf h⟩
def N4(i:Int)(ks:List Str):(psF i ks).map Prod.snd=ks:=List.map_snd_zip (by rw[zLm,List.length_range];exact zaj _)
def Di(i:Int)(ks:List Str):(psF i ks).map Prod.fst=(List.range ks.length).map λj=>nm i (j:Nat):=List.map_fst_zip (by rw[zLm,List.length_range];exact zaj _)
def Vc{i:Int}{ks:List Str}(h:ks.length<=25):((psF i ks).map Prod.fst++zsF i ks.length).Nodup:=by
 have e:(psF i ks).map Prod.fst++zsF i ks.length=(List.range 25).map λj=>nm i ((j:Nat):Int):=by
  rw[Di];unfold zsF
  conv=>rhs;rw[show 25=ks.length+(25-ks.length) by omega,List.range_add,zMa,List.map_map]
  rfl
 rw[e];exact Wr i
def N5{i:Int}{ks:List Str}(hk:∀ k∈ks,IsSh k):∀p∈psF i ks,IsNm p.1/\IsSh p.2:=λp hp=>by
 obtain⟨a,b⟩:=p;have:=List.of_mem_zip hp;obtain⟨j,_,e⟩:=zah.mp this.1;exact⟨by show IsNm a;rw[<- e];exact Ca i j,hk _ this.2⟩
def Bv(i:Int)(n:Nat):∀z∈zsF i n,IsNm z:=λz hz=>by
 obtain⟨j,_,e⟩:=zah.mp hz;rw[<- e];exact Ca i _
def Ud(i:Int)(n:Nat):(zsF i n).length=25-n:=by
 unfold zsF;rw[zLm,List.length_range]
def Mq{i:Int}{ks:List Str}(h:ks.length<=4)(hk:∀ k∈ks,IsSh k):OkB 4 (psF i ks) (zsF i ks.length) :=
 ⟨⟨N5 hk,(List.nodup_append.mp (Vc (i:=i) (ks:=ks) (by omega))).1,by rw[Um];omega⟩,by rw[Um];omega,Bv i _,Vc (by omega),by rw[Ud];omega,by rw[Ud];omega⟩
def sig(f:Fn):List Str×Str:=(f.params.map Prod.snd,f.shape)
def Mu:∀{fs gs:List Fn},fs.map (λf=>(f.name,sig f))=gs.map (λf=>(f.name,sig f))->∀z,(fnL fs z).map sig=(fnL gs z).map sig
 |[],[],_,_=>rfl
 |f::fs,g::gs,h,z=>by
  rw[List.map_cons,List.map_cons]at h;obtain⟨h1,h2⟩:=List.cons.inj h;have n1:f.name=g.name:=congrArg Prod.fst h1;have n2:sig f=sig g:=congrArg Prod.snd h1;show(if z=f.name then some f else fnL fs z).map sig=(if z=g.name then some g else fnL gs z).map sig
  by_cases e:z=f.name
  ·rw[if_pos e,if_pos (e.trans n1),Option.map_some,Option.map_some,n2]
  ·rw[if_neg e,if_neg (λy=>e (y.trans n1.symm))];exact Mu h2 z
def G8{fs gs:List Fn}(h:∀ z,(fnL fs z).map sig=(fnL gs z).map sig)(f:Str)(rs:List (Option Str)):U0 fs f rs=U0 gs f rs:=by
 have:=h f;unfold U0;cases h1:fnL fs f <;> cases h2:fnL gs f <;> rw[h1,h2]at this
 ·cases this
 ·cases this
 ·have e:=Option.some.inj this;show ifS rs (sig _).1 (sig _).2=ifS rs (sig _).1 (sig _).2;rw[e]
theorem Zg{fs gs:List Fn}(h:∀ z,(fnL fs z).map sig=(fnL gs z).map sig){env:List (Str×Str)}:∀{n:Nat}{e:D}{r:Option Str},Sh1 fs env n e r->Sh1 gs env n e r
 |0,_,_,q=>q.elim
 |n+1,e,r,q=>by
  rcases q with q|q|⟨f,es,rs,he,hp,hl,hc⟩|⟨o,es,rs,n1,n2,n3,he,hp,hl,hc⟩
  ·exact .inl q
  ·exact .inr (.inl q)
  ·exact .inr (.inr (.inl ⟨f,es,rs,he,⟨hp.1,λi e c a b=>Zg h (hp.2 i e c a b)⟩,hl,by rw[hc,G8 h]⟩))
  ·exact .inr (.inr (.inr ⟨o,es,rs,n1,n2,n3,he,⟨hp.1,λi e c a b=>Zg h (hp.2 i e c a b)⟩,hl,hc⟩))
theorem Zl{fs gs:List Fn}(h:∀ z,(fnL fs z).map sig=(fnL gs z).map sig){due:Str}{M:Nat}:∀{n:Nat}{env:List (Str×Str)}{b:D},Rb fs due M n env b->Rb gs due M n env b
 |0,_,_,q=>q.elim
 |n+1,env,b,q=>by
  rcases q with⟨e,s,q⟩|⟨z,e,s,b1,h1,h2,h3,q⟩|⟨e1,e2,b1,b2,h1,h2,h3,h4,q⟩|⟨k,z,b1,zs,ks,b2,h1,h2,h3,h4,h5,h6,q⟩
  ·exact .inl ⟨e,Zg h s,q⟩
  ·exact .inr (.inl ⟨z,e,s,b1,Zg h h1,h2,Zl h h3,q⟩)
  ·exact .inr (.inr (.inl ⟨e1,e2,b1,b2,Zg h h1,Zg h h2,Zl h h3,Zl h h4,q⟩))
  ·exact .inr (.inr (.inr ⟨k,z,b1,zs,ks,b2,h1,h2,h3,h4,Zl h h5,Zl h h6,q⟩))
def A9:FT:=g1 λd φ=>∃ws:List Str,d=.lst (ws.map D.str)/\wsum ws<=16000000/\φ (dv (.str (y3 ws)))
def Nd(x:Int):∃r:Int,1<=r/\r<=8/\atI [D.int 1,D.int 2,D.int 3,D.int 8] (x.fmod 4)=some (.int r):=by
 have m:=x4 x 4 (by decide)
 rcases(by omega:x.fmod 4=0\/x.fmod 4=1\/x.fmod 4=2\/x.fmod 4=3) with e|e|e|e
 ·exact⟨1,by decide,by decide,by rw[e,bj]⟩
 ·exact⟨2,by decide,by decide,by rw[e,bh]⟩
 ·exact⟨3,by decide,by decide,by rw[e,K4]⟩
 ·exact⟨8,by decide,by decide,by rw[e];exact xh1 (l:=[D.int 1,D.int 2,D.int 3,D.int 8]) (i:=3) (by decide)⟩
def Nc(x:Int):∃r:Int,0<r/\r<=10 ^ 60/\atI [D.int (10 ^ 60),D.int 3,D.int 1000] (x.fmod 3)=some (.int r):=by
 have m:=x4 x 3 (by decide)
 rcases(by omega:x.fmod 3=0\/x.fmod 3=1\/x.fmod 3=2) with e|e|e
 ·exact⟨10 ^ 60,by decide,by decide,by rw[e,bj]⟩
 ·exact⟨3,by decide,by decide,by rw[e,bh]⟩
 ·exact⟨1000,by decide,by decide,by rw[e,K4]⟩
def G6(ns:List Int)(a:Option Int):∃xs:List Int,cutD (ns.map D.int) a (some 75)=xs.map D.int/\xs.length<=75:=by
 unfold ZZ.cutD;rw[<- List.map_drop,<- List.map_take];refine⟨_,rfl,?_⟩;have:ZZ.sIx (ns.map D.int).length (ns.map D.int).length (some 75)<=75:=by
  have:=ZZ.sIx_nat (ns.map D.int).length (ns.map D.int).length 75;rw[show(some (75:Int))=some ((75:Nat):Int) from rfl,this];exact Nat.min_le_left _ _
 have l:=List.length_take_le (ZZ.sIx (ns.map D.int).length (ns.map D.int).length (some 75)-ZZ.sIx (ns.map D.int).length 0 a) (ns.drop (ZZ.sIx (ns.map D.int).length 0 a));omega
structure K5(hs:List Hd)(i:Nat)(ds:List D)(rs:List (Fn×List Str)):Prop where
 eq:ds=rs.map rowF
 ln:rs.length=i
 ok:∀(j:Nat)(r:Fn×List Str)(h:Hd),rs[j]?=some r->hs[j]?=some h->Fu (fnD r.1) r.2/\Gd hs h r.1
def N0{hs:List Hd}{i:Nat}{ds:List D}{rs:List (Fn×List Str)}{f:Fn}{c:List Str}{h:Hd}(R:K5 hs i ds rs)(hk:hs[i]?=some h)(g:Fu (fnD f) c)(g21:Gd hs h f):K5 hs (i+1) (ds++[rowD (fnD f,c)]) (rs++[(f,c)]):=by
 refine⟨by rw[R.eq,zMa];rfl,by simp[R.ln],λj r k' hr hk'=>?_⟩
 rcases Nat.lt_or_ge j rs.length with hj|hj
 ·rw[List.getElem?_append_left hj]at hr;exact R.ok j r k' hr hk'
 ·rw[List.getElem?_append_right hj]at hr;have hj0:j-rs.length=0:=by
   rcases Nat.eq_zero_or_pos (j-rs.length) with z|z
   ·exact z
   ·rw[List.getElem?_eq_none (by rw[List.length_singleton];exact z)]at hr;cases hr
  rw[hj0]at hr;cases hr;have:j=i:=by have:=R.ln;omega
  subst this;rw[hk]at hk';cases hk';exact⟨g,g21⟩
def M2{α β γ:Type}(f:α->γ)(g:β->γ):∀(xs:List α)(ys:List β),xs.length=ys.length->(∀(j:Nat) x y,xs[j]?=some x->ys[j]?=some y->f x=g y)->xs.map f=ys.map g
 |[],[],_,_=>rfl
 |x::xs,y::ys,hl,h=>by
  rw[List.map_cons,List.map_cons,h 0 x y rfl rfl,M2 f g xs ys (Nat.succ.inj hl) λj a b ha hb=>h (j+1) a b ha hb]
def K5.prog{hs:List Hd}{ds:List D}{rs:List (Fn×List Str)}(R:K5 hs hs.length ds rs)(oh:OkHs hs)(h1:1<=hs.length):(∀r∈rs,Fu (fnD r.1) r.2)/\Y1 4 5 (rs.map Prod.fst):=by
 have at':∀r∈rs,∃h∈hs,Fu (fnD r.1) r.2/\Gd hs h r.1:=λr hr=>by
  obtain⟨j,hj⟩:=List.getElem?_of_mem hr;have hl:j<hs.length:=by rw[<- R.ln];exact(zag.mp hj).1
  exact⟨hs[j],List.getElem_mem hl,R.ok j r _ hj (zaf hl)⟩
 have nms:(rs.map Prod.fst).map Fn.name=hs.map Hd.name:=by
  rw[List.map_map];exact M2 _ _ rs hs R.ln λj r h hr hh=>(R.ok j r h hr hh).2.nm
 have sg:(hfs hs).map (λf=>(f.name,sig f))=(rs.map Prod.fst).map (λf=>(f.name,sig f)):=by
  unfold hfs;rw[List.map_map,List.map_map];refine(M2 _ _ rs hs R.ln λj r h hr hh=>?_).symm;have q:=(R.ok j r h hr hh).2;show(r.1.name,(r.1.params.map Prod.snd,r.1.shape))=(h.name,((h.kinds.map λk=>(("" : Str),k)).map Prod.snd,h.shape));rw[q.nm,q.ks,q.sh,List.map_map,show(Prod.snd ∘ λk:Str=>(("" : Str),k))=id from rfl,List.map_id]
 refine⟨λr hr=>(at' r hr).elim λh q=>q.2.1,by rw[zLm,R.ln];exact h1,by rw[zLm,R.ln];exact oh.ln,λf hf=>?_,by rw[nms];exact oh.nd,λf hf=>?_⟩
 ·obtain⟨r,hr,rfl⟩:=zah.mp hf;exact(at' r hr).elim λh q=>q.2.2.hd
 ·obtain⟨r,hr,rfl⟩:=zah.mp hf;exact(at' r hr).elim λh q=>Zl (Mu sg) q.2.2.bd
def cg(T:Tops mg)(z5f:FD P w K mg base 1 "_law_name" ["_law_cell","_law_k"] Q9)(z4u:FD P w K mg base 17 "_law_body" ["_law_feed","_law_heads","_law_there","_law_names","_law_shape","_law_deep"] (Oc 5))(z6u:FD P w K mg base 1 "_law_built" ["_law_name_here","_law_params","_law_shape","_law_size","_law_body_here"] Gq)(F:Fun K "_law_function" "_law_function" (top 61) f fd)(m:mg "_law_function" = some (.ref f)):FD P w K mg base 18 "_law_function" ["_law_feed","_law_heads","_law_head_here","_law_words"] tFun:=by
 have S:zo ["_law_feed","_law_heads","_law_head_here","_law_words","_law_params","_law_names","_law_body_here"] ["_law_feed","_law_heads","_law_head_here","_law_words"] (zd (top 61)):=by walk_at "f"
 walk_at "b";refine⟨_,(ze (zj (yn (T:=["_law_k"]) (F:=["_law_words","_law_head_here"]) (js:=[3,2]) 4 S.nd (vf T.range (z9 (xt T.len (z9 (zk hu (za 2) zc) zb)) zb)) (show zm (zd (top 61)) _ _ _ from by walk_at "c") (.cons rfl (.cons rfl .nil)) (by decide) (λcl C fp s H=>(zn (i:=0) (show(["_law_k","_law_words","_law_head_here"]:List Str).Nodup by decide +kernel) rfl (by walk_at "o"))) (zw (by decide)) (yc 0) (λcl C fp s H=>ya) (λcl C fp s H=>(w8 (z9 (zg z5f (hr.e rfl) (z9 (za 1) (z9 (za 0) zb))) (z9 (zk hu (zk hu (za 2) zc) (za 0)) zb))))))
   (ze (zj (yn (T:=["_law_k"]) (F:=["_law_words"]) (js:=[3]) 5 S.nd (L9 T.range (z9 (xt T.len (z9 (za 4) zb)) (z9 zc zb))) (show zm (zd (top 61)) _ _ _ from by walk_at "c") (.cons rfl .nil) (by decide) (λcl C fp s H=>(zn (i:=0) (show(["_law_k","_law_words"]:List Str).Nodup by decide +kernel) rfl (by walk_at "o"))) (zw (by decide)) (yc 0) (λcl C fp s H=>ya) (λcl C fp s H=>(zg z5f (hr.e rfl) (z9 (za 1) (z9 (za 0) zb))))))
   (ze (zj (tf 5 (tf 4 (zt 6 S.nd (zg z4u (hr.e rfl) (z9 (za 0) (z9 (za 1) (z9 (za 4) (z9 (za 5) (z9 (zk hu (za 2) zc) (z9 zc zb)))))))))))
   (zi (zp (zg z6u (hr.e rfl) (z9 (zk hu (za 2) zc) (z9 (za 4) (z9 (zk hu (za 2) zc) (z9 (zk hu (za 2) zc) (z9 (za 6) zb))))))))))),?_⟩
 obtain⟨a0,b0,c0,d0,rfl,rfl,hs,hh,i,rfl,oh,rfl,ohh,rfl,h⟩:=hT;have k4:=ohh.n4;have k0:=List.length_pos_iff.mpr ohh.n0;have pl:=Um i hh.kinds;have zl:=Ud i hh.kinds.length;refine zf (λρ=>ρ=[q_ (.fd 0),q_ (.lst (hs.map hdD)),q_ (hdD hh),q_ (.int i),Q_ (.lst ((psF i hh.kinds).map prD)),none,none]) ?_ ?_
 ·refine zv (rngD 0 hh.kinds.length) (λψ hψ=>?_) (λj fs=>fs=((psF i hh.kinds).take j).map prD) (by rw[vc];omega) rfl ?_ ?_
  ·simp only[hdD];walk_at "dl";rw[Int.toNat_natCast];exact⟨by omega,by omega,hψ⟩
  ·rintro j e fs he hle rfl;obtain⟨hj,rfl⟩:=ub he;walk_at "p";simp only[hdD];walk_at "dl";simp only[Q9,ZZ.g2];rw[xh1 hj,zaf hj];refine⟨i,j,rfl,rfl,by omega,trivial,?_⟩
   rw[List.take_succ,z0f hj,zMa];rfl
  ·rintro fs rfl;rw[vc,List.take_of_length_le (by omega)]
   exact⟨trivial,rfl⟩
 rintro _ rfl;refine zf (λρ=>ρ=[q_ (.fd 0),q_ (.lst (hs.map hdD)),q_ (hdD hh),q_ (.int i),Q_ (.lst ((psF i hh.kinds).map prD)),Q_ (.lst ((zsF i hh.kinds.length).map D.str)),none]) ?_ ?_
 ·refine zv (rngD hh.kinds.length (25-hh.kinds.length)) (λψ hψ=>?_) (λj fs=>fs=((zsF i hh.kinds.length).take j).map D.str) (by rw[vc];omega) rfl ?_ ?_
  ·walk_at "dl";rw[pl];exact⟨⟨by omega,by omega,by decide,by decide⟩,by rw[show((25:Int)-hh.kinds.length).toNat=25-hh.kinds.length by omega];exact hψ⟩
  ·rintro j e fs he hle rfl;obtain⟨hj,rfl⟩:=ub he;walk_at "p";walk_at "dl";simp only[Q9,ZZ.g2];have ez:(zsF i hh.kinds.length)[j]?=some (nm i ((hh.kinds.length+j:Nat):Int)):=by
    unfold zsF;rw[zai,List.getElem?_range hj];rfl
   refine⟨i,hh.kinds.length+j,rfl,rfl,by omega,trivial,?_⟩
   rw[List.take_succ,ez,zMa];rfl
  ·rintro fs rfl;rw[vc,List.take_of_length_le (by omega)]
   exact⟨trivial,rfl⟩
 rintro _ rfl;refine zf (λρ=>∃(b:D)(c:List Str),Bo 5 b c/\Rb (hfs hs) hh.shape 4 5 (psF i hh.kinds) b/\ρ=[q_ (.fd 0),q_ (.lst (hs.map hdD)),q_ (hdD hh),q_ (.int i),q_ (.lst ((psF i hh.kinds).map prD)),q_ (.lst ((zsF i hh.kinds.length).map D.str)),q_ (rowD (b,c))]) ?_ ?_
 ·simp only[hdD];walk_at "dl";exact⟨_,_,_,_,_,_,rfl,rfl,hs,psF i hh.kinds,zsF i hh.kinds.length,hh.shape,rfl,oh,rfl,Mq k4 ohh.kinds,rfl,rfl,ohh.shape,rfl,by decide,λb c hbc hrb=>⟨trivial,b,c,hbc,hrb,rfl⟩⟩
 rintro _ ⟨b,c,hb,hrb,rfl⟩;simp only[hdD];walk_at "dl";exact⟨_,_,_,_,_,rfl,hh.name,psF i hh.kinds,hh.shape,hh.size,b,c,rfl,ohh.name,rfl,λz=>by rw[z,zLn]at pl;omega,by omega,N5 ohh.kinds,rfl,ohh.shape,rfl,by rw[ohh.gv.sz];omega,ohh.size,rfl,hb,λk hek=>⟨trivial,h ⟨hh.name,psF i hh.kinds,hh.shape,hh.size,b⟩ k hek ⟨rfl,N4 i hh.kinds,rfl,⟨ohh.name,by show 1<=(psF i hh.kinds).length;omega,by show(psF i hh.kinds).length<=4;omega,λp hp=>(N5 ohh.kinds p hp).1,(Mq (i:=i) k4 ohh.kinds).ot.nd,by show bn hh.shape hh.size ((psF i hh.kinds).map Prod.snd);rw[N4];exact ohh.gv⟩,hrb⟩⟩⟩
def W1(ws:List Str)(i:Nat):wsum (ws.take i)<=wsum ws:=by
 conv=>rhs;rw[<- List.take_append_drop i ws]
 rw[xi];omega
def prev(ws:List Str):Nat->Option Str
 |0=>none
 |j+1=>ws[j]?
def J8(ws:List Str):∀{j:Nat},j<=ws.length->(runL ("",none) (ws.take j)).2=prev ws j
 |0,_=>rfl
 |j+1,h=>by
  have e:ws.take (j+1)=ws.take j++[ws[j]]:=by rw[List.take_succ,zaf (by omega)];rfl
  rw[e,rm];show some _=ws[j]?;rw[zaf (by omega)]
def Wv{ws:List Str}{j:Nat}(h:j<ws.length):y3 (ws.take (j+1))=y3 (ws.take j)++sep (prev ws j) ws[j]++ws[j]:=by
 have e:ws.take (j+1)=ws.take j++[ws[j]]:=by rw[List.take_succ,zaf h];rfl
 have p:=J8 ws (Nat.le_of_lt h);unfold y3;rw[e,rm,<- p];rfl
def Tl(T:Tops mg)(F:Fun K "_law_line" "_law_line" (top 63) f fd)(m:mg "_law_line" = some (.ref f)):FD P w K mg base 1 "_law_line" ["_law_words"] A9:=by
 have S:zo ["_law_words","_law_line_here","_law_k"] ["_law_words"] (zd (top 63)):=by walk_at "f"
 walk_at "b";refine⟨_,(ze (zj (zt 1 S.nd zh))
   (ze (zj (fk (vf T.range (z9 (xt T.len (z9 (za 0) zb)) zb)) (zn (i:=2) S.nd rfl (by walk_at "o")) (yc 2) (ze (zj (yh (EW.et (rf (L7 (za 2) zc) (rf (qf hu (zk hu (za 0) (uw (za 2) zc)) zh) (qe (qf hu (zk hu (za 0) (za 2)) zh))))) (zi (zt 1 S.nd (y8 (za 1) zh))) y7))
    (zi (zt 1 S.nd (y8 (za 1) (zk hu (za 0) (za 2))))))))
   (zi (zp (za 1))))),?_⟩
 obtain⟨d,rfl,ws,rfl,hw,h⟩:=xv hT;refine zf (λρ=>ρ=[q_ (.lst (ws.map D.str)),q_ (.str ""),none]) ?_ ?_
 ·walk_at "dl"
 rintro _ rfl;refine zf (λρ=>∃a,ρ=[q_ (.lst (ws.map D.str)),q_ (.str (y3 ws)),a]) ?_ ?_
 ·refine rk (rngD 0 ws.length) (λψ hψ=>?_) (λj ρ=>∃a,ρ=[q_ (.lst (ws.map D.str)),q_ (.str (y3 (ws.take j))),a]) ⟨none,rfl⟩ ?_ ?_
  ·have:=wg ws;walk_at "dl";rw[Int.toNat_natCast];exact⟨by omega,by omega,hψ⟩
  ·rintro j d ρ hd ⟨a,rfl⟩;obtain⟨hj,rfl⟩:=ub hd;rw[Int.zero_add];have st:=Wv hj;have ll:=ss (ws.take (j+1));have lw:=W1 ws (j+1);have l0:=ss (ws.take j);have w0:=W1 ws j;rw[st,sLn,sLn]at ll;rw[st];have spl:(" " : Str).length=1:=by decide +kernel
   refine zf (λρ=>ρ=[q_ (.lst (ws.map D.str)),q_ (.str (y3 (ws.take j)++sep (prev ws j) ws[j])),q_ (.int j)]) ?_ ?_
   ·cases j with
    |zero =>
     rw[show prev ws 0=none from rfl,show sep none ws[0] = "" from rfl,sR];walk_at "dl";exact λz=>absurd z (by decide)
    |succ k =>
     have hk:k<ws.length:=by omega
     rw[show prev ws (k+1)=some ws[k] from zaf hk];walk_at "dl";rw[show((k+1:Nat):Int)-1=(k:Int) by omega,xh1 hk,zaf hk,xh1 hj,zaf hj]
     have s1:ws[k]≠"("->ws[k+1]≠")"->sep (some ws[k]) ws[k+1] = " ":=λa b=>if_pos ⟨a,b⟩;have s2:ws[k] = "("->sep (some ws[k]) ws[k+1] = "":=λa=>if_neg λz=>z.1 a;have s3:ws[k+1] = ")"->sep (some ws[k]) ws[k+1] = "":=λa=>if_neg λz=>z.2 a;walk_at "dl";refine⟨λ_=>⟨λn1=>⟨λn2=>⟨by rw[spl,yy];omega,by rw[s1 n1 n2]⟩,λe2=>by rw[s3 e2,sR]⟩,λe1=>by rw[s2 e1,sR]⟩,λz=>absurd (by omega:(0:Int)<((k+1:Nat):Int)) z⟩
   rintro _ rfl;walk_at "dl";rw[xh1 hj,zaf hj];exact⟨by rw[sLn,yy];omega,_,rfl⟩
  ·rintro ρ ⟨a,rfl⟩;rw[vc,List.take_length];exact⟨a,rfl⟩
 rintro _ ⟨a,rfl⟩;walk_at "dl";exact h
def Vk(T:Tops mg)(z4s:FD P w K mg base 1 "_law_cell_at" ["_law_script","_law_k"] Za)(z5f:FD P w K mg base 1 "_law_name" ["_law_cell","_law_k"] Q9)(z7k:FD P w K mg base 1 "_law_head" ["_law_name_here","_law_cell","_law_most"] En)(z6c:FD P w K mg base 18 "_law_function" ["_law_feed","_law_heads","_law_head_here","_law_words"] tFun)(F:Fun K "_law_grown" "_law_grown" (top 62) f fd)(m:mg "_law_grown" = some (.ref f)):FD P w K mg base 19 "_law_grown" ["_law_script"] Gn:=by
 have S:zo ["_law_script","_law_first","_law_many","_law_heads","_law_k","_law_most","_law_feed"] ["_law_script"] (zd (top 62)):=by walk_at "f"
 walk_at "b";refine⟨_,(ze (zj (zt 1 S.nd (zg z4s (hr.e rfl) (z9 (za 0) (z9 zc zb)))))
   (ze (zj (zt 2 S.nd (zk hu (y4 (z9 zc (z9 zc (z9 zc (z9 zc zb))))) (yt (za 1) zc))))
   (ze (zj (zt 3 S.nd (y4 zb)))
   (ze (zj (fk (vf T.range (z9 (za 2) zb)) (zn (i:=4) S.nd rfl (by walk_at "o")) (yc 4) (ze (zj (zt 5 S.nd (zk hu (y4 (z9 (Ro zc zc) (z9 zc (z9 zc zb)))) (yt (y8 (vj (za 1) zc) (za 4)) zc))))
    (ze (zj (yh (xr hu (za 2) zc) (zi (zt 5 S.nd zc)) y7))
    (zi (qo 3 (zg z7k (hr.e rfl) (z9 (zg z5f (hr.e rfl) (z9 (zg z4s (hr.e rfl) (z9 (za 0) (z9 zc zb))) (z9 (za 4) zb))) (z9 (zg z4s (hr.e rfl) (z9 (za 0) (z9 (y8 zc (za 4)) zb))) (z9 (za 5) zb))))))))))
   (ze (zj (zt 6 S.nd (y8 (y4 (z9 zc zb)) (yf (T:=["_law_cell"]) (F:=[]) (js:=[]) (yj (xf (za 0) (x8 (y8 zc (za 2))) (x8 zc))) (show zm (zd (top 62)) _ _ _ from by walk_at "c") .nil (by decide) (λcl C fp s H=>(zn (i:=0) (nd1 _) rfl (by walk_at "o"))) (zw (by decide)) (yc 0) (λcl C fp s H=>ya) (λcl C fp s H=>(yt (za 0) (Ro zc zc)))))))
   (zi (D4 6 0 (tf 3 (zp (G0 (T:=["_law_head_here"]) (F:=["_law_feed","_law_heads","_law_script"]) (js:=[6,3,0]) (yj (za 3)) (show zm (zd (top 62)) _ _ _ from by walk_at "c") (.cons rfl (.cons rfl (.cons rfl .nil))) (by decide) (λcl C fp s H=>(zn (i:=0) (show(["_law_head_here","_law_feed","_law_heads","_law_script"]:List Str).Nodup by decide +kernel) rfl (by walk_at "o"))) (zw (by decide)) (yc 0) (λcl C fp s H=>ya) (λcl C fp s H=>(zg z6c (hr.e rfl) (z9 (za 1) (z9 (za 2) (z9 (za 0) (z9 (zg z4s (hr.e rfl) (z9 (za 3) (z9 zc zb))) zb)))))))))))))))),?_⟩
 obtain⟨d,rfl,ns,rfl,h⟩:=xv hT;refine zf (λρ=>∃c:Int,ρ=[q_ (.scr ns),q_ (.int c),none,none,none,none,none]) ?_ ?_
 ·walk_at "dl";simp only[Za,ZZ.g2];exact⟨ns,2,rfl,rfl,trivial,_,rfl⟩
 rintro _ ⟨c,rfl⟩;obtain⟨q,q0,q8,eq⟩:=Nd c;refine zf (λρ=>ρ=[q_ (.scr ns),q_ (.int c),q_ (.int q),none,none,none,none]) ?_ ?_
 ·walk_at "dl";rw[eq]
 rintro _ rfl;refine zf (λρ=>ρ=[q_ (.scr ns),q_ (.int c),q_ (.int q),Q_ (.lst []),none,none,none]) ?_ ?_
 ·walk_at "dl"
 rintro _ rfl;refine zf (λρ=>∃(hs:List Hd)(a b:Option EV),(hs.map Hd.name=(List.range q.toNat).map λj=>nm (Pa ns 0) (j:Nat))/\(∀h∈hs,OkH h)/\ρ=[q_ (.scr ns),q_ (.int c),q_ (.int q),Q_ (.lst (hs.map hdD)),a,b,none]) ?_ ?_
 ·refine rk (rngD 0 q.toNat) (λψ hψ=>?_) (λj ρ=>∃(hs:List Hd)(a b:Option EV),(hs.map Hd.name=(List.range j).map λj=>nm (Pa ns 0) (j:Nat))/\(∀h∈hs,OkH h)/\ρ=[q_ (.scr ns),q_ (.int c),q_ (.int q),Q_ (.lst (hs.map hdD)),a,b,none]) ⟨[],none,none,rfl,λ_ z=>(nomatch z),rfl⟩ ?_ ?_
  ·walk_at "dl";exact⟨by omega,by omega,hψ⟩
  ·rintro j d ρ hd ⟨hs,a,b,hl8,hg,rfl⟩;obtain⟨hj,rfl⟩:=ub hd;rw[Int.zero_add];obtain⟨M,M0,M1,eM⟩:=Nc (c.fdiv 4+j);refine zf (λρ=>∃M:Int,0<M/\M<=10 ^ 60/\ρ=[q_ (.scr ns),q_ (.int c),q_ (.int q),Q_ (.lst (hs.map hdD)),q_ (.int j),q_ (.int M),none]) ?_ ?_
   ·walk_at "dl";rw[eM];exact⟨of_eq_true (xk (by decide) (by decide)),M,M0,M1,rfl⟩
   rintro _ ⟨M,M0,M1,rfl⟩;refine zf (λρ=>∃M:Int,0<M/\M<=10 ^ 60/\ρ=[q_ (.scr ns),q_ (.int c),q_ (.int q),Q_ (.lst (hs.map hdD)),q_ (.int j),q_ (.int M),none]) ?_ ?_
   ·walk_at "dl";exact⟨λ_=>⟨1000,by decide,by decide,rfl⟩,λ_=>⟨M,M0,M1,rfl⟩⟩
   rintro _ ⟨M,M0,M1,rfl⟩;refine Yi rfl ?_;walk_at "dl";simp only[Za,Q9,En,ZZ.g2,ZZ.g3];have hlj:hs.length=j:=by have:=congrArg List.length hl8;rwa [zLm,zLm,List.length_range]at this
   refine⟨ns,0,rfl,rfl,Pa ns 0,j,rfl,rfl,by omega,ns,3+j,rfl,by rw[show((3+j:Nat):Int)=3+(j:Int) by omega],_,_,M,rfl,Ca _ _,rfl,rfl,M0,M1,λhd hnm ohd=>⟨trivial,by omega,hs++[hd],_,_,by rw[zMa,hl8,List.range_succ,zMa,List.map_singleton,hnm];rfl,λz hz=>?_,by rw[zMa];rfl⟩⟩
   rcases zas.mp hz with hz|hz
   ·exact hg z hz
   ·rw[List.mem_singleton.mp hz];exact ohd
  ·rintro ρ ⟨hs,a,b,hl8,hg,rfl⟩;rw[vc]at hl8;exact⟨hs,a,b,hl8,hg,rfl⟩
 rintro _ ⟨hs,a,b,hnm,hg,rfl⟩;have hlq:hs.length=q.toNat:=by have:=congrArg List.length hnm;rwa [zLm,zLm,List.length_range]at this
 have oh:OkHs hs:=⟨hg,by omega,by
  rw[hnm];have nd:=Wr (Pa ns 0);rw[show 25=q.toNat+(25-q.toNat) by omega,List.range_add,zMa]at nd
  exact(List.nodup_append.mp nd).1⟩
 obtain⟨xs,ex,lx⟩:=G6 ns (some (3+q));refine zf (λρ=>∃fs:List Int,1<=fs.length/\fs.length<=100/\ρ=[q_ (.scr ns),q_ (.int c),q_ (.int q),Q_ (.lst (hs.map hdD)),a,b,Q_ (.lst (fs.map D.int))]) ?_ ?_
 ·walk_at "dl";refine zv (xs.map D.int) (λψ hψ=>?_) (λi fs=>∃zs:List Int,fs=zs.map D.int/\zs.length=i) (by rw[zLm];omega) ⟨[],rfl,rfl⟩ ?_ ?_
  ·walk_at "dl";rw[ex];exact hψ
  ·rintro i e fs he hle ⟨zs,rfl,lz⟩;rw[zai]at he;obtain⟨p,hp,rfl⟩:=zar.mp he;walk_at "p";walk_at "dl";exact⟨zs++[_],by rw[zMa];rfl,by rw[zLa,lz];rfl⟩
  rintro fs ⟨zs,rfl,lz⟩;rw[zLm]at lz;walk_at "dl";exact⟨by rw[yy];omega,40::zs,by rw[zLc];omega,by rw[zLc];omega,rfl⟩
 rintro _ ⟨fs,f1,f100,rfl⟩;refine⟨fs,rfl,⟨by omega,λ_=>f1,λn hn hm=>absurd hm (by decide)⟩,?_⟩
 walk_at "dl";refine Lo (hs.map hdD) (λψ hψ=>?_) (λi ds=>∃rs,K5 hs i ds rs) (by rw[zLm];omega) ⟨[],rfl,rfl,λ_ _ _ z=>by simp at z⟩ ?_ ?_
 ·walk_at "dl";exact hψ
 ·rintro i e gs he hle ⟨qs,wd⟩;rw[zai]at he;obtain⟨p,hp,rfl⟩:=zar.mp he;walk_at "p";walk_at "dl";simp only[Za,ZZ.g2];exact⟨ns,1,rfl,rfl,_,_,_,_,rfl,rfl,hs,p,_,rfl,oh,rfl,hg p (zan hp),rfl,λf k hek hfi=>⟨trivial,_,N0 wd hp hek hfi⟩⟩
 ·rintro gs ⟨rs,R⟩;rw[zLm]at R;have e:=R.eq;subst e;obtain⟨g1,g21⟩:=R.prog oh (by omega)
  exact⟨trivial,h rs g1 g21⟩
inductive Pt where
 |w (z:Str)
 |b (ps:List Pt)
mutual
def pd:Pt->D
 |.w z=>.str z
 |.b ps=>.lst (pds ps)
def pds:List Pt->List D
 |[]=>[]
 |p::ps=>pd p::pds ps
end
mutual
def pw:Pt->List Str
 |.w z=>[z]
 |.b ps=>lp::(pws ps++[rp])
def pws:List Pt->List Str
 |[]=>[]
 |p::ps=>pw p++pws ps
end
mutual
def LR(H:Hp)(P:Addr->Prop):Pt->V->Prop
 |.w z,v=>v=.str z
 |.b ps,v=>∃a xs,v=.ref a/\H a=some (.lst xs)/\P a/\LRs H P ps xs
def LRs(H:Hp)(P:Addr->Prop):List Pt->List V->Prop
 |[],xs=>xs=[]
 |p::ps,xs=>∃v r,xs=v::r/\LR H P p v/\LRs H P ps r
end
mutual
def LR.hop{H H':Hp}{P P':Addr->Prop}(k:∀ b u,H b=some u->P b->H' b=some u/\P' b):∀(p:Pt)(v:V),LR H P p v->LR H' P' p v
 |.w _,_,h=>h
 |.b ps,v,h=>by
  obtain⟨a,xs,e,q,n,r⟩:=h;exact⟨a,xs,e,(k _ _ q n).1,(k _ _ q n).2,LRs.hop k ps xs r⟩
def LRs.hop{H H':Hp}{P P':Addr->Prop}(k:∀ b u,H b=some u->P b->H' b=some u/\P' b):∀(ps:List Pt)(xs:List V),LRs H P ps xs->LRs H' P' ps xs
 |[],_,h=>h
 |p::ps,xs,h=>by
  obtain⟨v,r,e,q,t⟩:=h;exact⟨v,r,e,LR.hop k p v q,LRs.hop k ps r t⟩
end
mutual
def LR.rep{K:W.Frag}{H:Hp}{P:Addr->Prop}:∀(p:Pt)(v:V),LR H P p v->RepN K H P (pd p) v
 |.w _,_,h=>h
 |.b ps,v,h=>by
  obtain⟨a,xs,e,q,n,r⟩:=h;exact⟨a,xs,e,q,n,LRs.rep ps xs r⟩
def LRs.rep{K:W.Frag}{H:Hp}{P:Addr->Prop}:∀(ps:List Pt)(xs:List V),LRs H P ps xs->x6 K H P (pds ps) xs
 |[],_,h=>h
 |p::ps,xs,h=>by
  obtain⟨v,r,e,q,t⟩:=h;exact⟨v,r,e,LR.rep p v q,LRs.rep ps r t⟩
end
def LRs.snoc{H:Hp}{P:Addr->Prop}{p:Pt}{v:V}(q:LR H P p v):∀{ps:List Pt}{xs:List V},LRs H P ps xs->LRs H P (ps++[p]) (xs++[v])
 |[],_,h=>by cases h;exact⟨v,[],rfl,q,rfl⟩
 |p'::ps,xs,h=>by
  obtain⟨u,r,rfl,q',t⟩:=h;exact⟨u,r++[v],rfl,q',LRs.snoc q t⟩
def LRs.len{H:Hp}{P:Addr->Prop}:∀{ps:List Pt}{xs:List V},LRs H P ps xs->xs.length=ps.length
 |[],_,h=>by cases h;rfl
 |p::ps,xs,h=>by
  obtain⟨u,r,rfl,q',t⟩:=h;rw[zLc,zLc,LRs.len t]
def Stk(H:Hp)(P:Addr->Prop):List (Addr×List Pt)->Prop
 |[]=>True
 |(a,ps)::r=>(∃xs,H a=some (.lst xs)/\LRs H P ps xs)/\Stk H P r
def Stk.hop{H H':Hp}{P P':Addr->Prop}(k:∀ b u,H b=some u->P b->H' b=some u/\P' b):∀{st:List (Addr×List Pt)},(∀b∈st.map Prod.fst,∀u,H b=some u->H' b=some u)->Stk H P st->Stk H' P' st
 |[],_,_=>trivial
 |(a,ps)::r,g,⟨⟨xs,q,l⟩,t⟩=>⟨⟨xs,g a zao _ q,LRs.hop k _ _ l⟩,Stk.hop k (λb hb=>g b (zal _ hb)) t⟩
def Stk.at{H:Hp}{P:Addr->Prop}:∀{st:List (Addr×List Pt)},Stk H P st->∀a∈st.map Prod.fst,∃u,H a=some u
 |(a,ps)::r,⟨⟨xs,q,_⟩,t⟩,b,hb=>by
  rcases zam.mp hb with e|hb
  ·subst e;exact⟨_,q⟩
  ·exact Stk.at t b hb
def refs(st:List (Addr×List Pt)):List V:=(st.map λp=>V.ref p.1).reverse
structure NS(H₀ H:Hp)(A:Addr)(st:List (Addr×List Pt)):Prop where
 same:Same H₀ H
 fr:∀a∈A::st.map Prod.fst,H₀ a=none
 nd:(A::st.map Prod.fst).Nodup
 lA:H A=some (.lst (refs st))
 sk:Stk H (λb=>H₀ b=none/\b∉A::st.map Prod.fst) st
def ur{H₀ H:Hp}{a:Addr}{o:HO}(s:Same H₀ H)(h:H₀ a=none):Same H₀ (upd H a o):=λb u hb=>by
 rw[zy (λe=>by subst e;rw[h]at hb;cases hb)]
 exact s b u hb
def NS.opn{H₀ H:Hp}{A:Addr}{st:List (Addr×List Pt)}(n:NS H₀ H A st){p:Addr}(hp:H p=none):NS H₀ (upd (upd H p (.lst [])) A (.lst (refs st++[.ref p]))) A ((p,[])::st):=by
 have pA:p≠A:=λe=>by subst e;rw[n.lA]at hp;cases hp
 have ps:p∉st.map Prod.fst:=λz=>by obtain⟨u,e⟩:=n.sk.at p z;rw[hp]at e;cases e
 have hp0:=n.same.free hp;have nd:=List.nodup_cons.mp n.nd;refine⟨ur (ur n.same hp0) (n.fr A zao),λa ha=>?_,?_,?_,⟨⟨[],by rw[zy pA];exact zu,rfl⟩,Stk.hop (λb u hb q=>?_) (λb hb u hu=>?_) n.sk⟩⟩
 ·rcases zam.mp ha with e|ha
  ·subst e;exact n.fr _ zao
  ·rcases zam.mp ha with e|ha
   ·rw[e];exact hp0
   ·exact n.fr a (zal _ ha)
 ·rw[List.nodup_cons];refine⟨λz=>?_,List.nodup_cons.mpr ⟨ps,nd.2⟩⟩;rcases zam.mp z with e|z
  ·exact pA e.symm
  ·exact nd.1 z
 ·rw[zu];unfold refs;rw[List.map_cons,List.reverse_cons]
 ·have bp:b≠p:=λe=>by subst e;rw[hp]at hb;cases hb
  have bA:b≠A:=λe=>q.2 (by rw[e];exact zao)
  refine⟨by rw[zy bA,zy bp];exact hb,q.1,λz=>?_⟩
  rcases zam.mp z with e|z
  ·exact bA e
  ·rcases zam.mp z with e|z
   ·exact bp e
   ·exact q.2 (zal _ z)
 ·have bp:b≠p:=λe=>by subst e;exact ps hb
  have bA:b≠A:=λe=>by subst e;exact nd.1 hb
  rw[zy bA,zy bp];exact hu
def NS.add{H₀ H:Hp}{A a:Addr}{ps:List Pt}{st:List (Addr×List Pt)}(n:NS H₀ H A ((a,ps)::st))(z:Str):∃xs,H a=some (.lst xs)/\xs.length=ps.length/\NS H₀ (upd H a (.lst (xs++[.str z]))) A ((a,ps++[.w z])::st):=by
 obtain⟨⟨xs,q,l⟩,t⟩:=n.sk;have nd:=List.nodup_cons.mp n.nd;have nd2:=List.nodup_cons.mp nd.2;have aA:A≠a:=λe=>nd.1 (by rw[e];exact zao)
 have k:∀b u,H b=some u->(H₀ b=none/\b∉A::((a,ps)::st).map Prod.fst)->upd H a (.lst (xs++[.str z])) b=some u/\(H₀ b=none/\b∉A::((a,ps++[.w z])::st).map Prod.fst):=λb u hb g=>by
  have ba:b≠a:=λe=>g.2 (by rw[e];exact zal _ zao)
  exact⟨by rw[zy ba];exact hb,g⟩
 exact⟨xs,q,l.len,ur n.same (n.fr a (zal _ zao)),n.fr,n.nd,by rw[zy aA];exact n.lA,⟨xs++[.str z],zu,LRs.snoc (p:=.w z) (v:=.str z) (by exact rfl) (LRs.hop k _ _ l)⟩,Stk.hop k (λb hb u hu=>by rw[zy (λe=>by subst e;exact nd2.1 hb)];exact hu) t⟩
def NS.cls{H₀ H:Hp}{A a b:Addr}{ps qs:List Pt}{st:List (Addr×List Pt)}(n:NS H₀ H A ((a,ps)::(b,qs)::st)):∃ys,upd H A (.lst (refs ((b,qs)::st))) b=some (.lst ys)/\ys.length=qs.length/\NS H₀ (upd (upd H A (.lst (refs ((b,qs)::st)))) b (.lst (ys++[.ref a]))) A ((b,qs++[.b ps])::st):=by
 obtain⟨⟨xs,q,l⟩,⟨ys,q2,l2⟩,t⟩:=n.sk;have nd:=List.nodup_cons.mp n.nd;have nd2:=List.nodup_cons.mp nd.2;have nd3:=List.nodup_cons.mp nd2.2;have hA:A≠a:=λe=>nd.1 (by rw[e];exact zao)
 have hB:A≠b:=λe=>nd.1 (by rw[e];exact zal _ zao)
 have hab:a≠b:=λe=>nd2.1 (by rw[e];exact zao)
 have k:∀c u,H c=some u->(H₀ c=none/\c∉A::((a,ps)::(b,qs)::st).map Prod.fst)->upd (upd H A (.lst (refs ((b,qs)::st)))) b (.lst (ys++[.ref a])) c=some u/\(H₀ c=none/\c∉A::((b,qs++[.b ps])::st).map Prod.fst):=λc u hc g=>by
  have cA:c≠A:=λe=>g.2 (by rw[e];exact zao)
  have cb:c≠b:=λe=>g.2 (by rw[e];exact zal _ (zal _ zao))
  refine⟨by rw[zy cb,zy cA];exact hc,g.1,λz=>?_⟩
  rcases zam.mp z with e|z
  ·exact cA e
  ·exact g.2 (zal _ (zal _ z))
 have fa:H₀ a=none:=n.fr a (zal _ zao);have fb:H₀ b=none:=n.fr b (zal _ (zal _ zao));have la:LR (upd (upd H A (.lst (refs ((b,qs)::st)))) b (.lst (ys++[.ref a]))) (λc=>H₀ c=none/\c∉A::((b,qs++[.b ps])::st).map Prod.fst) (.b ps) (.ref a):=⟨a,xs,rfl,by rw[zy hab,zy hA.symm];exact q,⟨fa,λz=>by
  rcases zam.mp z with e|z
  ·exact hA e.symm
  ·exact nd2.1 z⟩,LRs.hop k _ _ l⟩
 refine⟨ys,by rw[zy hB.symm];exact q2,l2.len,ur (ur n.same (n.fr A zao)) fb,λc hc=>?_,?_,by rw[zy hB,zu];rfl,⟨ys++[.ref a],zu,LRs.snoc la (LRs.hop k _ _ l2)⟩,Stk.hop k (λc hc u hu=>?_) t⟩
 ·rcases zam.mp hc with e|hc
  ·subst e;exact n.fr _ zao
  ·exact n.fr c (zal _ (zal _ hc))
 ·rw[List.nodup_cons];exact⟨λz=>nd.1 (zal _ z),nd2.2⟩
 ·have cA:c≠A:=λe=>by subst e;exact nd.1 (zal _ (zal _ hc))
  have cb:c≠b:=λe=>by subst e;exact nd3.1 hc
  rw[zy cb,zy cA];exact hu
def uz:List (List Pt)->Str->Option (List (List Pt))
 |[],_=>none
 | ps::r,w=>if w=lp then some ([]::ps::r) else if w=rp then(match r with
  |[]=>none
  | qs::r'=>some ((qs++[.b ps])::r')) else some ((ps++[.w w])::r)
def Oh(ps:List Pt)(r:List (List Pt)):uz (ps::r) lp=some ([]::ps::r):=by simp[uz]
def Og(ps qs:List Pt)(r:List (List Pt)):uz (ps::qs::r) rp=some ((qs++[.b ps])::r):=by simp[uz,Jp.symm]
def Gv(ps:List Pt)(r:List (List Pt)){z:Str}(h1:z≠lp)(h2:z≠rp):uz (ps::r) z=some ((ps++[.w z])::r):=by simp[uz,h1,h2]
def runN:List (List Pt)->List Str->Option (List (List Pt))
 |st,[]=>some st
 |st,w::ws=>(uz st w).bind λst'=>runN st' ws
def Yk:∀(ws vs:List Str)(st:List (List Pt)),runN st (ws++vs)=(runN st ws).bind λst'=>runN st' vs
 |[],_,_=>rfl
 |w::ws,vs,st=>by
  show(uz st w).bind _=((uz st w).bind _).bind _;rw[Option.bind_assoc]
  congr 1
  funext st'
  exact Yk ws vs st'
mutual
def Pt.ok:Pt->Prop
 |.w z=>z≠lp/\z≠rp
 |.b ps=>Pt.oks ps
def Pt.oks:List Pt->Prop
 |[]=>True
 |p::ps=>p.ok/\Pt.oks ps
end
mutual
def Aq:∀(p:Pt),p.ok->∀(ps:List Pt)(r:List (List Pt)),runN (ps::r) (pw p)=some ((ps++[p])::r)
 |.w z,h,ps,r=>by
  show(uz (ps::r) z).bind _=_;rw[Gv ps r h.1 h.2];rfl
 |.b qs,h,ps,r=>by
  show(uz (ps::r) lp).bind _=_;rw[Oh];show runN ([]::ps::r) (pws qs++[rp])=_;rw[Yk,Uk qs h [] (ps::r)];show(uz (([]++qs)::ps::r) rp).bind _=_;rw[Og];rfl
def Uk:∀(qs:List Pt),Pt.oks qs->∀(ps:List Pt)(r:List (List Pt)),runN (ps::r) (pws qs)=some ((ps++qs)::r)
 |[],_,ps,r=>by rw[List.append_nil];rfl
 |q::qs,h,ps,r=>by
  show runN (ps::r) (pw q++pws qs)=_;rw[Yk,Aq q h.1 ps r];show runN ((ps++[q])::r) (pws qs)=_;rw[Uk qs h.2,List.append_assoc];rfl
end
def O7:FT:=g1 λd φ=>∃(zs:List Str)(ps:List Pt),d=.lst (zs.map D.str)/\zs.length<=1000000/\runN [[]] zs=some [ps]/\φ ⟨.new,.lst (pds ps)⟩
structure NW(H₀:Hp)(a A:Addr)(zs:List Str)(ps:List Pt)(i:Nat)(σ:St)(H:Hp):Prop where
 sg:∃x y,σ=[some (.ref a),some (.ref A),x,y]
 ex:∃st,NS H₀ H A st/\runN (st.map Prod.snd) (zs.drop i)=some [ps]/\st.length<=i+1/\∀p∈st,p.2.length<=i
def NS.start{H₀:Hp}{p A:Addr}(hp:H₀ p=none)(hA:upd H₀ p (.lst []) A=none):NS H₀ (upd (upd H₀ p (.lst [])) A (.lst [.ref p])) A [(p,[])]:=by
 have pA:p≠A:=λe=>by subst e;rw[zu]at hA;cases hA
 have hA0:H₀ A=none:=by rw[zy (Ne.symm pA)]at hA;exact hA
 refine⟨ur (ur (Same.refl _) hp) hA0,λa ha=>?_,List.nodup_cons.mpr ⟨λz=>pA (List.mem_singleton.mp z).symm,by simp⟩,zu,⟨[],by rw[zy pA];exact zu,rfl⟩,trivial⟩
 rcases zam.mp ha with e|ha
 ·rw[e];exact hA0
 ·rw[List.mem_singleton.mp ha];exact hp
def J6{n:Nat}(h:n<=1000002):n<sizeLine:=by rw[yy];omega
def Yp(st:List (Addr×List Pt)):(refs st).length=st.length:=by unfold refs;simp
def Yo(a:Addr)(ps:List Pt)(st:List (Addr×List Pt)):refs ((a,ps)::st)=refs st++[.ref a]:=by unfold refs;simp
def Ec(xs:List V)(v:V):atI (xs++[v]) (-1)=some v:=bg xs v
def L0(T:Tops mg)(F:Fun K "nested" "nested" (top 28) f fd)(m:mg "nested" = some (.ref f)):FD P w K mg base 1 "nested" ["words"] O7:=by
 have S:zo ["words","around","word","inner"] ["words"] (zd (top 28)):=by walk_at "f"
 refine⟨f,fd,F.ok S (λvs H Q E h=>?_) (λqZ A0 outer s H₀ vs Q E hr h=>?_),F.binds λ_ _ _ _ _ _ us hl=>(by obtain⟨_,rfl⟩:=xp hl;rfl),F.kp,m⟩
 ·obtain⟨ds,φ,hl,r,_⟩:=h;rw[r.length,hl]
 obtain⟨ds,φ,hl,r,hT,kk⟩:=h;obtain⟨d,rfl,zs,ps,rfl,hz,hrun,hφ⟩:=xv hT;obtain⟨v,ws,rfl,⟨a,xs,rfl,ha,_,rx⟩,rfl⟩:=r;have ex:=d4 rx;subst ex;refine⟨_,ut (Sq S.nd (i:=1) rfl (.inl rfl) (Wi (xx (Wi vb) vb)))
  (ut (Fc PassesOwn.never rfl (Dv (pv 0)) (zn (i:=2) S.nd rfl (.inl rfl)) (vz (Ul (rq z1a (pv 2) Nj rfl)
   (vz (rz (Yv PySem.F.plainAttrs_list PySem.F.slot_list_append PySem.F.type_list_append tv (pv 1) (xx (Wi vb) vb))))
   (vz (Ul (rq z3q (pv 2) Nj rfl)
    (vz (rz (Yv PySem.F.plainAttrs_list PySem.F.slot_list_append PySem.F.type_list_append tv (Wj c6 (pv 1) (Dw Pw tm) (by intro _ _;rfl)) (xx (pv 2) vb))))
    (vz (Ul (rq z1a (qq u9 rfl T.len PySem.boot_len (xx (pv 1) vb)) tm rfl) d7
     (ut (Sq S.nd (i:=3) rfl (.inl rfl) (Fd PySem.F.plainAttrs_list PySem.F.slot_list_pop PySem.F.type_list_pop Fh (pv 1)))
      (vz (rz (Yv PySem.F.plainAttrs_list PySem.F.slot_list_append PySem.F.type_list_append tv (Wj c6 (pv 1) (Dw Pw tm) (by intro _ _;rfl)) (xx (pv 3) vb))))))))))))
  (ut (Ul (rq Jk (qq u9 rfl T.len PySem.boot_len (xx (pv 1) vb)) tm rfl) d7 Ys)
   (vz (Zm (Wj c6 (pv 1) tm (by intro _ _;rfl)))))),?_⟩
 have z0:0<=sizeLine:=Nat.zero_le _;refine⟨z0,λp hp=>⟨Nat.le_of_lt (J6 (by simp)),λA hA=>?_⟩⟩
 have n0:=NS.start hp hA;refine⟨.ref a,rfl,a,rfl,⟨_,SqL.of (n0.same _ _ ha)⟩,λi k σ H=>i+k=zs.length/\NW H₀ a A zs ps i σ H,⟨zs.length,Nat.zero_add _,⟨none,none,rfl⟩,_,n0,hrun,by simp,λq hq=>by rw[List.mem_singleton.mp hq];exact Nat.zero_le _⟩,λi k σ H hW=>?_⟩
 obtain⟨hik,⟨x0,y0,rfl⟩,st,n,hr1,hl1,hl2⟩:=hW;have sq:SqL K H a (zs.map V.str):=SqL.of (n.same _ _ ha);rcases Nat.lt_or_ge i zs.length with hi|hi
 ·right
  have hd:zs.drop i=zs[i]::zs.drop (i+1):=List.drop_eq_getElem_cons hi;rw[hd]at hr1;refine⟨⟨_,.str zs[i],sq,by rw[zai,zaf hi];rfl⟩,λσ' H'=>NW H₀ a A zs ps (i+1) σ' H',λσ' H' q=>⟨k-1,by omega,by omega,q⟩,λx H' hy=>?_⟩
  obtain⟨rfl,hx⟩:=hy;have ex:=hx _ sq;rw[zai,zaf hi]at ex;have ex:V.str zs[i]=x:=Option.some.inj ex;subst ex;generalize zs[i]=z at *;cases st with
  |nil=>cases hr1
  |cons t st =>
   obtain⟨ta,tp⟩:=t;rw[zLc]at hl1;refine⟨_,rfl,rfl,_,rfl,ite2 (λc=>?_) (λc=>?_)⟩
   ·have c:z=lp:=by have:=of_decide_eq_true c;exact V.str.inj this
    subst c;have hr2:runN (((tp::st.map Prod.snd).length,()).1 |> λ_=>([]:List Pt)::tp::st.map Prod.snd) (zs.drop (i+1))=some [ps]:=by
     have e:(uz (tp::st.map Prod.snd) lp).bind _=_:=hr1;rw[Oh]at e;exact e
    refine⟨_,rfl,.inl ⟨rfl,_,SqL.of n.lA⟩,z0,λp hp=>⟨A,_,_,rfl,rfl,?_,?_,⟨_,_,rfl⟩,_,n.opn hp,hr2,?_,?_⟩⟩
    ·have pA:A≠p:=λe=>by subst e;rw[n.lA]at hp;cases hp
     rw[zy pA];exact n.lA
    ·rw[Yp];exact J6 (by rw[zLc];omega)
    ·rw[zLc,zLc];omega
    ·intro q hq;rcases zam.mp hq with e|hq
     ·rw[e];exact Nat.zero_le _
     ·exact Nat.le_succ_of_le (hl2 q hq)
   ·have c:z≠lp:=λe=>c (by rw[e];exact decide_eq_true rfl)
    refine⟨_,rfl,rfl,_,rfl,ite2 (λc2=>?_) (λc2=>?_)⟩
    ·have c2:z≠rp:=λe=>by rw[e]at c2;exact absurd c2 (by decide +kernel)
     have hr2:runN ((tp++[.w z])::st.map Prod.snd) (zs.drop (i+1))=some [ps]:=by
      have e:(uz (tp::st.map Prod.snd) z).bind _=_:=hr1;rw[Gv _ _ c c2]at e;exact e
     obtain⟨ys,h1,h2,n2⟩:=n.add z;have ht:tp.length<=i:=hl2 _ zao;refine⟨_,rfl,1,rfl,A,_,-1,.ref ta,rfl,rfl,SqL.of n.lA,by rw[Yo];exact Ec _ _,.inl ⟨rfl,_,SqL.of h1⟩,_,rfl,ta,_,_,rfl,rfl,h1,by rw[h2];exact J6 (by omega),⟨_,_,rfl⟩,_,n2,hr2,?_,?_⟩
     ·rw[zLc];omega
     ·intro q hq;rcases zam.mp hq with e|hq
      ·rw[e];show(tp++[_]).length<=_;rw[zLa];exact Nat.succ_le_succ ht
      ·exact Nat.le_succ_of_le (hl2 q (zal _ hq))
    ·have c2:z=rp:=by
      rcases Decidable.em (z=rp) with e|e
      ·exact e
      ·exact absurd (congrArg not (decide_eq_false (p:=V.str z=V.str ")") λy=>e (V.str.inj y))) c2
     subst c2;cases st with
     |nil =>
      have e:(uz [tp] rp).bind _=_:=hr1;rw[show uz [tp] rp=none by simp[uz,Jp.symm]]at e
      cases e
     |cons t2 st =>
      obtain⟨tb,tq⟩:=t2;rw[zLc]at hl1;have hr2:runN ((tq++[.b tp])::st.map Prod.snd) (zs.drop (i+1))=some [ps]:=by
       have e:(uz (tp::tq::st.map Prod.snd) rp).bind _=_:=hr1;rw[Og]at e;exact e
      obtain⟨ys,h1,h2,n2⟩:=n.cls;have ht:tq.length<=i:=hl2 _ (zal _ zao);have e1:refs ((ta,tp)::(tb,tq)::st)=refs ((tb,tq)::st)++[.ref ta]:=Yo _ _ _;have nl:=n.lA;rw[e1]at nl;refine⟨_,rfl,A,_,rfl,.inl (SqL.of nl),rfl,_,rfl,ite2 (λc3=>?_) (λc3=>?_)⟩
      ·have:=V.int.inj (of_decide_eq_true c3);rw[zLa,Yp,zLc]at this;simp at this;omega
      refine⟨_,rfl,.inl ⟨rfl,_,SqL.of nl⟩,A,_,.ref ta,rfl,rfl,nl,by simp,?_⟩
      rw[List.dropLast_concat];refine⟨_,rfl,1,rfl,A,_,-1,.ref tb,rfl,rfl,SqL.of zu,by rw[Yo];exact Ec _ _,.inl ⟨rfl,_,SqL.of h1⟩,_,rfl,tb,_,_,rfl,rfl,h1,by rw[h2];exact J6 (by omega),⟨_,_,rfl⟩,_,n2,hr2,?_,?_⟩
      ·rw[zLc];omega
      ·intro q hq;rcases zam.mp hq with e|hq
       ·rw[e];show(tq++[_]).length<=_;rw[zLa];exact Nat.succ_le_succ ht
       ·exact Nat.le_succ_of_le (hl2 q (zal _ (zal _ hq)))
 ·left
  rw[List.drop_eq_nil_of_le hi]at hr1;have hs:st.map Prod.snd=[ps]:=Option.some.inj hr1;refine⟨⟨_,sq,by rw[zLm];exact hi⟩,?_⟩
  match st,hs with
  |[(ta,tp)],hs =>
   have e:tp=ps:=(List.cons.inj hs).1;subst e;refine⟨_,rfl,A,_,rfl,.inl (SqL.of n.lA),_,_,rfl,rfl,_,rfl,ite2 (λc3=>absurd (of_decide_eq_true c3) (by rw[Yp];exact Int.lt_irrefl 1)) (λ_=>?_)⟩
   obtain⟨⟨xs,q,l⟩,_⟩:=n.sk;refine⟨_,rfl,A,_,0,.ref ta,rfl,rfl,SqL.of n.lA,rfl,kk _ ⟨.new,.lst (pds tp)⟩ H n.same ?_ trivial hφ⟩;exact⟨ta,xs,rfl,q,⟨by simp,n.fr ta (zal _ zao)⟩,x6.to (Same.refl _) (λc g=>⟨by simp,g.1⟩) _ _ (LRs.rep _ _ l)⟩
def Np:∀{n:Nat}{d:D},okD n d->okD (n+1) d
 |0,d,h=>by
  cases d with
  |non=>trivial
  |bl=>trivial
  |int=>trivial
  |str=>trivial
  |_=>exact h.elim
 |n+1,d,h=>by
  cases d with
  |non=>trivial
  |bl=>trivial
  |int=>trivial
  |str=>trivial
  |tup ds=>exact λx hx=>Np (h x hx)
  |lst ds=>exact λx hx=>Np (h x hx)
  |_=>exact h.elim
def d8{n m:Nat}{d:D}(hl:n<=m)(h:okD n d):okD m d:=by
 induction hl with
 |refl=>exact h
 |step _ ih=>exact Np ih
def Ko:List D->Prop:=λds=>∃ps,ds=[.lst ps]
def Kr:List D->Prop:=λds=>∃ps:List D,ds=[.lst ps,.int ps.length]
def rj:FT:=g1 λd φ=>∃(z:Str)(ps:List D),d=.lst (.str z::ps)/\okD 40 d/\φ (dv (.str z))
def kz:FT:=g21 λd k φ=>∃zs:List Str,d=.lst (zs.map D.str)/\k=.int zs.length/\(∀z∈zs,IsNm z)/\zs.length<=100/\φ (dv (.tup (zs.map D.str)))
def uf:List (Str×Cst):=[("give",.int 2),("let",.int 4),("less",.int 5),("list",.int 5),("tree",.int 5)]
def v8:List (Str×Cst):=[("cons",.int 3),("node",.int 4),("add",.int 3),("sub",.int 3)]
def b7:List (Str×Cst):=[("list",.int 2),("tree",.int 3)]
def RdE:Nat->D->D->Prop
 |0,_,_=>False
 |n+1,p,e=>(∃z,p=.str z/\Wd z e)\/(∃f ps es,IsNm f/\wx (RdE n) ps es/\ps.length<=4/\p=.lst (.str "call"::.str f::ps)/\e=.tup [.str "call",.str f,.tup es]) \/
  (∃o ps es,o∈ops/\wx (RdE n) ps es/\ps.length=ar o/\p=.lst (.str o::ps)/\e=.tup (.str o::es))
def wx.at{α:Type}{R:D->α->Prop}{es:List D}{rs:List α}(h:wx R es rs){e:D}(he:e∈es):∃r∈rs,R e r:=by
 obtain⟨i,hi⟩:=List.getElem?_of_mem he;have hl:=(zag.mp hi).1;have hc:rs[i]?=some (rs[i]'(by rw[<- h.1];exact hl)):=zaf _
 exact⟨_,zan hc,h.2 i e _ hi hc⟩
def wx.at'{α:Type}{R:D->α->Prop}{es:List D}{rs:List α}(h:wx R es rs){r:α}(hr:r∈rs):∃e∈es,R e r:=by
 obtain⟨i,hi⟩:=List.getElem?_of_mem hr;have hl:=(zag.mp hi).1;have hc:es[i]?=some (es[i]'(by rw[h.1];exact hl)):=zaf _
 exact⟨_,zan hc,h.2 i _ r hc hi⟩
def Ek{z:Str}{e:D}(h:Wd z e):sw e:=by
 rcases h with⟨_,rfl⟩|⟨_,rfl⟩|⟨i,_,_,rfl⟩
 ·exact⟨trivial,trivial⟩
 ·exact⟨trivial,trivial,trivial⟩
 ·exact⟨trivial,trivial,trivial⟩
theorem yz:∀{n:Nat}{p e:D},RdE n p e->okD (n+1) p/\sw e
 |0,_,_,h=>h.elim
 |n+1,p,e,h=>by
  rcases h with⟨z,rfl,w⟩|⟨f,ps,es,_,hp,_,rfl,rfl⟩|⟨o,ps,es,_,hp,_,rfl,rfl⟩
  ·exact⟨by rw[xg];trivial,Ek w⟩
  ·refine⟨λx hx=>?_,trivial,trivial,yi.mpr λd hd=>?_,trivial⟩
   ·rcases zam.mp hx with rfl|hx
    ·rw[xg];trivial
    ·rcases zam.mp hx with rfl|hx
     ·rw[xg];trivial
     ·obtain⟨r,_,q⟩:=hp.at hx;exact(yz q).1
   ·obtain⟨r,_,q⟩:=hp.at' hd;exact(yz q).2
  ·refine⟨λx hx=>?_,trivial,yi.mpr λd hd=>?_⟩
   ·rcases zam.mp hx with rfl|hx
    ·rw[xg];trivial
    ·obtain⟨r,_,q⟩:=hp.at hx;exact(yz q).1
   ·obtain⟨r,_,q⟩:=hp.at' hd;exact(yz q).2
def Z9(n:Nat):FT:=g1 λp φ=>∃e,n<=4/\RdE n p e/\φ (dv e)
def S8(n:Nat):FT:=g1 λd φ=>∃ps es,d=.lst ps/\n<=4/\wx (RdE n) ps es/\ps.length<=4/\φ (dv (.tup es))
def Qf{R:D->D->Prop}{ps es:List D}{i:Nat}{p:D}(h:wx R ps es)(hp:ps[i]?=some p):∃e,R p e/\es.take (i+1)=es.take i++[e]:=by
 have hl:=(zag.mp hp).1;have hc:es[i]?=some (es[i]'(by rw[<- h.1];exact hl)):=zaf _
 exact⟨_,h.2 i p _ hp hc,by rw[List.take_succ,hc];rfl⟩
def X9(T:Tops mg)(F:Fun K "in_bracket" "in_bracket" (top 29) f fd)(m:mg "in_bracket" = some (.ref f)):FI P w K mg base 1 "in_bracket" ["part"] Ko:=by
 have S:zo ["part"] ["part"] (zd (top 29)):=by walk_at "f"
 refine z2e F S (F.binds λ_ _ _ _ _ _ us hl=>(by obtain⟨_,rfl⟩:=xp hl;rfl)) m rfl rfl (by decide) (.inl rfl) (by decide) (by decide) λqZ A outer s H E ds hr hl hT=>?_
 have hu:=hr.units;refine⟨_,(xm (wc T.isinstance (z9 (za 0) (z9 (ga T.str vh) zb)))),?_⟩;obtain⟨ps,rfl⟩:=hT;walk_at "dl";exact rfl
def Xa(T:Tops mg)(z4z:FI P w K mg base 1 "in_bracket" ["part"] Ko)(F:Fun K "bracket_of" "bracket_of" (top 30) f fd)(m:mg "bracket_of" = some (.ref f)):FI P w K mg base 2 "bracket_of" ["part","many"] Kr:=by
 have S:zo ["part","many"] ["part","many"] (zd (top 30)):=by walk_at "f"
 refine z2e F S (F.binds λ_ _ _ _ _ _ us hl=>(by obtain⟨_,_,rfl⟩:=Qt hl;rfl)) m rfl rfl (by decide) (.inl rfl) (by decide) (by decide) λqZ A outer s H E ds hr hl hT=>?_
 have hu:=hr.units;refine⟨_,(qf hu (xt T.len (z9 (sv z4z (hr.e rfl) (z9 (za 0) zb)) zb)) (za 1)),?_⟩;obtain⟨ps,rfl⟩:=hT;walk_at "dl";exact⟨⟨ps,rfl⟩,_,rfl,rfl⟩
def P2(T:Tops mg)(z4z:FI P w K mg base 1 "in_bracket" ["part"] Ko)(F:Fun K "head_of" "head_of" (top 31) f fd)(m:mg "head_of" = some (.ref f)):FD P w K mg base 2 "head_of" ["part"] rj:=by
 have S:zo ["part"] ["part"] (zd (top 31)):=by walk_at "f"
 walk_at "b";refine⟨_,(ze (yh (EW.et (tz (xr hu (sv z4z (hr.e rfl) (z9 (za 0) zb)) (y4 zb)) (um (xw (xm (wc T.isinstance (z9 (zk hu (za 0) zc) (z9 (ga T.str vh) zb)))))))) (zi vp) y7)
   (zi (zp (zk hu (za 0) zc)))),?_⟩
 obtain⟨d,rfl,z,ps,rfl,ok,h⟩:=xv hT;walk_at "dl";exact⟨⟨_,rfl⟩,_,rfl,ok,ok0,λq=>absurd (show(false:Bool)=true from q) (by decide),λ_=>h⟩
def Xd(T:Tops mg)(z5a:FI P w K mg base 2 "bracket_of" ["part","many"] Kr)(z4r:FD P w K mg base 2 "read_name" ["part"] wz)(F:Fun K "read_names" "read_names" (top 33) f fd)(m:mg "read_names" = some (.ref f)):FD P w K mg base 3 "read_names" ["part","many"] kz:=by
 have S:zo ["part","many"] ["part","many"] (zd (top 33)):=by walk_at "f"
 walk_at "b";refine⟨_,(zi (zp (xn T.tuple (z9 (yf (T:=["name"]) (F:=[]) (js:=[]) (yj (sv z5a (hr.e rfl) (z9 (za 0) (z9 (za 1) zb)))) (show zm (zd (top 33)) _ _ _ from by walk_at "c") .nil (by decide) (λcl C fp s H=>(zn (i:=0) (nd1 _) rfl (by walk_at "o"))) (zw (by decide)) (yc 0) (λcl C fp s H=>ya) (λcl C fp s H=>(zg z4r (hr.e rfl) (z9 (za 0) zb)))) zb)))),?_⟩
 obtain⟨d,k,rfl,zs,rfl,rfl,hz,hl1,h⟩:=hT;walk_at "dl";refine zv (zs.map D.str) (λψ hψ=>?_) (λi fs=>fs=(zs.take i).map D.str) (by rw[zLm];omega) rfl ?_ ?_
 ·walk_at "dl";exact⟨⟨_,by rw[zLm]⟩,_,rfl,trivial,hψ⟩
 ·rintro i e fs he hle rfl;rw[zai]at he;obtain⟨p,hp,rfl⟩:=zar.mp he;have gp:=hz p (zan hp);walk_at "p";walk_at "dl";exact⟨p,rfl,by have:=gp.2.1;omega,gp,trivial,by rw[sr _ hp]⟩
 rintro fs rfl;rw[zLm,List.take_length];exact⟨xq _,h⟩
def Tg{n:Nat}(T:Tops mg)(z4q:FD P w K mg base (2*n+4) "read_expression" ["part"] (Z9 n))(F:Fun K "read_all" "read_all" (top 42) f fd)(m:mg "read_all" = some (.ref f)):FD P w K mg base (2*n+5) "read_all" ["parts"] (S8 n):=by
 have S:zo ["parts"] ["parts"] (zd (top 42)):=by walk_at "f"
 walk_at "b";refine⟨_,(zi (zp (xn T.tuple (z9 (yf (T:=["part"]) (F:=[]) (js:=[]) (yj (za 0)) (show zm (zd (top 42)) _ _ _ from by walk_at "c") .nil (by decide) (λcl C fp s H=>(zn (i:=0) (nd1 _) rfl (by walk_at "o"))) (zw (by decide)) (yc 0) (λcl C fp s H=>ya) (λcl C fp s H=>(zg z4q hr.d (z9 (za 0) zb)))) zb)))),?_⟩
 obtain⟨d,rfl,ps,es,rfl,hn,hp,hl4,h⟩:=xv hT;walk_at "dl";refine zv ps (λψ hψ=>?_) (λi fs=>fs=es.take i) (by omega) rfl ?_ ?_
 ·walk_at "dl";exact hψ
 ·rintro i e fs he hle rfl;obtain⟨r,hr',eq⟩:=Qf hp he;walk_at "p";walk_at "dl";exact⟨r,hn,hr',trivial,eq.symm⟩
 rintro fs rfl;rw[hp.1,List.take_length];exact⟨yi.mpr λd hd=>by
  obtain⟨r,_,q⟩:=hp.at' hd;exact(yz q).2,h⟩
def k8{n:Nat}(T:Tops mg)(hBODIES:GT P w K mg "BODIES" uf)(hBRACKETS:GT P w K mg "BRACKETS" v8)(hBRINGS:GT P w K mg "BRINGS" b7)(z7l:FD P w K mg base 3 "read_word" ["word"] fg)(z5c:FD P w K mg base 2 "head_of" ["part"] rj)(z4r:FD P w K mg base 2 "read_name" ["part"] wz)(z6i:FD P w K mg base (2*n+5) "read_all" ["parts"] (S8 n))(F:Fun K "read_expression" "read_expression" (top 41) f fd)(m:mg "read_expression" = some (.ref f)):FD P w K mg base (2*n+6) "read_expression" ["part"] (Z9 (n+1)):=by
 have S:zo ["part","kind"] ["part"] (zd (top 41)):=by walk_at "f"
 walk_at "b";refine⟨_,(ze (yh (xm (wc T.isinstance (z9 (za 0) (z9 (ga T.str vh) zb)))) (zi (zp (zg z7l hr.d (z9 (za 0) zb)))) y7)
   (ze (zt 1 S.nd (zg z5c hr.d (z9 (za 0) zb)))
   (ze (yh (EW.et (rf (xr hu (za 1) zh) (qe (L7 (xt T.len (z9 (za 0) zb)) zc)))) (zi (zp (w8 (z9 (za 1) (z9 (zg z4r hr.d (z9 (zk hu (za 0) zc) zb)) (z9 (zg z6i hr.d (z9 (xf (za 0) (x8 zc) vi) zb)) zb)))))) y7)
   (ze (yh (qf hu (Vt hBRACKETS (za 1)) (xt T.len (z9 (za 0) zb))) (zi vp) y7)
   (zi (zp (y8 (w8 (z9 (za 1) zb)) (zg z6i hr.d (z9 (xf (za 0) (x8 zc) vi) zb))))))))),?_⟩
 obtain⟨p,rfl,e,hn,he,h⟩:=xv hT;have ok:=d8 (m:=40) (by omega) (yz he).1
 have pu:=(yz he).2;rcases he with⟨z,rfl,w⟩|⟨f,ps,es,hf,hp,hl4,rfl,rfl⟩|⟨o,ps,es,ho,hp,ha,rfl,rfl⟩
 ·walk_at "dl";exact⟨z,e,rfl,w,pu,h⟩
 ·walk_at "dl";exact⟨λb=>absurd b (by decide),λ_=>⟨"call",_,rfl,ok,trivial,by rw[xg];trivial,λ_=>⟨λ_=>⟨f,rfl,by have:=hf.2.1;omega,hf,ps,es,congrArg D.lst (wf (D.str "call"::D.str f::ps) 2),by omega,hp,hl4,rfl,⟨trivial,trivial,pu.2.2.1⟩,h⟩,λz=>absurd (by omega) z⟩,λz=>by rw[v6]at z;exact absurd z (by decide)⟩⟩
 ·have tb:(tabL v8 o).elim .non cstD=.int ((ps.length+1:Nat):Int):=by
   rw[ha];unfold ops at ho;simp only[zam,List.not_mem_nil,or_false]at ho;rcases ho with rfl|rfl|rfl|rfl <;> rfl
  have nc:(o==("call" : Str))=false:=by
   unfold ops at ho;simp only[zam,List.not_mem_nil,or_false]at ho;rcases ho with rfl|rfl|rfl|rfl <;> decide
  have l2:2<=ps.length/\ps.length<=3:=by rw[ha];unfold ar;split <;> decide
  have ne:es≠[]:=λz=>by have:=hp.1;rw[z,zLn]at this;omega
  have go:okD 40 ((tabL v8 o).elim .non cstD)/\(eqD ((tabL v8 o).elim .non cstD) (.int ((ps.length+1:Nat):Int))=false->False)/\eqD ((tabL v8 o).elim .non cstD) (.int ((ps.length+1:Nat):Int))=true:=by
   rw[tb,Tt];exact⟨by rw[d9];trivial,λz=>by simp at z,by simp⟩
  walk_at "dl";exact⟨λb=>absurd b (by decide),λ_=>⟨o,_,rfl,ok,trivial,by rw[xg];trivial,λz=>by rw[v6,nc]at z;exact absurd z (by decide),λ_=>⟨go.1,go.2.1,λ_=>⟨rfl,ps,es,congrArg D.lst (wf (D.str o::ps) 1),by omega,hp,by omega,List.cons_ne_nil _ _,ne,by rw[<- hp.1,yy];show 1+_<=_;omega,pu,h⟩⟩⟩⟩
theorem Rl(T:Tops mg)(hBODIES:GT P w K mg "BODIES" uf)(hBRACKETS:GT P w K mg "BRACKETS" v8)(hBRINGS:GT P w K mg "BRINGS" b7)(F1:FD P w K mg base 3 "read_word" ["word"] fg)(F2:FD P w K mg base 2 "head_of" ["part"] rj)(F3:FD P w K mg base 2 "read_name" ["part"] wz){f2:Addr}{fd2:FuncData}(Fa:Fun K "read_all" "read_all" (top 42) f2 fd2)(ma:mg "read_all" = some (.ref f2))(F:Fun K "read_expression" "read_expression" (top 41) f fd)(m:mg "read_expression" = some (.ref f)):∀n:Nat,FD P w K mg base (2*n+4) "read_expression" ["part"] (Z9 n)
 |0=>by
  have S:zo ["part","kind"] ["part"] (zd (top 41)):=by walk_at "f"
  refine yo F S (F.binds λ_ _ _ _ _ _ us hl=>(by obtain⟨_,rfl⟩:=xp hl;rfl)) m λqZ A outer s H E ds φ hr hl hT=>?_
  obtain⟨e,rfl,c,hn,he,h⟩:=xv hT;exact he.elim
 |n+1=>k8 T hBODIES hBRACKETS hBRINGS F1 F2 F3 (Tg T (Rl T hBODIES hBRACKETS hBRINGS F1 F2 F3 Fa ma F m n) Fa ma) F m
def RdB:Nat->D->D->Prop
 |0,_,_=>False
 |n+1,p,b =>
  (∃q e,RdE 4 q e/\p=.lst [.str "give",q]/\b=.tup [.str "give",e]) \/
  (∃z q e q1 b1,IsNm z/\RdE 4 q e/\RdB n q1 b1/\p=.lst [.str "let",.str z,q,q1]/\b=.tup [.str "let",.str z,e,b1]) \/
  (∃q1 e1 q2 e2 p1 b1 p2 b2,RdE 4 q1 e1/\RdE 4 q2 e2/\RdB n p1 b1/\RdB n p2 b2/\p=.lst [.str "less",q1,q2,p1,p2]/\b=.tup [.str "less",e1,e2,b1,b2]) \/
  (∃(o z:Str)(p1 b1:D)(zs:List Str)(p2 b2:D),(o = "list"\/o = "tree")/\IsNm z/\RdB n p1 b1/\(∀w∈zs,IsNm w)/\(zs.length=if o = "tree" then 3 else 2)/\RdB n p2 b2/\p=.lst [.str o,.str z,p1,.lst (zs.map D.str),p2]/\b=.tup ([.str o,.str z,b1]++zs.map D.str++[b2]))
def C5(n:Nat)(zs:List Str):okD (n+1) (.lst (zs.map D.str)):=λx hx=>by
 obtain⟨z,_,rfl⟩:=zah.mp hx;rw[xg];trivial
def xa(n:Nat)(z:Str):okD n (.str z):=by rw[xg];trivial
def yw{n:Nat}{x:D}{l:List D}(h:okD n x)(h2:okD (n+1) (.lst l)):okD (n+1) (.lst (x::l)):=λy hy=>by
 rcases zam.mp hy with rfl|hy
 ·exact h
 ·exact h2 y hy
def Zo(n:Nat):okD (n+1) (.lst []):=λx hx=>nomatch hx
theorem yp:∀{n:Nat}{p b:D},RdB n p b->okD (n+6) p/\sw b
 |0,_,_,h=>h.elim
 |n+1,p,b,h=>by
  have up:∀{q e:D},RdE 4 q e->okD (n+6) q:=λh=>d8 (by omega) (yz h).1
  rcases h with⟨q,e,h1,rfl,rfl⟩|⟨z,q,e,q1,b1,hz,h1,h2,rfl,rfl⟩|⟨q1,e1,q2,e2,p1,b1,p2,b2,h1,h2,h3,h4,rfl,rfl⟩|⟨o,z,p1,b1,zs,p2,b2,ho,hz,h1,hzs,hzl,h2,rfl,rfl⟩
  ·exact⟨yw (xa _ _) (yw (up h1) (Zo _)),trivial,(yz h1).2,trivial⟩
  ·exact⟨yw (xa _ _) (yw (xa _ _) (yw (up h1) (yw (yp h2).1 (Zo _)))),trivial,trivial,(yz h1).2,(yp h2).2,trivial⟩
  ·exact⟨yw (xa _ _) (yw (up h1) (yw (up h2) (yw (yp h3).1 (yw (yp h4).1 (Zo _))))),trivial,(yz h1).2,(yz h2).2,(yp h3).2,(yp h4).2,trivial⟩
  ·refine⟨yw (xa _ _) (yw (xa _ _) (yw (yp h1).1 (yw (C5 _ _) (yw (yp h2).1 (Zo _))))),yi.mpr λd hd=>?_⟩;simp only[List.cons_append,List.nil_append,zam,zas,List.not_mem_nil,or_false]at hd;rcases hd with rfl|rfl|rfl|hd|rfl
   ·trivial
   ·trivial
   ·exact(yp h1).2
   ·obtain⟨t,_,rfl⟩:=zah.mp hd;trivial
   ·exact(yp h2).2
def eqt{a:Str}(h:eqD (.str a) (.str a)=false):False:=by rw[v6]at h;simp at h
def eqf{a b:Str}(hn:(a==b)=false)(h:eqD (.str a) (.str b)=true):False:=by rw[v6,hn]at h;cases h
def O1{t:List (Str×Cst)}{o:Str}{k:Int}(h:(tabL t o).elim .non cstD=.int k):okD 40 ((tabL t o).elim .non cstD)/\(eqD ((tabL t o).elim .non cstD) (.int k)=false->False):=by
 rw[h,Tt];exact⟨by rw[d9];trivial,λz=>by simp at z⟩
def S7(n:Nat):FT:=g1 λp φ=>∃b,n<=5/\RdB n p b/\φ (dv b)
def numL(ns:List Int):List D:=ns.map λi=>.str (numS i)
def Z8:FT:=g1 λd φ=>∃(s:Str)(ns:List Int),d=.lst (.str s::numL ns)/\IsSh s/\(∀i∈ns,i.natAbs<10 ^ 60)/\ns.length<=5/\φ (dv (.tup [.str s,.tup (ns.map D.int)]))
def prL(p:Str×Str):D:=.lst [.str p.1,.str p.2]
def Z7:FT:=g1 λd φ=>∃p:Str×Str,d=prL p/\IsNm p.1/\IsSh p.2/\φ (dv (prD p))
def Gz{s:Str}(h:IsSh s):s∈j5:=by rcases h with rfl|rfl|rfl <;> decide
def RdF(p:D)(f:Fn):Prop:=∃q,IsNm f.name/\(∀p∈f.params,IsNm p.1/\IsSh p.2)/\f.params.length<=4/\IsSh f.shape/\(∀i∈f.size,i.natAbs<10 ^ 60)/\f.size.length<=5/\RdB 5 q f.body/\p=.lst [.str "fn",.str f.name,.lst (f.params.map prL),.lst (.str f.shape::numL f.size),q]
def Gk:FT:=g1 λd φ=>∃f,RdF d f/\φ (dv (fnD f))
def Xe(T:Tops mg)(z5c:FD P w K mg base 2 "head_of" ["part"] rj)(z5h:FD P w K mg base 1 "read_shape" ["part"] ky)(z5g:FD P w K mg base 2 "read_number" ["part"] gj)(F:Fun K "read_gives" "read_gives" (top 39) f fd)(m:mg "read_gives" = some (.ref f)):FD P w K mg base 3 "read_gives" ["part"] Z8:=by
 have S:zo ["part","shape"] ["part"] (zd (top 39)):=by walk_at "f"
 walk_at "b";refine⟨_,(ze (zj (zt 1 S.nd (zg z5h (hr.e rfl) (z9 (zg z5c (hr.e rfl) (z9 (za 0) zb)) zb))))
   (zi (zp (w8 (z9 (za 1) (z9 (xn T.tuple (z9 (yf (T:=["number"]) (F:=[]) (js:=[]) (yj (xf (za 0) (x8 zc) vi)) (show zm (zd (top 39)) _ _ _ from by walk_at "c") .nil (by decide) (λcl C fp s H=>(zn (i:=0) (nd1 _) rfl (by walk_at "o"))) (zw (by decide)) (yc 0) (λcl C fp s H=>ya) (λcl C fp s H=>(zg z5g (hr.e rfl) (z9 (za 0) zb)))) zb)) zb)))))),?_⟩
 obtain⟨d,rfl,s,ns,rfl,hsh,hns,hl5,h⟩:=xv hT;have ok:okD 40 (.lst (.str s::numL ns)):=yw (n:=39) (xa _ _) (λx hx=>by
  obtain⟨z,_,rfl⟩:=zah.mp hx;exact xa _ _)
 refine zf (λρ=>ρ=[q_ (.lst (.str s::numL ns)),q_ (.str s)]) ?_ ?_
 ·walk_at "dl";exact⟨s,_,rfl,ok,s,rfl,Gz hsh,trivial,rfl⟩
 rintro _ rfl;have cd:cutD (D.str s::numL ns) (some 1) none=numL ns:=wf (D.str s::numL ns) 1;walk_at "dl";refine zv (numL ns) (λψ hψ=>?_) (λi fs=>fs=(ns.take i).map D.int) (by unfold numL;rw[zLm];omega) rfl ?_ ?_
 ·walk_at "dl";rw[cd];exact hψ
 ·rintro i e fs he hle rfl;unfold numL at he;rw[zai]at he;obtain⟨p,hp,rfl⟩:=zar.mp he;walk_at "p";walk_at "dl";exact⟨p,rfl,hns p (zan hp),trivial,by rw[sr _ hp]⟩
 rintro fs rfl;rw[show(numL ns).length=ns.length by unfold numL;rw[zLm],List.take_length]
 exact⟨qy _,h⟩
def Xc(T:Tops mg)(z5a:FI P w K mg base 2 "bracket_of" ["part","many"] Kr)(z4r:FD P w K mg base 2 "read_name" ["part"] wz)(z5h:FD P w K mg base 1 "read_shape" ["part"] ky)(F:Fun K "read_param" "read_param" (top 38) f fd)(m:mg "read_param" = some (.ref f)):FD P w K mg base 3 "read_param" ["part"] Z7:=by
 have S:zo ["part"] ["part"] (zd (top 38)):=by walk_at "f"
 walk_at "b";refine⟨_,(ze (Ot (sv z5a (hr.e rfl) (z9 (za 0) (z9 zc zb))))
   (zi (zp (w8 (z9 (zg z4r (hr.e rfl) (z9 (zk hu (za 0) zc) zb)) (z9 (zg z5h (hr.e rfl) (z9 (zk hu (za 0) zc) zb)) zb)))))),?_⟩
 obtain⟨d,rfl,p,rfl,h1,h2,h⟩:=xv hT;unfold prL;walk_at "dl";exact⟨⟨_,rfl⟩,_,rfl,p.1,rfl,by have:=h1.2.1;omega,h1,p.2,rfl,Gz h2,rfl,⟨trivial,trivial⟩,h⟩
def Vi{n:Nat}(T:Tops mg)(hBODIES:GT P w K mg "BODIES" uf)(hBRACKETS:GT P w K mg "BRACKETS" v8)(hBRINGS:GT P w K mg "BRINGS" b7)(z5c:FD P w K mg base 2 "head_of" ["part"] rj)(z4r:FD P w K mg base 2 "read_name" ["part"] wz)(z6v:FD P w K mg base 3 "read_names" ["part","many"] kz)(z4q:FD P w K mg base 12 "read_expression" ["part"] (Z9 4))(z4v:FD P w K mg base (n+13) "read_body" ["part"] (S7 n))(F:Fun K "read_body" "read_body" (top 40) f fd)(m:mg "read_body" = some (.ref f)):FD P w K mg base (n+14) "read_body" ["part"] (S7 (n+1)):=by
 have S:zo ["part","kind","compared","ahead"] ["part"] (zd (top 40)):=by walk_at "f"
 walk_at "b";refine⟨_,(ze (zt 1 S.nd (zg z5c hr.d (z9 (za 0) zb)))
   (ze (yh (qf hu (Vt hBODIES (za 1)) (xt T.len (z9 (za 0) zb))) (zi vp) y7)
   (ze (yh (xr hu (za 1) zh) (zi (zp (w8 (z9 (za 1) (z9 (zg z4q hr.d (z9 (zk hu (za 0) zc) zb)) zb))))) y7)
   (ze (yh (xr hu (za 1) zh) (zi (zp (w8 (z9 (za 1) (z9 (zg z4r hr.d (z9 (zk hu (za 0) zc) zb)) (z9 (zg z4q hr.d (z9 (zk hu (za 0) zc) zb)) (z9 (zg z4v hr.d (z9 (zk hu (za 0) zc) zb)) zb))))))) y7)
   (ze (yh (xr hu (za 1) zh) (ze (zt 2 S.nd (w8 (z9 (zg z4q hr.d (z9 (zk hu (za 0) zc) zb)) (z9 (zg z4q hr.d (z9 (zk hu (za 0) zc) zb)) zb))))
    (zi (zp (y8 (y8 (w8 (z9 (za 1) zb)) (za 2)) (w8 (z9 (zg z4v hr.d (z9 (zk hu (za 0) zc) zb)) (z9 (zg z4v hr.d (z9 (zk hu (za 0) zc) zb)) zb))))))) y7)
   (ze (zt 3 S.nd (w8 (z9 (za 1) (z9 (zg z4r hr.d (z9 (zk hu (za 0) zc) zb)) (z9 (zg z4v hr.d (z9 (zk hu (za 0) zc) zb)) zb)))))
   (zi (zp (y8 (y8 (za 3) (zg z6v hr.d (z9 (zk hu (za 0) zc) (z9 (fc hBRINGS (za 1)) zb)))) (w8 (z9 (zg z4v hr.d (z9 (zk hu (za 0) zc) zb)) zb))))))))))),?_⟩
 obtain⟨p,rfl,b,hn,he,h⟩:=xv hT;have ok:=d8 (m:=40) (by omega) (yp he).1
 have pu:=(yp he).2;have ok2:∀k:Int,okD 40 (.int k):=λk=>by rw[d9];trivial
 rcases he with⟨q,e,h1,rfl,rfl⟩|⟨z,q,e,q1,b1,hz,h1,h2,rfl,rfl⟩|⟨q1,e1,q2,e2,p1,b1,p2,b2,h1,h2,h3,h4,rfl,rfl⟩|⟨o,z,p1,b1,zs,p2,b2,ho,hz,h1,hzs,hzl,h2,rfl,rfl⟩
 ·have g:=O1 (t:=uf) (o:="give") (k:=((2:Nat):Int)) rfl;walk_at "dl";exact⟨"give",_,rfl,ok,trivial,g.1,g.2,λ_=>⟨xa _ _,λ_=>⟨e,by omega,h1,rfl,⟨trivial,(yz h1).2⟩,h⟩,λz=>(eqt z).elim⟩⟩
 ·have g:=O1 (t:=uf) (o:="let") (k:=((4:Nat):Int)) rfl;walk_at "dl";exact⟨"let",_,rfl,ok,trivial,g.1,g.2,λ_=>⟨xa _ _,λz=>(eqf (by decide) z).elim,λ_=>⟨xa _ _,λ_=>⟨z,rfl,by have:=hz.2.1;omega,hz,e,by omega,h1,b1,by omega,h2,rfl,⟨trivial,trivial,(yz h1).2,(yp h2).2⟩,h⟩,λz=>(eqt z).elim⟩⟩⟩
 ·have g:=O1 (t:=uf) (o:="less") (k:=((5:Nat):Int)) rfl;walk_at "dl";exact⟨"less",_,rfl,ok,trivial,g.1,g.2,λ_=>⟨xa _ _,λz=>(eqf (by decide) z).elim,λ_=>⟨xa _ _,λz=>(eqf (by decide) z).elim,λ_=>⟨xa _ _,λ_=>⟨e1,by omega,h1,e2,by omega,h2,rfl,rfl,by rw[yy];decide,b1,by omega,h3,b2,by omega,h4,rfl,by rw[yy];decide,⟨trivial,(yz h1).2,(yz h2).2,(yp h3).2,(yp h4).2⟩,h⟩,λz=>(eqt z).elim⟩⟩⟩⟩
 ·have hne:zs≠[]:=λz=>by rw[z,zLn]at hzl;split at hzl <;> cases hzl
  rcases ho with rfl|rfl
  ·have g:=O1 (t:=uf) (o:="list") (k:=((5:Nat):Int)) rfl;have l2:zs.length=2:=hzl.trans (if_neg (by decide))
   walk_at "dl";exact⟨"list",_,rfl,ok,trivial,g.1,g.2,λ_=>⟨xa _ _,λz=>(eqf (by decide) z).elim,λ_=>⟨xa _ _,λz=>(eqf (by decide) z).elim,λ_=>⟨xa _ _,λz=>(eqf (by decide) z).elim,λ_=>⟨z,rfl,by have:=hz.2.1;omega,hz,b1,by omega,h1,rfl,_,_,rfl,zs,rfl,by rw[l2];rfl,hzs,by omega,List.cons_ne_nil _ _,λy=>hne (List.map_eq_nil_iff.mp y),by rw[zLm,l2,yy];exact Nat.le_of_ble_eq_true rfl,b2,by omega,h2,rfl,List.cons_ne_nil _ _,by rw[zLa,zLm,l2,yy];exact Nat.le_of_ble_eq_true rfl,pu,h⟩⟩⟩⟩⟩
  ·have g:=O1 (t:=uf) (o:="tree") (k:=((5:Nat):Int)) rfl;have l2:zs.length=3:=hzl.trans (if_pos rfl);walk_at "dl";exact⟨"tree",_,rfl,ok,trivial,g.1,g.2,λ_=>⟨xa _ _,λz=>(eqf (by decide) z).elim,λ_=>⟨xa _ _,λz=>(eqf (by decide) z).elim,λ_=>⟨xa _ _,λz=>(eqf (by decide) z).elim,λ_=>⟨z,rfl,by have:=hz.2.1;omega,hz,b1,by omega,h1,rfl,_,_,rfl,zs,rfl,by rw[l2];rfl,hzs,by omega,List.cons_ne_nil _ _,λy=>hne (List.map_eq_nil_iff.mp y),by rw[zLm,l2,yy];exact Nat.le_of_ble_eq_true rfl,b2,by omega,h2,rfl,List.cons_ne_nil _ _,by rw[zLa,zLm,l2,yy];exact Nat.le_of_ble_eq_true rfl,pu,h⟩⟩⟩⟩⟩
def Rm(T:Tops mg)(hBODIES:GT P w K mg "BODIES" uf)(hBRACKETS:GT P w K mg "BRACKETS" v8)(hBRINGS:GT P w K mg "BRINGS" b7)(F1:FD P w K mg base 2 "head_of" ["part"] rj)(F2:FD P w K mg base 2 "read_name" ["part"] wz)(F3:FD P w K mg base 3 "read_names" ["part","many"] kz)(F4:FD P w K mg base 12 "read_expression" ["part"] (Z9 4))(F:Fun K "read_body" "read_body" (top 40) f fd)(m:mg "read_body" = some (.ref f)):∀n:Nat,FD P w K mg base (n+13) "read_body" ["part"] (S7 n)
 |0=>by
  have S:zo ["part","kind","compared","ahead"] ["part"] (zd (top 40)):=by walk_at "f"
  refine yo F S (F.binds λ_ _ _ _ _ _ us hl=>(by obtain⟨_,rfl⟩:=xp hl;rfl)) m λqZ A outer s H E ds φ hr hl hT=>?_
  obtain⟨e,rfl,c,hn,he,h⟩:=xv hT;exact he.elim
 |n+1=>Vi T hBODIES hBRACKETS hBRINGS F1 F2 F3 F4 (Rm T hBODIES hBRACKETS hBRINGS F1 F2 F3 F4 F m n) F m
def d6{p:D}{f:Fn}(h:RdF p f):okD 40 p/\sw (fnD f):=by
 obtain⟨q,h1,h2,h3,h4,h5,h6,h7,rfl⟩:=h;refine⟨yw (n:=39) (xa _ _) (yw (xa _ _) (yw (λx hx=>?_) (yw (yw (n:=38) (xa _ _) λx hx=>?_) (yw (d8 (by decide) (yp h7).1) (Zo _))))),trivial,yi.mpr λd hd=>?_,⟨trivial,qy _,trivial⟩,(yp h7).2,trivial⟩
 ·obtain⟨p,_,rfl⟩:=zah.mp hx;exact yw (n:=37) (xa _ _) (yw (xa _ _) (Zo _))
 ·obtain⟨i,_,rfl⟩:=zah.mp hx;exact xa _ _
 ·obtain⟨p,_,rfl⟩:=zah.mp hd;exact⟨trivial,trivial,trivial⟩
def A6:FT:=g1 λd φ=>∃(z:Str)(qs:List Pt)(fs:List Fn),d=.str z/\jk z/\(t7 z).length<=1000000/\runN [[]] (t7 z)=some [qs]/\wx RdF (pds qs) fs/\Y1 4 5 fs/\φ (dv (.tup (fs.map fnD)))
def Us{R:D->Fn->Prop}{ps:List D}{es:List Fn}{i:Nat}{p:D}(h:wx R ps es)(hp:ps[i]?=some p):∃e,R p e/\(es.take (i+1)).map fnD=(es.take i).map fnD++[fnD e]:=by
 have hl:=(zag.mp hp).1;have hc:es[i]?=some (es[i]'(by rw[<- h.1];exact hl)):=zaf _
 exact⟨_,h.2 i p _ hp hc,by rw[List.take_succ,hc,zMa];rfl⟩
def g9(T:Tops mg)(z5c:FD P w K mg base 2 "head_of" ["part"] rj)(z5a:FI P w K mg base 2 "bracket_of" ["part","many"] Kr)(z4z:FI P w K mg base 1 "in_bracket" ["part"] Ko)(z6w:FD P w K mg base 3 "read_param" ["part"] Z7)(z4r:FD P w K mg base 2 "read_name" ["part"] wz)(z6x:FD P w K mg base 3 "read_gives" ["part"] Z8)(z4v:FD P w K mg base 18 "read_body" ["part"] (S7 5))(F:Fun K "read_function" "read_function" (top 37) f fd)(m:mg "read_function" = some (.ref f)):FD P w K mg base 19 "read_function" ["part"] Gk:=by
 have S:zo ["part","params"] ["part"] (zd (top 37)):=by walk_at "f"
 walk_at "b";refine⟨_,(ze (zj (yh (qf hu (zg z5c (hr.e rfl) (z9 (za 0) zb)) zh) (zi vp) y7))
   (ze (zj (Ot (sv z5a (hr.e rfl) (z9 (za 0) (z9 zc zb)))))
   (ze (zj (zt 1 S.nd (xn T.tuple (z9 (yf (T:=["param"]) (F:=[]) (js:=[]) (yj (sv z4z (hr.e rfl) (z9 (zk hu (za 0) zc) zb))) (show zm (zd (top 37)) _ _ _ from by walk_at "c") .nil (by decide) (λcl C fp s H=>(zn (i:=0) (nd1 _) rfl (by walk_at "o"))) (zw (by decide)) (yc 0) (λcl C fp s H=>ya) (λcl C fp s H=>(zg z6w (hr.e rfl) (z9 (za 0) zb)))) zb))))
   (zi (zp (w8 (z9 (zg z4r (hr.e rfl) (z9 (zk hu (za 0) zc) zb)) (z9 (za 1) (z9 (zg z6x (hr.e rfl) (z9 (zk hu (za 0) zc) zb)) (z9 (zg z4v (hr.e rfl) (z9 (zk hu (za 0) zc) zb)) zb)))))))))),?_⟩
 obtain⟨d,rfl,g,hR,h⟩:=xv hT;obtain⟨ok,pu⟩:=d6 hR;obtain⟨q,h1,h2,h3,h4,h5,h6,h7,rfl⟩:=hR;refine zf (λρ=>ρ=[q_ (.lst [.str "fn",.str g.name,.lst (g.params.map prL),.lst (.str g.shape::numL g.size),q]),none]) ?_ ?_
 ·walk_at "dl";exact⟨"fn",_,rfl,ok,xa _ _,λz=>eqt z⟩
 rintro _ rfl;refine zf (λρ=>ρ=[q_ (.lst [.str "fn",.str g.name,.lst (g.params.map prL),.lst (.str g.shape::numL g.size),q]),none]) ?_ ?_
 ·walk_at "dl";exact⟨⟨_,rfl⟩,_,rfl⟩
 rintro _ rfl;refine zf (λρ=>ρ=[q_ (.lst [.str "fn",.str g.name,.lst (g.params.map prL),.lst (.str g.shape::numL g.size),q]),q_ (.tup (g.params.map prD))]) ?_ ?_
 ·walk_at "dl";refine zv (g.params.map prL) (λψ hψ=>?_) (λi fs=>fs=(g.params.take i).map prD) (by rw[zLm];omega) rfl ?_ ?_
  ·walk_at "dl";exact⟨⟨_,rfl⟩,_,rfl,trivial,hψ⟩
  ·rintro i e fs he hle rfl;rw[zai]at he;obtain⟨p,hp,rfl⟩:=zar.mp he;have gp:=h2 p (zan hp);walk_at "p";walk_at "dl";exact⟨p,rfl,gp.1,gp.2,trivial,by rw[sr _ hp]⟩
  rintro fs rfl;rw[zLm,List.take_length]
 rintro _ rfl;walk_at "dl";exact⟨g.name,rfl,by have:=h1.2.1;omega,h1,g.shape,g.size,rfl,h4,h5,h6,g.body,by decide,h7,rfl,⟨trivial,pu.2.1,pu.2.2.1,pu.2.2.2.1⟩,h⟩
def B2(T:Tops mg)(z7v:FD P w K mg base 1 "words_of" ["text"] Gj)(z7z:FD P w K mg base 1 "nested" ["words"] O7)(z6d:FD P w K mg base 19 "read_function" ["part"] Gk)(z6y:FD P w K mg base 27 "right" ["program"] (O6 4 5))(F:Fun K "read" "read" (top 26) f fd)(m:mg "read" = some (.ref f)):FD P w K mg base 28 "read" ["text"] A6:=by
 have S:zo ["text","program"] ["text"] (zd (top 26)):=by walk_at "f"
 walk_at "b";refine⟨_,(ze (zj (yh (xw (xm (wc T.isinstance (z9 (za 0) (z9 (ga T.str vh) zb))))) (zi vp) y7))
   (ze (zj (zt 1 S.nd (xn T.tuple (z9 (yf (T:=["part"]) (F:=[]) (js:=[]) (yj (zg z7z (hr.e rfl) (z9 (zg z7v (hr.e rfl) (z9 (za 0) zb)) zb))) (show zm (zd (top 26)) _ _ _ from by walk_at "c") .nil (by decide) (λcl C fp s H=>(zn (i:=0) (nd1 _) rfl (by walk_at "o"))) (zw (by decide)) (yc 0) (λcl C fp s H=>ya) (λcl C fp s H=>(zg z6d (hr.e rfl) (z9 (za 0) zb)))) zb))))
   (ze (zj (yh (xw (xm (zg z6y (hr.e rfl) (z9 (za 1) zb)))) (zi vp) y7))
   (zi (zp (za 1)))))),?_⟩
 obtain⟨d,rfl,z,qs,gs,rfl,hz,hw,hrun,hp,hprog,h⟩:=xv hT;refine zf (λρ=>ρ=[q_ (.str z),none]) ?_ ?_
 ·walk_at "dl"
 rintro _ rfl;refine zf (λρ=>ρ=[q_ (.str z),q_ (.tup (gs.map fnD))]) ?_ ?_
 ·walk_at "dl";refine zv (pds qs) (λψ hψ=>?_) (λi fs=>fs=(gs.take i).map fnD) (by rw[hp.1];have:=hprog.hi;omega) rfl ?_ ?_
  ·walk_at "dl";exact⟨z,rfl,hz,_,qs,rfl,hw,hrun,trivial,hψ⟩
  ·rintro i e fs he hle rfl;obtain⟨r,hr',eq⟩:=Us hp he;walk_at "p";walk_at "dl";exact⟨r,hr',trivial,eq.symm⟩
  rintro fs rfl;rw[hp.1,List.take_length]
 rintro _ rfl;refine zf (λρ=>ρ=[q_ (.str z),q_ (.tup (gs.map fnD))]) ?_ ?_
 ·walk_at "dl";exact⟨gs,rfl,by decide,hprog,λz=>Bool.noConfusion (show true=false from z)⟩
 rintro _ rfl;walk_at "dl";exact⟨yi.mpr λd hd=>by
  obtain⟨g,hg,rfl⟩:=zah.mp hd;obtain⟨p,_,q⟩:=hp.at' hg;exact(d6 q).2,h⟩
def thg:Nat->D->Prop
 |_,.int _=>True
 |_,.str _=>True
 |n+1,.tup ds=>∀x∈ds,thg n x
 |_,_=>False
def S5:∀{n:Nat}{d:D},thg n d->thg (n+1) d
 |0,d,h=>by
  cases d with
  |int=>trivial
  |str=>trivial
  |_=>exact h.elim
 |n+1,d,h=>by
  cases d with
  |int=>trivial
  |str=>trivial
  |tup ds=>exact λx hx=>S5 (h x hx)
  |_=>exact h.elim
def Pz{n m:Nat}{d:D}(hl:n<=m)(h:thg n d):thg m d:=by
 induction hl with
 |refl=>exact h
 |step _ ih=>exact S5 ih
def S6:∀{n:Nat}{d:D},thg n d->okD n d
 |0,d,h=>by
  cases d with
  |int=>trivial
  |str=>trivial
  |_=>exact h.elim
 |n+1,d,h=>by
  cases d with
  |int=>trivial
  |str=>trivial
  |tup ds=>exact λx hx=>S6 (h x hx)
  |_=>exact h.elim
mutual
def szD:D->Nat
 |.tup ds=>1+szL ds
 |_=>1
def szL:List D->Nat
 |[]=>0
 |d::ds=>szD d+szL ds
end
def fj:∀(a b:List D),szL (a++b)=szL a+szL b
 |[],b=>by simp[szL]
 |d::a,b=>by simp[szL,fj a b];omega
def Od(d:D):1<=szD d:=by cases d <;> simp[szD]
def Uy:∀ds:List D,ds.length<=szL ds
 |[]=>zaj _
 |d::ds=>by
  have:=Uy ds;have:=Od d;simp[szL];omega
def O3:FT:=g1 λd φ=>thg 30 d/\szD d<=10000000/\φ (dv (.bl true))
def Xf(T:Tops mg)(F:Fun K "_law_things" "_law_things" (top 65) f fd)(m:mg "_law_things" = some (.ref f)):FD P w K mg base 1 "_law_things" ["_law_found"] O3:=by
 have S:zo ["_law_found","_law_left","_law_thing"] ["_law_found"] (zd (top 65)):=by walk_at "f"
 walk_at "b";refine⟨_,(ze (zj (zt 1 S.nd (y4 (z9 (za 0) zb))))
   (ze (zj (J5 (qf hu (za 1) (y4 zb)) (ze (Ak 1 2 S.nd)
    (zi (yh (xm (wc T.isinstance (z9 (za 2) (z9 (ga T.tuple b8) zb)))) (zi (D5 1 (za 2))) (zi (yh (EW.et (tz (xm (wc T.isinstance (z9 (za 2) (z9 (ga T.bool Zz) zb)))) (um (xw (xm (B8 T.isinstance (z9 (za 2) (z9 (w8 (z9 (ga T.int ko) (z9 (ga T.str vh) zb))) zb)))))))) (zi (zp sx)) y7)))))))
   (zi (zp sx)))),?_⟩
 obtain⟨d0,rfl,ht,hs,h⟩:=xv hT;refine zf (λρ=>ρ=[q_ d0,Q_ (.lst [d0]),none]) ?_ ?_
 ·walk_at "dl"
 rintro _ rfl;refine zf (λρ=>∃x,ρ=[q_ d0,Q_ (.lst []),x]) ?_ ?_
 ·refine⟨λρ=>∃(ds:List D)(a:Option EV),ρ=[q_ d0,Q_ (.lst ds),a]/\(∀d∈ds,thg 30 d)/\szL ds<=10000000,λρ=>match ρ with
   |[_,some ⟨_,.lst ds⟩,_]=>szL ds
   | _=>0,⟨[d0],none,rfl,λd hd=>by rw[List.mem_singleton.mp hd];exact ht,by simp[szL];exact hs⟩,?_⟩
  rintro ρ ⟨ds,a,rfl,hd,hz⟩;walk_at "dl";refine⟨λx hx=>d8 (by decide) (S6 (hd x hx)),ok0,λz=>?_,λz=>?_⟩
  ·rcases List.eq_nil_or_concat ds with rfl|⟨ds',d,rfl⟩
   ·exact absurd z (by decide)
   rw[List.concat_eq_append]at hd hz ⊢;rw[Sr];have e1:szL (ds'++[d])=szL ds'+szD d:=by rw[fj];simp[szL]
   have hp:=Od d;have hd':∀x∈ds',thg 30 x:=λx hx=>hd x (List.mem_append_left _ hx);have hdd:=hd d (List.mem_append_right _ zao);cases d with
   |int i=>exact⟨λq=>Bool.noConfusion (show false=true from q),λ_=>⟨λq=>Bool.noConfusion (show false=true from q),λ_=>⟨rfl,rfl,⟨ds',_,rfl,hd',by omega⟩,by omega⟩⟩⟩
   |str i=>exact⟨λq=>Bool.noConfusion (show false=true from q),λ_=>⟨λq=>Bool.noConfusion (show false=true from q),λ_=>⟨rfl,rfl,⟨ds',_,rfl,hd',by omega⟩,by omega⟩⟩⟩
   |tup gs =>
    have e2:szD (.tup gs)=1+szL gs:=rfl;have l1:=Uy ds';have l2:=Uy gs;have e3:=fj ds' gs;refine⟨λ_=>⟨gs,rfl,by rw[yy];omega,⟨ds'++gs,_,rfl,λx hx=>?_,by omega⟩,by omega⟩,λq=>Bool.noConfusion (show true=false from q)⟩
    rcases zas.mp hx with hx|hx
    ·exact hd' x hx
    ·exact S5 (hdd x hx)
   |_=>exact hdd.elim
  ·cases ds with
   |nil=>exact⟨a,rfl⟩
   |cons d ds=>exact Bool.noConfusion (show false=true from z)
 rintro _ ⟨x,rfl⟩;walk_at "dl";exact h
def w4(c:List Str):Nat:=(c.map λw=>w.length+4).sum
def u3(a b:List Str):w4 (a++b)=w4 a+w4 b:=by unfold w4;simp
def wy(a:Str)(b:List Str):w4 (a::b)=a.length+4+w4 b:=by unfold w4;simp
def Pm(c:List Str):wlen c+2*c.length=w4 c:=by
 induction c with
 |nil=>rfl
 |cons a c ih =>
  rw[wy,<- ih];unfold wlen;simp;omega
def Ur{α:Type}(f:α->Pt):∀l:List α,pds (l.map f)=l.map λx=>pd (f x)
 |[]=>rfl
 |x::l=>by
  show pd (f x)::pds (l.map f)=_;rw[Ur f l];rfl
structure Pc(q:Pt)(c:List Str):Prop where
 eq:pw q=c
 ok:q.ok
 tk:∀w∈c,Tok w
structure Pcs(qs:List Pt)(c:List Str):Prop where
 eq:pws qs=c
 ok:Pt.oks qs
 tk:∀w∈c,Tok w
def Pcs.nil:Pcs [] []:=⟨rfl,trivial,λ_ h=>nomatch h⟩
def Pcs.cons{q:Pt}{qs:List Pt}{c d:List Str}(h:Pc q c)(h2:Pcs qs d):Pcs (q::qs) (c++d):=⟨by show pw q++pws qs=_;rw[h.eq,h2.eq],⟨h.ok,h2.ok⟩,λw hw=>(zas.mp hw).elim (h.tk w) (h2.tk w)⟩
def A3:Tok lp:=.inl (by decide)
def A2:Tok rp:=.inl (by decide)
def Pcs.br{qs:List Pt}{c:List Str}(h:Pcs qs c):Pc (.b qs) (lp::(c++[rp])):=⟨by show lp::(pws qs++[rp])=_;rw[h.eq],h.ok,λw hw=>by
 rcases zam.mp hw with rfl|hw
 ·exact A3
 ·rcases zas.mp hw with hw|hw
  ·exact h.tk w hw
  ·rw[List.mem_singleton.mp hw];exact A2⟩
def Pc.word{w:Str}(h:Ub w):Pc (.w w) [w]:=by
 have nb:∀k,V9 k->w≠⟨#[k]⟩:=λk hk e=>by
  have:=h.2 k (by rw[e];exact List.mem_singleton.mpr rfl)
  exact this hk
 exact⟨rfl,⟨by rw[show lp=(⟨#[40]⟩:Str) from r40];exact nb 40 (.inr (.inr (.inl rfl))),by rw[show rp=(⟨#[41]⟩:Str) from r41];exact nb 41 (.inr (.inr (.inr rfl)))⟩,λv hv=>by rw[List.mem_singleton.mp hv];exact .inr h⟩
def Yt{w:Str}(h1:1<=w.length)(h:∀ k∈tl w,42<=k):Ub w:=by
 refine⟨λe=>?_,λk hk s=>?_⟩
 ·rw[<- u4,e]at h1;cases h1
 ·have:=h k hk;rcases s with rfl|rfl|rfl|rfl <;> omega
def Eu:∀{c:Nat},rc c=true->97<=c:=λ{c} h=>by
 unfold rc at h;rw[StrLaws.found_one,decide_eq_true_eq]at h;have big:∀k∈Yz.cps.toList,97<=k:=by decide +kernel
 exact big c h
def uu{z:Str}(h:IsNm z):Ub z:=Yt h.1 λk hk=>by have:=Eu (h.2.2.2.2 k hk);omega
def Wp{i:Int}(h:i.natAbs<10 ^ 60):Ub (numS i):=by
 obtain⟨fs,X⟩:=X8 h;have dg:∀k∈tl (numS i),42<=k:=λk hk=>by
  rw[X.tx]at hk;split at hk
  ·rcases zam.mp hk with rfl|hk
   ·decide
   ·have:=X.dg k hk;omega
  ·have:=X.dg k hk;omega
 refine Yt ?_ dg;rw[<- u4,X.tx];have:=X.lo;split
 ·rw[zLc];omega
 ·exact this
def cw:List Str:=["nil","leaf","call","add","sub","cons","node","give","let","less","list","tree","fn","num"]
def Xu:∀w∈cw,1<=w.length/\w.length<=4/\∀k∈w.cps.toList,42<=k:=by decide +kernel
def v7{w:Str}(h:w∈cw):Ub w:=Yt (Xu w h).1 (Xu w h).2.2
def km{w:Str}(h:w∈cw):w.length<=4:=(Xu w h).2.1
def Kw{s:Str}(h:IsSh s):s∈cw:=by rcases h with rfl|rfl|rfl <;> decide
def Fe{o:Str}(h:o∈ops):o∈cw:=by
 unfold ops at h;simp only[zam,List.not_mem_nil,or_false]at h;rcases h with rfl|rfl|rfl|rfl <;> decide
def dh{z:Str}(h:IsNm z):z.length<=8:=h.2.1
def wx.cons{α:Type}{R:D->α->Prop}{a:D}{b:α}{as:List D}{bs:List α}(h:R a b)(h2:wx R as bs):wx R (a::as) (b::bs):=⟨by rw[zLc,zLc,h2.1],λi e c he hc=>by
 cases i with
 |zero=>cases he;cases hc;exact h
 | succ i=>exact h2.2 i e c he hc⟩
def wx.nil{α:Type}{R:D->α->Prop}:wx R [] ([]:List α):=⟨rfl,λi e c he=>by simp at he⟩
theorem Yq{α:Type}{S:D->α->Prop}{b:Nat}:∀(l:List (α×List Str)),(∀r∈l,∃q,Pc q r.2/\w4 r.2<=b/\S (pd q) r.1)->∃qs,Pcs qs (l.map Prod.snd).flatten/\w4 (l.map Prod.snd).flatten<=l.length*b/\wx S (pds qs) (l.map Prod.fst)
 |[],_=>⟨[],Pcs.nil,Nat.zero_le _,wx.nil⟩
 |r::l,h=>by
  obtain⟨q,h1,h2,h3⟩:=h r zao;obtain⟨qs,g1,g21,g3⟩:=Yq l λx hx=>h x (zal _ hx);refine⟨q::qs,Pcs.cons h1 g1,?_,wx.cons h3 g3⟩;rw[List.map_cons,List.flatten_cons,u3,zLc,Nat.add_mul];omega
def Sv{R:D->List Str->Prop}{es:List D}{cs:List (List Str)}(h:t0 R es cs):(es.zip cs).map Prod.fst=es/\(es.zip cs).map Prod.snd=cs/\∀r∈es.zip cs,R r.1 r.2:=by
 refine⟨List.map_fst_zip (by rw[h.1];exact zaj _),List.map_snd_zip (by rw[h.1];exact zaj _),λr hr=>?_⟩
 obtain⟨i,hi⟩:=List.getElem?_of_mem hr;have:=List.getElem?_zip_eq_some.mp hi;exact h.2 i _ _ this.1 this.2
def SE:Nat->Nat
 |0=>0
 |n+1=>65+4*SE n
structure XE(n:Nat)(p e:D):Prop where
 rd:RdE n p e
 th:thg (2*n+1) e
 sz:szD e<=SE n
def fi{b:Nat}:∀{l:List D},(∀d∈l,szD d<=b)->szL l<=l.length*b
 |[],_=>Nat.zero_le _
 |d::l,h=>by
  have h1:=h d zao;have h2:=fi (l:=l) λx hx=>h x (zal _ hx);show szD d+szL l<=_;rw[zLc,Nat.add_mul];omega
def wx.imp{R S:D->D->Prop}{a b:List D}(h:wx R a b)(g:∀ p e,R p e->S p e):wx S a b:=⟨h.1,λi e c he hc=>g e c (h.2 i e c he hc)⟩
def sy(w:Str):w4 [w]=w.length+4:=by rw[wy];rfl
def Po(c:List Str):w4 (lp::(c++[rp]))=w4 c+10:=by
 rw[wy,u3,sy,Zq,Zi];omega
theorem P4:∀(n:Nat)(e:D)(c:List Str),Ex1 n e c->∃q,Pc q c/\w4 c<=SE n/\XE n (pd q) e
 |0,_,_,h=>h.elim
 |n+1,e,c,h=>by
  have one:∀(z:Str)(e:D),Ub z->z.length<=61->Wd z e->szD e<=3->thg (2*n+3) e->∃q,Pc q [z]/\w4 [z]<=SE (n+1)/\XE (n+1) (pd q) e:=λz e hp hl hw hs ht=>⟨.w z,Pc.word hp,by rw[sy];show _<=65+4*SE n;omega,⟨.inl ⟨z,rfl,hw⟩,ht,by show _<=65+4*SE n;omega⟩⟩
  rcases h with(⟨i,hi,rfl,rfl⟩|⟨z,hz,rfl,rfl⟩|⟨rfl,rfl⟩|⟨rfl,rfl⟩)|⟨f,es,cs,hf,hp,hl,rfl,rfl⟩|⟨o,es,cs,ho,hp,⟨hl,ha⟩,rfl,rfl⟩
  ·exact one _ _ (Wp hi) (db hi) (.inr (.inr ⟨i,hi,rfl,rfl⟩)) (zaj 3) (λx hx=>by simp at hx;rcases hx with rfl|rfl <;> trivial)
  ·exact one _ _ (uu hz) (by have:=dh hz;omega) (.inr (.inl ⟨hz,rfl⟩)) (zaj 3) (λx hx=>by simp at hx;rcases hx with rfl|rfl <;> trivial)
  ·exact one _ _ (v7 (by decide)) (by decide +kernel) (.inl ⟨.inl rfl,rfl⟩) (by decide) (λx hx=>by simp at hx;rw[hx];trivial)
  ·exact one _ _ (v7 (by decide)) (by decide +kernel) (.inl ⟨.inr rfl,rfl⟩) (by decide) (λx hx=>by simp at hx;rw[hx];trivial)
  ·obtain⟨e1,e2,zz⟩:=Sv hp;obtain⟨qs,g1,g21,g3⟩:=Yq (es.zip cs) λr hr=>P4 n r.1 r.2 (zz r hr);rw[e1]at g3;rw[e2]at g1 g21;have ll:(es.zip cs).length=es.length:=by rw[<- zLm (f:=Prod.fst),e1]
   have P:=Pcs.cons (Pc.word (v7 (w:="call") (by decide))) (Pcs.cons (Pc.word (uu hf)) g1)
   have bq:=Nat.mul_le_mul_right (SE n) hl;rw[ll]at g21;refine⟨.b (.w "call"::.w f::qs),by have:=P.br;simpa using this,?_,⟨.inr (.inl ⟨f,pds qs,es,hf,g3.imp λp e h=>h.rd,by rw[g3.1];exact hl,rfl,rfl⟩),?_,?_⟩⟩
   ·have e:([lp,"call",f]++cs.flatten++[rp]:List Str)=lp::((("call" : Str)::f::cs.flatten)++[rp]):=by simp
    rw[e,Po,wy,wy];have:=dh hf;have:=km (w:="call") (by decide)
    show _<=65+4*SE n;omega
   ·intro x hx;simp only[zam,List.not_mem_nil,or_false]at hx;rcases hx with rfl|rfl|rfl
    ·trivial
    ·trivial
    ·show thg (2*n+2) _;intro y hy;obtain⟨r,_,q⟩:=g3.at' hy;exact q.th
   ·have:=fi (b:=SE n) (l:=es) λd hd=>by obtain⟨r,_,q⟩:=g3.at' hd;exact q.sz
    show 1+(1+(1+((1+szL es)+0)))<=65+4*SE n;omega
  ·obtain⟨e1,e2,zz⟩:=Sv hp;obtain⟨qs,g1,g21,g3⟩:=Yq (es.zip cs) λr hr=>P4 n r.1 r.2 (zz r hr);rw[e1]at g3;rw[e2]at g1 g21;have ll:(es.zip cs).length=es.length:=by rw[<- zLm (f:=Prod.fst),e1]
   have P:=Pcs.cons (Pc.word (v7 (Fe ho))) g1;have bq:=Nat.mul_le_mul_right (SE n) hl;rw[ll]at g21;refine⟨.b (.w o::qs),by have:=P.br;simpa using this,?_,⟨.inr (.inr ⟨o,pds qs,es,ho,g3.imp λp e h=>h.rd,by rw[g3.1];exact ha,rfl,rfl⟩),?_,?_⟩⟩
   ·have e:([lp,o]++cs.flatten++[rp]:List Str)=lp::((o::cs.flatten)++[rp]):=by simp
    rw[e,Po,wy];have:=km (Fe ho);show _<=65+4*SE n;omega
   ·intro x hx;rcases zam.mp hx with rfl|hx
    ·trivial
    ·obtain⟨r,_,q⟩:=g3.at' hx;exact S5 q.th
   ·have:=fi (b:=SE n) (l:=es) λd hd=>by obtain⟨r,_,q⟩:=g3.at' hd;exact q.sz
    show 1+(1+szL es)<=65+4*SE n;omega
def Pcs.words:∀{zs:List Str},(∀w∈zs,Ub w)->Pcs (zs.map Pt.w) zs
 |[],_=>Pcs.nil
 |z::zs,h=>Pcs.cons (Pc.word (h z zao)) (Pcs.words λw hw=>h w (zal _ hw))
def Wl(zs:List Str):pds (zs.map Pt.w)=zs.map D.str:=by
 rw[Ur];rfl
def Q6(ws:List Str)(cs:List (List Str)):w4 (bk ws cs)=10+w4 ws+w4 cs.flatten:=by
 unfold bk;rw[u3,u3,u3,sy,sy,Zq,Zi];omega
def S4{zs:List Str}(h:∀ w∈zs,w.length<=61):w4 zs<=zs.length*65:=by
 induction zs with
 |nil=>exact Nat.zero_le _
 |cons z zs ih =>
  have h1:=h z zao;have h2:=ih λw hw=>h w (zal _ hw);rw[wy,zLc,Nat.add_mul];omega
def Pf(ws:List Str)(cs:List (List Str)):bk ws cs=lp::((ws++cs.flatten)++[rp]):=by simp[bk]
def SE4:SE 4=5525:=rfl
def SB:Nat->Nat
 |0=>0
 |n+1=>11300+2*SB n
structure XB(n:Nat)(p b:D):Prop where
 rd:RdB n p b
 th:thg (n+9) b
 sz:szD b<=SB n
theorem Pe:∀(n:Nat)(b:D)(c:List Str),Bo n b c->∃q,Pc q c/\w4 c<=SB n/\XB n (pd q) b
 |0,_,_,h=>h.elim
 |n+1,b,c,h=>by
  have k1:=km (w:="give") (by decide)
  have k2:=km (w:="let") (by decide)
  have k3:=km (w:="less") (by decide)
  have k4:=SE4;have up:∀{x:D},thg 9 x->thg (n+9) x:=λh=>Pz (by omega) h
  rcases h with⟨e,k,he,rfl,rfl⟩|⟨z,e,k,b1,c1,hz,he,hb,rfl,rfl⟩|⟨e1,w1,e2,w2,b1,c1,b2,c2,he1,he2,hb1,hb2,rfl,rfl⟩|⟨o,z,b1,c1,zs,b2,c2,ho,hz,hb1,hzs,hn,⟨hl,hle⟩,hb2,rfl,rfl⟩
  ·obtain⟨q,p1,p2,p3⟩:=P4 4 e k he;have P:=(Pcs.cons (Pc.word (v7 (w:="give") (by decide))) (Pcs.cons p1 Pcs.nil)).br
   refine⟨.b [.w "give",q],by rw[Pf];simpa using P,?_,⟨.inl ⟨_,e,p3.rd,rfl,rfl⟩,?_,?_⟩⟩
   ·rw[Q6,sy,List.flatten_cons,List.flatten_nil,List.append_nil];show _<=11300+2*SB n;omega
   ·intro x hx;simp only[zam,List.not_mem_nil,or_false]at hx;rcases hx with rfl|rfl
    ·trivial
    ·exact up p3.th
   ·have:=p3.sz;show 1+(1+(szD e+0))<=11300+2*SB n;omega
  ·obtain⟨q,p1,p2,p3⟩:=P4 4 e k he;obtain⟨q1,g1,g21,g3⟩:=Pe n b1 c1 hb;have P:=(Pcs.cons (Pc.word (v7 (w:="let") (by decide))) (Pcs.cons (Pc.word (uu hz)) (Pcs.cons p1 (Pcs.cons g1 Pcs.nil)))).br
   have zl:=dh hz;refine⟨.b [.w "let",.w z,q,q1],by rw[Pf];simpa using P,?_,⟨.inr (.inl ⟨z,_,e,_,b1,hz,p3.rd,g3.rd,rfl,rfl⟩),?_,?_⟩⟩
   ·rw[Q6,wy,sy,List.flatten_cons,List.flatten_cons,List.flatten_nil,List.append_nil,u3];show _<=11300+2*SB n;omega
   ·intro x hx;simp only[zam,List.not_mem_nil,or_false]at hx;rcases hx with rfl|rfl|rfl|rfl
    ·trivial
    ·trivial
    ·exact up p3.th
    ·exact g3.th
   ·have:=p3.sz;have:=g3.sz;show 1+(1+(1+(szD e+(szD b1+0))))<=11300+2*SB n;omega
  ·obtain⟨q1,p1,p2,p3⟩:=P4 4 e1 w1 he1;obtain⟨q2,r1,r2,r3⟩:=P4 4 e2 w2 he2;obtain⟨q3,g1,g21,g3⟩:=Pe n b1 c1 hb1;obtain⟨q4,t1,t2,t3⟩:=Pe n b2 c2 hb2;have P:=(Pcs.cons (Pc.word (v7 (w:="less") (by decide))) (Pcs.cons p1 (Pcs.cons r1 (Pcs.cons g1 (Pcs.cons t1 Pcs.nil))))).br
   refine⟨.b [.w "less",q1,q2,q3,q4],by rw[Pf];simpa using P,?_,⟨.inr (.inr (.inl ⟨_,e1,_,e2,_,b1,_,b2,p3.rd,r3.rd,g3.rd,t3.rd,rfl,rfl⟩)),?_,?_⟩⟩
   ·rw[Q6,sy,List.flatten_cons,List.flatten_cons,List.flatten_cons,List.flatten_cons,List.flatten_nil,List.append_nil,u3,u3,u3];show _<=11300+2*SB n;omega
   ·intro x hx;simp only[zam,List.not_mem_nil,or_false]at hx;rcases hx with rfl|rfl|rfl|rfl|rfl
    ·trivial
    ·exact up p3.th
    ·exact up r3.th
    ·exact g3.th
    ·exact t3.th
   ·have:=p3.sz;have:=r3.sz;have:=g3.sz;have:=t3.sz;show 1+(1+(szD e1+(szD e2+(szD b1+(szD b2+0)))))<=11300+2*SB n;omega
  ·obtain⟨q3,g1,g21,g3⟩:=Pe n b1 c1 hb1;obtain⟨q4,t1,t2,t3⟩:=Pe n b2 c2 hb2;have oc:o∈cw:=by rcases ho with rfl|rfl <;> decide
   have W:=Pcs.words (zs:=zs) λw hw=>uu (hzs w hw);have P:=(Pcs.cons (Pc.word (v7 oc)) (Pcs.cons (Pc.word (uu hz)) (Pcs.cons g1 (Pcs.cons W.br (Pcs.cons t1 Pcs.nil))))).br;have zl:=dh hz;have ol:=km oc;have wl:=S4 (zs:=zs) λw hw=>by have:=dh (hzs w hw);omega
   refine⟨.b [.w o,.w z,q3,.b (zs.map Pt.w),q4],by rw[Pf];simpa [brW] using P,?_,⟨.inr (.inr (.inr ⟨o,z,_,b1,zs,_,b2,ho,hz,g3.rd,hzs,hle,t3.rd,?_,rfl⟩)),?_,?_⟩⟩
   ·have wb:w4 (brW zs)=w4 zs+10:=by rw[show brW zs=lp::(zs++[rp]) by simp[brW],Po]
    rw[Q6,wy,sy,List.flatten_cons,List.flatten_cons,List.flatten_cons,List.flatten_nil,List.append_nil,u3,u3,wb];show _<=11300+2*SB n;omega
   ·show D.lst [.str o,.str z,pd q3,.lst (pds (zs.map Pt.w)),pd q4]=_;rw[Wl]
   ·intro x hx;simp only[List.cons_append,List.nil_append,zam,zas,List.not_mem_nil,or_false]at hx;rcases hx with rfl|rfl|rfl|hx|rfl
    ·trivial
    ·trivial
    ·exact g3.th
    ·obtain⟨t,_,rfl⟩:=zah.mp hx;trivial
    ·exact t3.th
   ·have:=g3.sz;have:=t3.sz;have zz:=fi (b:=1) (l:=zs.map D.str) λd hd=>by obtain⟨t,_,rfl⟩:=zah.mp hd;exact zaj 1
    rw[zLm]at zz;show 1+szL ([D.str o,D.str z,b1]++zs.map D.str++[b2])<=11300+2*SB n;rw[fj,fj];show 1+((1+(1+(szD b1+0)))+szL (zs.map D.str)+(szD b2+0))<=_;omega
def Uv{α β:Type}{f:α->β}(hf:∀ a b,f a=f b->a=b):∀{xs ys:List α},xs.map f=ys.map f->xs=ys
 |[],[],_=>rfl
 |x::xs,y::ys,h=>by
  rw[List.map_cons,List.map_cons]at h;rw[hf x y (List.cons.inj h).1,Uv hf (List.cons.inj h).2]
structure XF(p:D)(f:Fn):Prop where
 rd:RdF p f
 th:thg 20 (fnD f)
 sz:szD (fnD f)<=351000
def prP(p:Str×Str):Pt:=.b [.w p.1,.w p.2]
def SB5:SB 5=350300:=rfl
def z4h{f:Fn}{c:List Str}(h:Fu (fnD f) c):∃q,Pc q c/\w4 c<=351000/\XF (pd q) f:=by
 obtain⟨name,ps,shape,ns,b,k,h1,h2,h3,h4,h5,h6,h7,h8,he,rfl⟩:=h;obtain⟨fn,fp,fsh,fsz,fb⟩:=f;unfold fnD at he;have e1:fn=name:=by injection he with he;injection he with a _;injection a
 have e2:fp=ps:=by
  injection he with he;injection he with _ he;injection he with a _;injection a with a
  exact Uv (f:=prD) (λx y hxy=>by
   obtain⟨x1,x2⟩:=x;obtain⟨y1,y2⟩:=y
   injection hxy with hxy;injection hxy with a b;injection a with a;injection b with b _;injection b with b
   exact Prod.ext a b) a
 have e3:fsh=shape:=by injection he with he;injection he with _ he;injection he with _ he;injection he with a _;injection a with a;injection a with a _;injection a
 have e4:fsz=ns:=by
  injection he with he;injection he with _ he;injection he with _ he;injection he with a _;injection a with a;injection a with _ a;injection a with a _;injection a with a
  exact Uv (f:=D.int) (λx y hxy=>by injection hxy) a
 have e5:fb=b:=by injection he with he;injection he with _ he;injection he with _ he;injection he with _ he;injection he
 subst e1 e2 e3 e4 e5;clear he;obtain⟨q,g1,g21,g3⟩:=Pe 5 fb k h8;have Pp:Pcs (fp.map prP) (fp.map prW).flatten:=by
  have:∀ps:List (Str×Str),(∀p∈ps,IsNm p.1/\IsSh p.2)->Pcs (ps.map prP) (ps.map prW).flatten:=λps=>by
   induction ps with
   |nil=>exact λ_=>Pcs.nil
   |cons p ps ih =>
    intro hp;have hp1:=hp p zao;have:=(Pcs.cons (Pc.word (uu hp1.1)) (Pcs.cons (Pc.word (v7 (Kw hp1.2))) Pcs.nil)).br;exact Pcs.cons (q:=prP p) (by simpa [prW,brW,prP] using this) (ih λx hx=>hp x (zal _ hx))
  exact this fp h4
 have Pn:=Pcs.cons (Pc.word (v7 (Kw h5))) (Pcs.words (zs:=fsz.map numS) λw hw=>by
  obtain⟨i,hi,rfl⟩:=zah.mp hw;exact Wp (h7 i hi))
 have P:=(Pcs.cons (Pc.word (v7 (w:="fn") (by decide))) (Pcs.cons (Pc.word (uu h1)) (Pcs.cons Pp.br (Pcs.cons Pn.br (Pcs.cons g1 Pcs.nil))))).br
 refine⟨.b [.w "fn",.w fn,.b (fp.map prP),.b (.w fsh::(fsz.map numS).map Pt.w),q],by rw[Pf,Pf];simpa [brW] using P,?_,⟨⟨pd q,h1,h4,h3,h5,h7,h6,g3.rd,?_⟩,?_,?_⟩⟩
 ·have wp:w4 (fp.map prW).flatten<=4*40:=by
   have:∀ps:List (Str×Str),(∀p∈ps,IsNm p.1/\IsSh p.2)->w4 (ps.map prW).flatten<=ps.length*40:=λps=>by
    induction ps with
    |nil=>exact λ_=>Nat.zero_le _
    |cons p ps ih =>
     intro hp;have hp1:=hp p zao;have:=ih λx hx=>hp x (zal _ hx);have:=dh hp1.1;have:=km (Kw hp1.2);have e:w4 (prW p)=w4 [p.1,p.2]+10:=by rw[show prW p=lp::([p.1,p.2]++[rp]) from rfl,Po]
     rw[List.map_cons,List.flatten_cons,u3,e,wy,sy,zLc];omega
   exact zak (this fp h4) (Nat.mul_le_mul_right _ h3)
  have wn:=S4 (zs:=fsz.map numS) λw hw=>by
   obtain⟨i,hi,rfl⟩:=zah.mp hw;exact db (h7 i hi)
  rw[zLm]at wn;have:=dh h1;have:=km (Kw h5);have:=km (w:="fn") (by decide)
  have wb:w4 (brW (fsh::fsz.map numS))=w4 (fsh::fsz.map numS)+10:=by rw[show brW (fsh::fsz.map numS)=lp::((fsh::fsz.map numS)++[rp]) by simp[brW],Po]
  rw[Q6,wy,sy,List.flatten_cons,List.flatten_cons,List.flatten_cons,List.flatten_nil,List.append_nil,u3,u3,Q6,wb,wy];have:w4 []=0:=rfl;have:=SB5;omega
 ·show D.lst [.str "fn",.str fn,.lst (pds (fp.map prP)),.lst (.str fsh::pds ((fsz.map numS).map Pt.w)),pd q]=_;rw[Wl,Ur,List.map_map];rfl
 ·intro x hx;simp only[zam,List.not_mem_nil,or_false]at hx;rcases hx with rfl|rfl|rfl|rfl
  ·trivial
  ·intro y hy;obtain⟨p,_,rfl⟩:=zah.mp hy;intro z hz;simp only[zam,List.not_mem_nil,or_false]at hz;rcases hz with rfl|rfl <;> trivial
  ·intro y hy;simp only[zam,List.not_mem_nil,or_false]at hy;rcases hy with rfl|rfl
   ·trivial
   ·intro z hz;obtain⟨p,_,rfl⟩:=zah.mp hz;trivial
  ·exact Pz (by decide) g3.th
 ·have s1:=fi (b:=3) (l:=fp.map prD) λd hd=>by obtain⟨t,_,rfl⟩:=zah.mp hd;exact zaj 3
  have s2:=fi (b:=1) (l:=fsz.map D.int) λd hd=>by obtain⟨t,_,rfl⟩:=zah.mp hd;exact zaj 1
  rw[zLm]at s1 s2;have:=g3.sz;have:=SB5;show 1+(1+((1+szL (fp.map prD))+((1+(1+((1+szL (fsz.map D.int))+0)))+(szD fb+0))))<=_;omega
def z2v(p:Option Str)(w:Str):Bl (sep p w)/\(sep p w).length<=2:=by
 have h0:Bl ("" : Str)/\("" : Str).length<=2:=⟨U2 (by decide +kernel) (by decide +kernel),by decide +kernel⟩
 have h1:Bl sp/\sp.length<=2:=⟨U2 (by decide +kernel) (by decide +kernel),by decide +kernel⟩
 cases p with
 |none=>exact h0
 |some q =>
  show Bl (if q≠lp/\w≠rp then sp else "")/\(if q≠lp/\w≠rp then sp else "").length<=2
  split
  ·exact h1
  ·exact h0
theorem M5{zs:List Str}(ht:∀ w∈zs,Tok w):∀{j:Nat},j<=zs.length->Ln zs j (y3 (zs.take j))
 |0,_=>R7 (z:="") zs (U2 (by decide +kernel) (by decide +kernel))
 |j+1,h=>by
  have hj:j<zs.length:=h;rw[Wv hj];obtain⟨b1,b2⟩:=z2v (prev zs j) zs[j];refine M4 (M5 ht (Nat.le_of_lt hj)) hj (ht _ (List.getElem_mem hj)) b1 b2 λe=>?_;cases j with
  |zero=>exact .inl rfl
  |succ k =>
   have hk:k<zs.length:=by omega
   rw[show prev zs (k+1)=some zs[k] from zaf hk]at e;have e':(if zs[k]≠lp/\zs[k+1]≠rp then sp else "")=("" : Str):=e
   by_cases c:zs[k]≠lp/\zs[k+1]≠rp
   ·rw[if_pos c]at e';exact absurd e' (by decide +kernel)
   ·rcases Decidable.not_and_iff_or_not.mp c with c|c
    ·left
     show isBr (zs.getD k "(")=true;rw[zaq,zaf hk,Option.getD_some,Decidable.not_not.mp c]
     decide
    ·right
     rw[Decidable.not_not.mp c]
     decide
def Qq{zs:List Str}(ht:∀ w∈zs,Tok w)(hw:w4 zs<=4000000):t7 (y3 zs)=zs/\jk (y3 zs):=by
 have L:=M5 ht (zaj _);rw[List.take_length]at L;have:=Fj (t:="") L (U2 (by decide +kernel) (by decide +kernel)) (by rw[Pm];exact hw)
 rwa [sR]at this
def rw2(r:Fn×List Str):D×List Str:=(fnD r.1,r.2)
def Bw(rs:List (Fn×List Str)):wds (rs.map rw2)=(rs.map Prod.snd).flatten:=by
 unfold wds;rw[List.map_map];rfl
def Dd(rs:List (Fn×List Str)):rs.map rowF=(rs.map rw2).map rowD:=by
 rw[List.map_map];rfl
def Fv(rs:List (Fn×List Str)):(rs.map rw2).map Prod.fst=(rs.map Prod.fst).map fnD:=by
 rw[List.map_map,List.map_map];rfl
structure Gr(rs:List (Fn×List Str))(ws:List Str)(qs:List Pt):Prop where
 we:wds (rs.map rw2)=ws
 fu:∀r∈rs,Fu (fnD r.1) r.2
 pg:Y1 4 5 (rs.map Prod.fst)
 tk:∀w∈ws,Tok w
 wb:w4 ws<=4000000
 run:runN [[]] ws=some [qs]
 rd:wx RdF (pds qs) (rs.map Prod.fst)
 th:thg 30 (.tup ((rs.map Prod.fst).map fnD))
 sz:szD (.tup ((rs.map Prod.fst).map fnD))<=10000000
def z4g{rs:List (Fn×List Str)}(hf:∀ r∈rs,Fu (fnD r.1) r.2)(hp:Y1 4 5 (rs.map Prod.fst)):∃ws qs,Gr rs ws qs:=by
 have l8:rs.length<=8:=by have:=hp.hi;rwa [zLm]at this
 obtain⟨qs,g1,g21,g3⟩:=Yq (S:=XF) (b:=351000) rs λr hr=>z4h (hf r hr);have b:=Nat.mul_le_mul_right 351000 l8;refine⟨_,qs,Bw rs,hf,hp,g1.tk,by omega,?_,⟨g3.1,λi e c he hc=>(g3.2 i e c he hc).rd⟩,λx hx=>?_,?_⟩
 ·rw[<- g1.eq,Uk qs g1.ok [] []];rfl
 ·obtain⟨f,hf',rfl⟩:=zah.mp hx;obtain⟨p,_,q⟩:=g3.at' hf';exact Pz (by decide) q.th
 ·have:=fi (b:=351000) (l:=(rs.map Prod.fst).map fnD) λd hd=>by
   obtain⟨f,hf',rfl⟩:=zah.mp hd;obtain⟨p,_,q⟩:=g3.at' hf';exact q.sz
  rw[zLm,zLm]at this;show 1+szL _<=_;omega
def len4(c:List Str):4*c.length<=w4 c:=by
 induction c with
 |nil=>exact zaj _
 |cons a c ih=>rw[wy,zLc];omega
def Ei(c:List Str):wsum c<=w4 c:=by
 induction c with
 |nil=>exact zaj _
 |cons a c ih=>rw[wy,yk];omega
def Dc{rs:List (D×List Str)}(h:∀ r∈rs,Fu r.1 r.2):t0 Fu (rs.map Prod.fst) (rs.map Prod.snd):=by
 refine⟨by simp,λi e c he hc=>?_⟩
 rw[zai]at he hc;obtain⟨r,hr,rfl⟩:=zar.mp he;rw[hr]at hc;cases hc;exact h r (zan hr)
def z1d(T:Tops mg)(z8a:FD P w K mg base 28 "read" ["text"] A6)(z6y:FD P w K mg base 27 "right" ["program"] (O6 4 5))(z8c:FD P w K mg base 19 "show" ["program"] A5)(z4s:FD P w K mg base 1 "_law_cell_at" ["_law_script","_law_k"] Za)(z6z:FD P w K mg base 19 "_law_grown" ["_law_script"] Gn)(z4y:FD P w K mg base 1 "_law_flat" ["_law_made"] Y9)(z7m:FD P w K mg base 1 "_law_line" ["_law_words"] A9)(z6m:FD P w K mg base 1 "_law_spaced" ["_law_words","_law_cell"] O4)(z6n:FD P w K mg base 1 "_law_things" ["_law_found"] O3)(F:Fun K "law" "law" (top 66) f fd):FnOk P w K mg base CX0 29 f fd ["_law_script"] (spD K 1 lawT):=by
 have S:zo ["_law_script","_law_made","_law_words","_law_due","_law_found","_law_line_here"] ["_law_script"] (zd (top 66)):=by walk_at "f"
 refine Fx F S λqZ A outer s H E ds φ hr hl hT=>?_;have hu:=hr.units;refine⟨_,(ze (zj (zt 1 S.nd (zg z6z (hr.e rfl) (z9 (za 0) zb))))
   (ze (zj (zt 2 S.nd (zg z4y (hr.e rfl) (z9 (za 1) zb))))
   (ze (zj (zt 3 S.nd (xn T.tuple (z9 (Xr (T:=["_law_one","_law_more"]) (F:=[]) (js:=[]) (yj (za 1)) (show zm (zd (top 66)) _ _ _ from by walk_at "c") .nil (by decide) (λcl C fp s H=>(wt (K0:=K) (n:=2) (by rfl) (by rfl) (yb (zn (i:=0) (show(["_law_one","_law_more"]:List Str).Nodup by decide +kernel) rfl (by walk_at "o")) (yb (zn (i:=1) (show(["_law_one","_law_more"]:List Str).Nodup by decide +kernel) rfl (by walk_at "o")) wq)))) (uk (ym y9 (xo y9 xc) (zw (by decide)) (ym y9 xc (zw (by decide)) ul))) (v5 0 1) (λcl C fp s H=>ya) (λcl C fp s H=>(za 0))) zb))))
   (ze (zj (zt 4 S.nd (zg z8a (hr.e rfl) (z9 (zg z6m (hr.e rfl) (z9 (za 2) (z9 (y8 (vj (zg z4s (hr.e rfl) (z9 (za 0) (z9 zc zb))) zc) (zg z4s (hr.e rfl) (z9 (za 0) (z9 zc zb)))) zb))) zb))))
   (ze (zj (yh (EW.et (tz (xw (xm (zg z6n (hr.e rfl) (z9 (za 4) zb)))) (tz (qf hu (za 4) (za 3)) (um (L6 (zg z6y (hr.e rfl) (z9 (za 4) zb)) sx))))) (zi (zp sx)) y7))
   (ze (zj (zt 5 S.nd (zg z7m (hr.e rfl) (z9 (za 2) zb))))
   (zi (zp (cu (Xq hu (zg z8c (hr.e rfl) (z9 (za 4) zb)) (za 5)) (cj (Xq hu (zg z8a (hr.e rfl) (z9 (za 5) zb)) (za 3)))))))))))),?_⟩
 obtain⟨ns,rfl,hn,h⟩:=hT;refine zf (λρ=>∃rs ws qs,Gr rs ws qs/\ρ=[q_ (.scr ns),q_ (.lst ((rs.map rw2).map rowD)),none,none,none,none]) ?_ ?_
 ·walk_at "dl";exact⟨ns,rfl,λrs hf hp=>⟨trivial,by obtain⟨ws,qs,G⟩:=z4g hf hp;exact⟨rs,ws,qs,G,by rw[Dd]⟩⟩⟩
 rintro _ ⟨rs,ws,qs,G,rfl⟩;have lw:=len4 ws;have b4:=G.wb;have pu:ve ((rs.map Prod.fst).map fnD):=yi.mpr λd hd=>by
  obtain⟨f,hf,rfl⟩:=zah.mp hd;obtain⟨p,_,q⟩:=G.rd.at' hf;exact(d6 q).2
 have l8:rs.length<=8:=by have:=G.pg.hi;rwa [zLm]at this
 refine zf (λρ=>ρ=[q_ (.scr ns),q_ (.lst ((rs.map rw2).map rowD)),Q_ (.lst (ws.map D.str)),none,none,none]) ?_ ?_
 ·walk_at "dl";exact⟨rs.map rw2,rfl,by rw[G.we];omega,by rw[G.we];exact⟨trivial,rfl⟩⟩
 rintro _ rfl;refine zf (λρ=>ρ=[q_ (.scr ns),q_ (.lst ((rs.map rw2).map rowD)),Q_ (.lst (ws.map D.str)),q_ (.tup ((rs.map Prod.fst).map fnD)),none,none]) ?_ ?_
 ·walk_at "dl";refine ff ((rs.map rw2).map rowD) (λψ hψ=>?_) fstD (by rw[zLm,zLm];omega) (λd hd=>?_) ?_
  ·walk_at "dl";exact hψ
  ·obtain⟨r,_,rfl⟩:=zah.mp hd;unfold rowD;walk_at "p";walk_at "dl";rfl
  rw[gy,Fv]
 rintro _ rfl;refine zf (λρ=>ρ=[q_ (.scr ns),q_ (.lst ((rs.map rw2).map rowD)),Q_ (.lst (ws.map D.str)),q_ (.tup ((rs.map Prod.fst).map fnD)),q_ (.tup ((rs.map Prod.fst).map fnD)),none]) ?_ ?_
 ·walk_at "dl";exact⟨ns,0,rfl,rfl,of_eq_true (xk (by decide) (by decide)),ns,1,rfl,rfl,_,_,rfl,ws,_,rfl,rfl,G.tk,by rw[Pm];omega,λz hz hs=>⟨z,qs,rs.map Prod.fst,rfl,hs,by rw[hz];omega,by rw[hz];exact G.run,G.rd,G.pg,trivial,rfl⟩⟩
 rintro _ rfl;refine zf (λρ=>ρ=[q_ (.scr ns),q_ (.lst ((rs.map rw2).map rowD)),Q_ (.lst (ws.map D.str)),q_ (.tup ((rs.map Prod.fst).map fnD)),q_ (.tup ((rs.map Prod.fst).map fnD)),none]) ?_ ?_
 ·have okP:okD 40 (.tup ((rs.map Prod.fst).map fnD)):=d8 (by decide) (S6 G.th)
  have er:=Xo 40 _ okP;walk_at "dl";exact⟨G.th,G.sz,λz=>Bool.noConfusion (show true=false from z),λ_=>⟨okP,okP,λz=>(by rw[er]at z;cases z),λ_=>⟨rs.map Prod.fst,rfl,by decide,G.pg,λz=>Bool.noConfusion (show false=true from z)⟩⟩⟩
 rintro _ rfl;refine zf (λρ=>ρ=[q_ (.scr ns),q_ (.lst ((rs.map rw2).map rowD)),Q_ (.lst (ws.map D.str)),q_ (.tup ((rs.map Prod.fst).map fnD)),q_ (.tup ((rs.map Prod.fst).map fnD)),q_ (.str (y3 ws))]) ?_ ?_
 ·walk_at "dl";exact⟨ws,rfl,by have:=Ei ws;omega,trivial,rfl⟩
 rintro _ rfl;obtain⟨lw1,lw2⟩:=Qq G.tk G.wb;have okP:okD 40 (.tup ((rs.map Prod.fst).map fnD)):=d8 (by decide) (S6 G.th)
 have er:=Xo 40 _ okP;have pr:t0 Fu ((rs.map Prod.fst).map fnD) ((rs.map rw2).map Prod.snd):=by
  rw[<- Fv];refine Dc λr hr=>?_;obtain⟨x,hx,rfl⟩:=zah.mp hr;exact G.fu x hx
 have hw:=G.we;subst hw;walk_at "dl";exact⟨_,_,rfl,pr,by rw[zLm,zLm];exact l8,xa _ _,λ_=>⟨_,qs,rs.map Prod.fst,rfl,lw2,by rw[lw1];omega,by rw[lw1];exact G.run,G.rd,G.pg,okP,okP,by rw[er];exact h⟩,λz=>(eqt z).elim⟩
def u7{K:W.Frag}{a:Addr}{o:Obj}{its:Array Value}{n:Nat}(ws:List Str)(hl:K.lookup a=some o)(hc:o.cls=.type "tuple")(hd:o.data=.seq its n)(hs:its.size<=100)(hv:Vals (ws.map V.str) its.toList):CRep K (cs ws) (.ref a) :=
 ⟨a,o,its,n,_,rfl,hl,hc,hd,zak hs (by rw[sizeLine_eq];decide),hv,jh ws⟩
def ji{K:W.Frag}{a b:Addr}{o:Obj}{n:Nat}{s:Str}{t:PySem.Tok}{ws:List Str}(hl:K.lookup b=some o)(hc:o.cls=.type "tuple")(hd:o.data=.seq #[.ref a,.str s t] n)(h:CRep K (cs ws) (.ref a)):CRep K (.tup [cs ws,.str s]) (.ref b) :=
 ⟨b,o,_,n,[.ref a,.str s],rfl,hl,hc,hd,(by rw[sizeLine_eq];show(2:Nat)<=_;decide),.cons rfl (.cons ⟨_,rfl⟩ .nil),.ref a,_,rfl,h,.str s,_,rfl,rfl,rfl⟩
def ent(w:World)(p:Str×PySem.Tok×Value):DictEntry:=⟨hashStr w p.1,.str p.1 p.2.1,p.2.2⟩
def Rws(K:W.Frag):List (Str×PySem.Tok×Value)->List (Str×Cst)->Prop
 |[],tab=>tab=[]
 |p::l,tab=>∃c r,tab=(p.1,c)::r/\(∃v,RelV v p.2.2/\CRep K c v)/\Rws K l r
def Hq{P:Program}{w:World}(z:Str)(p:Str×PySem.Tok×Value)(l:List (Str×PySem.Tok×Value)):findBy (strKind P w).is ((p::l).map (ent w)).toArray z=if z=p.1 then some p.2.2 else findBy (strKind P w).is (l.map (ent w)).toArray z:=by
 unfold findBy;rw[List.find?_toArray,List.find?_toArray,List.map_cons,List.find?_cons];have e:(strKind P w).is z (ent w p).key=(p.1==z):=rfl;rw[e];by_cases q:z=p.1
 ·rw[if_pos q,q,beq_self_eq_true];rfl
 ·rw[if_neg q,beq_eq_false_iff_ne.mpr (λy=>q y.symm)]
theorem Ui{P:Program}{w:World}{K:W.Frag}(z:Str):∀(l:List (Str×PySem.Tok×Value))(tab:List (Str×Cst)),Rws K l tab ->
  (tabL tab z=none->findBy (strKind P w).is (l.map (ent w)).toArray z=none)/\∀c,tabL tab z=some c->∃u v,findBy (strKind P w).is (l.map (ent w)).toArray z=some u/\RelV v u/\CRep K c v
 |[],tab,h=>by
  cases (show tab=[] from h)
  exact⟨λ_=>rfl,λc y=>by cases y⟩
 |p::l,tab,h=>by
  obtain⟨c,r,rfl,⟨v,h1,h2⟩,h3⟩:=h;obtain⟨i1,i2⟩:=Ui z l r h3;rw[Hq];unfold tabL;by_cases q:z=p.1
  ·rw[if_pos q,if_pos q];exact⟨λy=>(by cases y),λc' y=>(by cases y;exact⟨_,v,rfl,h1,h2⟩)⟩
  ·rw[if_neg q,if_neg q];exact⟨i1,i2⟩
def Mp{P:Program}{w:World}{K:W.Frag}{mg:Str->Option Value}{x:Str}{a:Addr}{e:Nat}{tab:List (Str×Cst)}(l:List (Str×PySem.Tok×Value))(hm:mg x=some (.ref a))(hn:(a==sysModules)=false)(hl:K.lookup a=some ⟨.type "dict",none,.dict (l.map (ent w)).toArray e,#[]⟩)(hr:Rws K l tab):GT P w K mg x tab:=by
 refine⟨a,findBy (strKind P w).is (l.map (ent w)).toArray,hm,⟨⟨_,_,hl,λd hd=>?_,λk=>rfl⟩,hn⟩,λz=>(Ui z l tab hr).1,λz=>(Ui z l tab hr).2⟩;rw[List.mem_toArray]at hd;obtain⟨p,_,rfl⟩:=zah.mp hd;exact⟨p.1,ZZ.isStr_self _ _,rfl⟩
abbrev NnA(K:W.Frag)(x:Str):Prop:=W.nsIn K mainGlobals x=some none
def FnA(K:W.Frag)(x:Str)(i:Nat)(f:Addr):Prop:=W.nsIn K mainGlobals x=some (some (.ref f))/\∃fd,Fun K x x (top i) f fd
def fna_mk{K:W.Frag}{x:Str}{i:Nat}{f:Addr}{od an:Option Addr}{sl:Array (Option Value)}{oc kV dc pm cd ct:Value}(a:W.nsIn K mainGlobals x=some (some (.ref f)))(l:K.lookup f=some ⟨oc,od,.func (W.fnOf x x (se (top i)) (wv (top i)) (zd (top i)) .none kV dc pm an cd ct),sl⟩)(c:W.codeIn K cd x=true)(k:W.keepIn K (.ref f)=true):FnA K x i f:=⟨a,_,Ft l c k⟩
def ye{K:W.Frag}{x:Str}{i:Nat}{f:Addr}{h:Heap}{mg:Str->Option Value}(X:K.In h)(G:h.Ns mainGlobals mg)(l:FnA K x i f):∃fd,Fun K x x (top i) f fd/\mg x=some (.ref f):=let ⟨a,fd,F⟩:=l;⟨fd,F,W.mg_of X G a⟩
def all_mk{l:W.OpenLaw}{w:World}{K:W.Frag}{h:Heap}{mg:Str->Option Value}{fa:Addr}(X:K.In h)(G:h.Ns mainGlobals mg)(hfa:mg "law" = some (.ref fa)){f1 f2 f3 f4 f5 f6 f7 f8 f9 f10 f11 f12 f13 f14 f15 f16 f17 f18 f19 f20 f21 f22 f23 f24 f25 f26 f27 f28 f29 f30 f31 f32 f33 f34 f35 f36 f37 f38 f39 f40 f41 f42 f43 f44 f45 f46 f47 f48 f49 f50 f51:Addr}{od51 an51:Option Addr}{sl51:Array (Option Value)}{oc51 kV51 dc51 pm51 cd51 ct51:Value}{aF aB a_S a_N a_b0 a_c0 a_b1 a_c1 a_b2 a_c2 a_b3 a_c3 a_b4 a_c4 a_b5 a_c5 a_d0 a_d1 aI0 aI1 aI2:Addr}{o_S o_N o_b0 o_c0 o_b1 o_c1 o_b2 o_c2 o_b3 o_c3 o_b4 o_c4 o_b5 o_c5 o_d0 o_d1:Option Addr}{n_S n_N n_b0 n_c0 n_b1 n_c1 n_b2 n_c2 n_b3 n_c3 n_b4 n_c4 n_b5 n_c5 n_d0 n_d1 eI0 eI1 eI2 eF eB:Nat}{s_S s_N s_b0 s_c0 s_b1 s_c1 s_b2 s_c2 s_b3 s_c3 s_b4 s_c4 s_b5 s_c5 s_d0 s_d1:Array (Option Value)}{tL tG tf0 tf1 tf2 tf3 tf4 tf5 tg0 tg1 tk0 tk1 tk2 tk3 tk4 tk5 tk6 tk7 tk8 tk9 tk10 tk11 tk12 tk13 tk14 tk15 tk16 tk17 tk18 tk19 tk20 tk21 tk22 tk23 tk24 ti00 ti01 ti02 ti03 ti04 tj00 tj01 tj02 tj03 tj04 ti10 ti11 ti12 ti13 tj10 tj11 tj12 tj13 ti20 ti21 tj20 tj21:PySem.Tok}(l1:FnA K "is_whole" 10 f1)(l2:FnA K "is_name" 11 f2)(l3:FnA K "unlike" 12 f3)(l4:FnA K "gives_right" 15 f4)(l5:FnA K "head_right" 14 f5)(l6:FnA K "shape_if" 20 f6)(l7:FnA K "call_shape" 19 f7)(l8:FnA K "shape_of" 18 f8)(l9:FnA K "wider_right" 17 f9)(l10:FnA K "body_right" 16 f10)(l11:FnA K "right" 13 f11)(l12:FnA K "words_of" 27 f12)(l13:FnA K "nested" 28 f13)(l14:FnA K "in_bracket" 29 f14)(l15:FnA K "bracket_of" 30 f15)(l16:FnA K "head_of" 31 f16)(l17:FnA K "read_name" 32 f17)(l18:FnA K "read_names" 33 f18)(l19:FnA K "read_shape" 34 f19)(l20:FnA K "is_number" 35 f20)(l21:FnA K "read_number" 36 f21)(l22:FnA K "read_word" 43 f22)(l23:FnA K "read_all" 42 f23)(l24:FnA K "read_expression" 41 f24)(l25:FnA K "read_gives" 39 f25)(l26:FnA K "read_param" 38 f26)(l27:FnA K "read_body" 40 f27)(l28:FnA K "read_function" 37 f28)(l29:FnA K "read" 26 f29)(l30:FnA K "bracketed" 45 f30)(l31:FnA K "show_all" 49 f31)(l32:FnA K "show_expression" 48 f32)(l33:FnA K "show_body" 47 f33)(l34:FnA K "show_function" 46 f34)(l35:FnA K "show" 44 f35)(l36:FnA K "_law_cell_at" 51 f36)(l37:FnA K "_law_name" 52 f37)(l38:FnA K "_law_next" 53 f38)(l39:FnA K "_law_flat" 54 f39)(l40:FnA K "_law_plain" 55 f40)(l41:FnA K "_law_e" 56 f41)(l42:FnA K "_law_open" 57 f42)(l43:FnA K "_law_body" 58 f43)(l44:FnA K "_law_head" 59 f44)(l45:FnA K "_law_built" 60 f45)(l46:FnA K "_law_function" 61 f46)(l47:FnA K "_law_grown" 62 f47)(l48:FnA K "_law_line" 63 f48)(l49:FnA K "_law_spaced" 64 f49)(l50:FnA K "_law_things" 65 f50)(a51:W.nsIn K mainGlobals "law" = some (some (.ref f51)))(l51:K.lookup f51=some ⟨oc51,od51,.func (W.fnOf "law" "law" (se (top 66)) (wv (top 66)) (zd (top 66)) .none kV51 dc51 pm51 an51 cd51 ct51),sl51⟩)(c51:W.codeIn K cd51 "law" = true)(k51:W.keepIn K (.ref f51)=true)(bL:W.nsIn K mainGlobals "LETTERS" = some (some (.str "abcdefghijklmnopqrstuvwxyz" tL)))(bG:W.nsIn K mainGlobals "FIGURES" = some (some (.str "0123456789" tG)))(bS:W.nsIn K mainGlobals "SHAPES" = some (some (.ref a_S)))(lS:K.lookup a_S=some ⟨.type "tuple",o_S,.seq #[.str "num" tk0,.str "list" tk1,.str "tree" tk2] n_S,s_S⟩)(bN:W.nsIn K mainGlobals "NO_NAMES" = some (some (.ref a_N)))(lN:K.lookup a_N=some ⟨.type "tuple",o_N,.seq #[.str "nil" tk3,.str "leaf" tk4] n_N,s_N⟩)(bF:W.nsIn K mainGlobals "FORMS" = some (some (.ref aF)))(lF:K.lookup aF=some ⟨.type "dict",none,.dict #[⟨hashStr w "nil",.str "nil" tf0,.ref a_b0⟩,⟨hashStr w "cons",.str "cons" tf1,.ref a_b1⟩,⟨hashStr w "leaf",.str "leaf" tf2,.ref a_b2⟩,⟨hashStr w "node",.str "node" tf3,.ref a_b3⟩,⟨hashStr w "add",.str "add" tf4,.ref a_b4⟩,⟨hashStr w "sub",.str "sub" tf5,.ref a_b5⟩] eF,#[]⟩)(lb0:K.lookup a_b0=some ⟨.type "tuple",o_b0,.seq #[.ref a_c0,.str "list" tk5] n_b0,s_b0⟩)(lc0:K.lookup a_c0=some ⟨.type "tuple",o_c0,.seq #[] n_c0,s_c0⟩)(lb1:K.lookup a_b1=some ⟨.type "tuple",o_b1,.seq #[.ref a_c1,.str "list" tk6] n_b1,s_b1⟩)(lc1:K.lookup a_c1=some ⟨.type "tuple",o_c1,.seq #[.str "num" tk7,.str "list" tk8] n_c1,s_c1⟩)(lb2:K.lookup a_b2=some ⟨.type "tuple",o_b2,.seq #[.ref a_c2,.str "tree" tk9] n_b2,s_b2⟩)(lc2:K.lookup a_c2=some ⟨.type "tuple",o_c2,.seq #[] n_c2,s_c2⟩)(lb3:K.lookup a_b3=some ⟨.type "tuple",o_b3,.seq #[.ref a_c3,.str "tree" tk10] n_b3,s_b3⟩)(lc3:K.lookup a_c3=some ⟨.type "tuple",o_c3,.seq #[.str "tree" tk11,.str "num" tk12,.str "tree" tk13] n_c3,s_c3⟩)(lb4:K.lookup a_b4=some ⟨.type "tuple",o_b4,.seq #[.ref a_c4,.str "num" tk14] n_b4,s_b4⟩)(lc4:K.lookup a_c4=some ⟨.type "tuple",o_c4,.seq #[.str "num" tk15,.str "num" tk16] n_c4,s_c4⟩)(lb5:K.lookup a_b5=some ⟨.type "tuple",o_b5,.seq #[.ref a_c5,.str "num" tk17] n_b5,s_b5⟩)(lc5:K.lookup a_c5=some ⟨.type "tuple",o_c5,.seq #[.str "num" tk18,.str "num" tk19] n_c5,s_c5⟩)(bB:W.nsIn K mainGlobals "BROUGHT" = some (some (.ref aB)))(lB:K.lookup aB=some ⟨.type "dict",none,.dict #[⟨hashStr w "list",.str "list" tg0,.ref a_d0⟩,⟨hashStr w "tree",.str "tree" tg1,.ref a_d1⟩] eB,#[]⟩)(ld0:K.lookup a_d0=some ⟨.type "tuple",o_d0,.seq #[.str "num" tk20,.str "list" tk21] n_d0,s_d0⟩)(ld1:K.lookup a_d1=some ⟨.type "tuple",o_d1,.seq #[.str "tree" tk22,.str "num" tk23,.str "tree" tk24] n_d1,s_d1⟩)(bI0:W.nsIn K mainGlobals "BODIES" = some (some (.ref aI0)))(lI0:K.lookup aI0=some ⟨.type "dict",none,.dict #[⟨hashStr w "give",.str "give" ti00,.int 2 tj00⟩,⟨hashStr w "let",.str "let" ti01,.int 4 tj01⟩,⟨hashStr w "less",.str "less" ti02,.int 5 tj02⟩,⟨hashStr w "list",.str "list" ti03,.int 5 tj03⟩,⟨hashStr w "tree",.str "tree" ti04,.int 5 tj04⟩] eI0,#[]⟩)(bI1:W.nsIn K mainGlobals "BRACKETS" = some (some (.ref aI1)))(lI1:K.lookup aI1=some ⟨.type "dict",none,.dict #[⟨hashStr w "cons",.str "cons" ti10,.int 3 tj10⟩,⟨hashStr w "node",.str "node" ti11,.int 4 tj11⟩,⟨hashStr w "add",.str "add" ti12,.int 3 tj12⟩,⟨hashStr w "sub",.str "sub" ti13,.int 3 tj13⟩] eI1,#[]⟩)(bI2:W.nsIn K mainGlobals "BRINGS" = some (some (.ref aI2)))(lI2:K.lookup aI2=some ⟨.type "dict",none,.dict #[⟨hashStr w "list",.str "list" ti20,.int 2 tj20⟩,⟨hashStr w "tree",.str "tree" ti21,.int 3 tj21⟩] eI2,#[]⟩)(nF:(aF==sysModules)=false)(nB:(aB==sysModules)=false)(nI0:(aI0==sysModules)=false)(nI1:(aI1==sysModules)=false)(nI2:(aI2==sysModules)=false)(z_ValueError:NnA K "ValueError")(z_all:NnA K "all")(z_any:NnA K "any")(z_bool:NnA K "bool")(z_dict:NnA K "dict")(z_int:NnA K "int")(z_isinstance:NnA K "isinstance")(z_len:NnA K "len")(z_list:NnA K "list")(z_range:NnA K "range")(z_set:NnA K "set")(z_str:NnA K "str")(z_tuple:NnA K "tuple")(z_zip:NnA K "zip") :
  ∃fd:FuncData,(∀(s:Shared)(v:Value),BindsTo s fd ⟨[v],[]⟩ [("_law_script",v)])/\∀base:Heap,K.In base->base.Ns mainGlobals mg->FnOk l.prog w K mg base CX0 29 fa fd ["_law_script"] (spD K 1 lawT):=by
 have e:=hfa.symm.trans (W.mg_of X G a51);cases e;have T:Tops mg:=⟨W.mg_none_of X G z_ValueError,W.mg_none_of X G z_all,W.mg_none_of X G z_any,W.mg_none_of X G z_bool,W.mg_none_of X G z_dict,W.mg_none_of X G z_int,W.mg_none_of X G z_isinstance,W.mg_none_of X G z_len,W.mg_none_of X G z_list,W.mg_none_of X G z_range,W.mg_none_of X G z_set,W.mg_none_of X G z_str,W.mg_none_of X G z_tuple,W.mg_none_of X G z_zip⟩;obtain⟨_,F1,m1⟩:=ye X G l1;obtain⟨_,F2,m2⟩:=ye X G l2;obtain⟨_,F3,m3⟩:=ye X G l3;obtain⟨_,F4,m4⟩:=ye X G l4;obtain⟨_,F5,m5⟩:=ye X G l5;obtain⟨_,F6,m6⟩:=ye X G l6;obtain⟨_,F7,m7⟩:=ye X G l7;obtain⟨_,F8,m8⟩:=ye X G l8;obtain⟨_,F9,m9⟩:=ye X G l9;obtain⟨_,F10,m10⟩:=ye X G l10;obtain⟨_,F11,m11⟩:=ye X G l11;obtain⟨_,F12,m12⟩:=ye X G l12;obtain⟨_,F13,m13⟩:=ye X G l13;obtain⟨_,F14,m14⟩:=ye X G l14;obtain⟨_,F15,m15⟩:=ye X G l15;obtain⟨_,F16,m16⟩:=ye X G l16;obtain⟨_,F17,m17⟩:=ye X G l17;obtain⟨_,F18,m18⟩:=ye X G l18;obtain⟨_,F19,m19⟩:=ye X G l19;obtain⟨_,F20,m20⟩:=ye X G l20;obtain⟨_,F21,m21⟩:=ye X G l21;obtain⟨_,F22,m22⟩:=ye X G l22;obtain⟨_,F23,m23⟩:=ye X G l23;obtain⟨_,F24,m24⟩:=ye X G l24;obtain⟨_,F25,m25⟩:=ye X G l25;obtain⟨_,F26,m26⟩:=ye X G l26;obtain⟨_,F27,m27⟩:=ye X G l27;obtain⟨_,F28,m28⟩:=ye X G l28;obtain⟨_,F29,m29⟩:=ye X G l29;obtain⟨_,F30,m30⟩:=ye X G l30;obtain⟨_,F31,m31⟩:=ye X G l31;obtain⟨_,F32,m32⟩:=ye X G l32;obtain⟨_,F33,m33⟩:=ye X G l33;obtain⟨_,F34,m34⟩:=ye X G l34;obtain⟨_,F35,m35⟩:=ye X G l35;obtain⟨_,F36,m36⟩:=ye X G l36;obtain⟨_,F37,m37⟩:=ye X G l37;obtain⟨_,F38,m38⟩:=ye X G l38;obtain⟨_,F39,m39⟩:=ye X G l39;obtain⟨_,F40,m40⟩:=ye X G l40;obtain⟨_,F41,m41⟩:=ye X G l41;obtain⟨_,F42,m42⟩:=ye X G l42;obtain⟨_,F43,m43⟩:=ye X G l43;obtain⟨_,F44,m44⟩:=ye X G l44;obtain⟨_,F45,m45⟩:=ye X G l45;obtain⟨_,F46,m46⟩:=ye X G l46;obtain⟨_,F47,m47⟩:=ye X G l47;obtain⟨_,F48,m48⟩:=ye X G l48;obtain⟨_,F49,m49⟩:=ye X G l49;obtain⟨_,F50,m50⟩:=ye X G l50;have F51:=Ft (st:=top 66) l51 c51 k51;refine⟨W.fnOf "law" "law" (se (top 66)) (wv (top 66)) (zd (top 66)) .none kV51 dc51 pm51 an51 cd51 ct51,λs v=>.of_eq rfl,λbase _ _=>?_⟩;have Z:Con2 l.prog w K mg:=⟨Re (ws:=j5) (W.mg_of X G bS) lS rfl rfl (by rw[sizeLine_eq];show(3:Nat)<=_;decide) (.cons ⟨_,rfl⟩ (.cons ⟨_,rfl⟩ (.cons ⟨_,rfl⟩ .nil))),Re (ws:=["nil","leaf"]) (W.mg_of X G bN) lN rfl rfl (by rw[sizeLine_eq];show(2:Nat)<=_;decide) (.cons ⟨_,rfl⟩ (.cons ⟨_,rfl⟩ .nil)),⟨.str _ tL,.str _,W.mg_of X G bL,⟨tL,rfl⟩,λ_ _=>rfl⟩,Mp [("nil",tf0,.ref a_b0),("cons",tf1,.ref a_b1),("leaf",tf2,.ref a_b2),("node",tf3,.ref a_b3),("add",tf4,.ref a_b4),("sub",tf5,.ref a_b5)] (W.mg_of X G bF) nF lF ⟨_,_,rfl,⟨.ref a_b0,rfl,ji lb0 rfl rfl (u7 [] lc0 rfl rfl (by show(0:Nat)<=100;decide) .nil)⟩,⟨_,_,rfl,⟨.ref a_b1,rfl,ji lb1 rfl rfl (u7 [("num" : Str),("list" : Str)] lc1 rfl rfl (by show(2:Nat)<=100;decide) (.cons ⟨_,rfl⟩ (.cons ⟨_,rfl⟩ .nil)))⟩,⟨_,_,rfl,⟨.ref a_b2,rfl,ji lb2 rfl rfl (u7 [] lc2 rfl rfl (by show(0:Nat)<=100;decide) .nil)⟩,⟨_,_,rfl,⟨.ref a_b3,rfl,ji lb3 rfl rfl (u7 [("tree" : Str),("num" : Str),("tree" : Str)] lc3 rfl rfl (by show(3:Nat)<=100;decide) (.cons ⟨_,rfl⟩ (.cons ⟨_,rfl⟩ (.cons ⟨_,rfl⟩ .nil))))⟩,⟨_,_,rfl,⟨.ref a_b4,rfl,ji lb4 rfl rfl (u7 [("num" : Str),("num" : Str)] lc4 rfl rfl (by show(2:Nat)<=100;decide) (.cons ⟨_,rfl⟩ (.cons ⟨_,rfl⟩ .nil)))⟩,⟨_,_,rfl,⟨.ref a_b5,rfl,ji lb5 rfl rfl (u7 [("num" : Str),("num" : Str)] lc5 rfl rfl (by show(2:Nat)<=100;decide) (.cons ⟨_,rfl⟩ (.cons ⟨_,rfl⟩ .nil)))⟩,rfl⟩⟩⟩⟩⟩⟩,Mp [("list",tg0,.ref a_d0),("tree",tg1,.ref a_d1)] (W.mg_of X G bB) nB lB ⟨_,_,rfl,⟨.ref a_d0,rfl,(u7 [("num" : Str),("list" : Str)] ld0 rfl rfl (by show(2:Nat)<=100;decide) (.cons ⟨_,rfl⟩ (.cons ⟨_,rfl⟩ .nil)))⟩,⟨_,_,rfl,⟨.ref a_d1,rfl,(u7 [("tree" : Str),("num" : Str),("tree" : Str)] ld1 rfl rfl (by show(3:Nat)<=100;decide) (.cons ⟨_,rfl⟩ (.cons ⟨_,rfl⟩ (.cons ⟨_,rfl⟩ .nil))))⟩,rfl⟩⟩⟩
 have hG:GC K mg "FIGURES" (.str "0123456789"):=⟨.str _ tG,.str _,W.mg_of X G bG,⟨tG,rfl⟩,λ_ _=>rfl⟩;have hBODIES:GT l.prog w K mg "BODIES" uf:=Mp [("give",ti00,.int 2 tj00),("let",ti01,.int 4 tj01),("less",ti02,.int 5 tj02),("list",ti03,.int 5 tj03),("tree",ti04,.int 5 tj04)] (W.mg_of X G bI0) nI0 lI0 ⟨_,_,rfl,⟨.int 2,⟨_,rfl⟩,rfl⟩,⟨_,_,rfl,⟨.int 4,⟨_,rfl⟩,rfl⟩,⟨_,_,rfl,⟨.int 5,⟨_,rfl⟩,rfl⟩,⟨_,_,rfl,⟨.int 5,⟨_,rfl⟩,rfl⟩,⟨_,_,rfl,⟨.int 5,⟨_,rfl⟩,rfl⟩,rfl⟩⟩⟩⟩⟩;have hBRACKETS:GT l.prog w K mg "BRACKETS" v8:=Mp [("cons",ti10,.int 3 tj10),("node",ti11,.int 4 tj11),("add",ti12,.int 3 tj12),("sub",ti13,.int 3 tj13)] (W.mg_of X G bI1) nI1 lI1 ⟨_,_,rfl,⟨.int 3,⟨_,rfl⟩,rfl⟩,⟨_,_,rfl,⟨.int 4,⟨_,rfl⟩,rfl⟩,⟨_,_,rfl,⟨.int 3,⟨_,rfl⟩,rfl⟩,⟨_,_,rfl,⟨.int 3,⟨_,rfl⟩,rfl⟩,rfl⟩⟩⟩⟩;have hBRINGS:GT l.prog w K mg "BRINGS" b7:=Mp [("list",ti20,.int 2 tj20),("tree",ti21,.int 3 tj21)] (W.mg_of X G bI2) nI2 lI2 ⟨_,_,rfl,⟨.int 2,⟨_,rfl⟩,rfl⟩,⟨_,_,rfl,⟨.int 3,⟨_,rfl⟩,rfl⟩,rfl⟩⟩;have z6j:=Ts (P:=l.prog) (w:=w) (base:=base) T  F1 m1;have z5p:=P1 (P:=l.prog) (w:=w) (base:=base) T Z F2 m2;have z6k:=Mz (P:=l.prog) (w:=w) (base:=base) T  F3 m3;have z6o:=Z3  T Z z6j F4 m4;have z7a:=Xh  T z6k z5p z6o F5 m5;have z7w:=je  T Z z6j F6 m6 F7 m7 F8 m8;have z7b:=Xk (M:=4)  T Z (z7w 4) z6k z5p F9 m9 F10 m10;have z7y:=Hr (M:=4) (n:=5)  T z7a z6k (z7b 5) F11 m11;have z7x:=Tc (P:=l.prog) (w:=w) (base:=base) T  F12 m12;have z8b:=L0 (P:=l.prog) (w:=w) (base:=base) T  F13 m13;have z5i:=X9 (P:=l.prog) (w:=w) (base:=base) T  F14 m14;have z5j:=Xa  T z5i F15 m15;have z5q:=P2  T z5i F16 m16;have z5d:=Vh  T z5p F17 m17;have z7c:=Xd  T z5j z5d F18 m18;have z5w:=Xb (P:=l.prog) (w:=w) (base:=base) T Z F19 m19;have z7n:=Vm (P:=l.prog) (w:=w) (base:=base) T Z hG F20 m20;have z5s:=Z0  T z7n F21 m21;have z7o:=Vg  T z5p z5s F22 m22;have z5x:=Rl  T hBODIES hBRACKETS hBRINGS z7o z5q z5d F23 m23 F24 m24;have z7d:=Xe  T z5q z5w z5s F25 m25;have z7e:=Xc  T z5j z5d z5w F26 m26;have z7p:=Rm  T hBODIES hBRACKETS hBRINGS z5q z5d z7c (z5x 4) F27 m27;have z6e:=g9  T z5q z5j z5i z7e z5d z7d (z7p 5) F28 m28;have z8d:=B2  T z7x z8b z6e z7y F29 m29;have z5m:=Vn (P:=l.prog) (w:=w) (base:=base) T  F30 m30;have z5y:=Rj  T z5m F31 m31 F32 m32;have z7q:=Rk  T z5m (z5y 4) F33 m33;have z6f:=h9  T z5m (z7q 5) F34 m34;have z8e:=B1  T z6f F35 m35;have z5n:=Z1 (P:=l.prog) (w:=w) (base:=base) T  F36 m36;have z5z:=Tj (P:=l.prog) (w:=w) (base:=base) T  F37 m37;have z6a:=Ti (P:=l.prog) (w:=w) (base:=base) T  F38 m38;have z5o:=Tp (P:=l.prog) (w:=w) (base:=base) T  F39 m39;have z7f:=Vj (P:=l.prog) (w:=w) (base:=base) T  F40 m40;have z7r:=L1  T z6a z7f z5o F41 m41;have z7s:=Tr  T z6a z5o (z7r 4) (z7r 3) F42 m42 F43 m43;have z7t:=To (P:=l.prog) (w:=w) (base:=base) T  F44 m44;have z7g:=Vl (P:=l.prog) (w:=w) (base:=base) T  F45 m45;have z6g:=cg  T z5z (z7s 5) z7g F46 m46;have z7h:=Vk  T z5n z5z z7t z6g F47 m47;have z7u:=Tl (P:=l.prog) (w:=w) (base:=base) T  F48 m48;have z6p:=Xg (P:=l.prog) (w:=w) (base:=base) T  F49 m49;have z6q:=Xf (P:=l.prog) (w:=w) (base:=base) T  F50 m50;exact z1d T z8d z7y z8e z5n z7h z5o z7u z6p z6q F51
end ZZ
open PySem PySem.W PyProof.Rows
set_option maxRecDepth 100000 in
set_option maxHeartbeats 0 in
theorem PySem.Challenge.cw_toll_k06_read_holds : PySem.Challenge.rw_toll_k06_read.Holds := by
 refine ZZ.opened ?_
 k_fill
 refine ZZ.walkD (l:=PySem.Challenge.rw_toll_k06_read) (k:=29) (x:="_law_script") rfl rfl ⟨rfl,by decide,by decide⟩ (λw h Y=>PySem.W.kIn_of Y) ?F
 case F =>
  intro w mg fa h KX G hmg
  refine' ZZ.all_mk KX G hmg ?l1 ?l2 ?l3 ?l4 ?l5 ?l6 ?l7 ?l8 ?l9 ?l10 ?l11 ?l12 ?l13 ?l14 ?l15 ?l16 ?l17 ?l18 ?l19 ?l20 ?l21 ?l22 ?l23 ?l24 ?l25 ?l26 ?l27 ?l28 ?l29 ?l30 ?l31 ?l32 ?l33 ?l34 ?l35 ?l36 ?l37 ?l38 ?l39 ?l40 ?l41 ?l42 ?l43 ?l44 ?l45 ?l46 ?l47 ?l48 ?l49 ?l50 ?a51 ?l51 ?c51 ?k51 ?bL ?bG ?bS ?lS ?bN ?lN ?bF ?lF ?lb0 ?lc0 ?lb1 ?lc1 ?lb2 ?lc2 ?lb3 ?lc3 ?lb4 ?lc4 ?lb5 ?lc5 ?bB ?lB ?ld0 ?ld1 ?bI0 ?lI0 ?bI1 ?lI1 ?bI2 ?lI2 ?nF ?nB ?nI0 ?nI1 ?nI2 ?z_ValueError ?z_all ?z_any ?z_bool ?z_dict ?z_int ?z_isinstance ?z_len ?z_list ?z_range ?z_set ?z_str ?z_tuple ?z_zip
  case a51 | z_ValueError | z_all | z_any | z_bool | z_dict | z_int | z_isinstance | z_len | z_list | z_range | z_set | z_str | z_tuple | z_zip=>show _=_; k_is
  case l1 | l2 | l3 | l4 | l5 | l6 | l7 | l8 | l9 | l10 | l11 | l12 | l13 | l14 | l15 | l16 | l17 | l18 | l19 | l20 | l21 | l22 | l23 | l24 | l25 | l26 | l27 | l28 | l29 | l30 | l31 | l32 | l33 | l34 | l35 | l36 | l37 | l38 | l39 | l40 | l41 | l42 | l43 | l44 | l45 | l46 | l47 | l48 | l49 | l50 =>
   refine' ZZ.fna_mk ?aA ?lA ?cA ?kA
   case aA=>k_is
   case lA=>k_is
   case cA=>k_is
   case kA=>k_is
  case l51 | c51 | k51 | bL | bG | bS | lS | bN | lN | bF | lF | lb0 | lc0 | lb1 | lc1 | lb2 | lc2 | lb3 | lc3 | lb4 | lc4 | lb5 | lc5 | bB | lB | ld0 | ld1 | bI0 | lI0 | bI1 | lI1 | bI2 | lI2=>k_is
  case nF | nB | nI0 | nI1 | nI2=>rfl
