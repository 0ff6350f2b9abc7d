import PyProof.Rows.All
import Wide.All
import OpenK.KSplit
import OpenK.KApp
import KE.RegKMod
import KE.KJoinElse
import KE.KTops
import KE.RegKSuper
import KE.RegLcAnyAll
import KE.KCells
import KE.KPassesOwn
import KE.KNestStore
import KE.KStopIter
import KE.RegKBase
import KE.KDictOne
import KE.KxDecode
import KE.RegKMathGB
import KE.KNestM
import KE.KDflt
import KE.KOwnIterCall
import KE.KSortedM
import KE.KxLen
import KE.RegKMathGC
import KE.KIsClose
import KE.KDisp
import KE.KSetIn
import KE.KRevSl
import KE.KEqDeep
import KE.KAnyBase
import KE.KWhile
import KE.KRevIter
import KE.KTreeR
import KE.KxStill
import KE.KFinally
import KE.KTopLam
import KE.KWithOwn
import KE.KOpsOwn
import KE.KDictNew
import KE.KWhileD
import KE.KSumEnd
import KE.KPopAny
import KE.KGrown
import KE.KItemAt
import KE.KTextLit
import KE.KTupDict
import KE.KFmtOwn
import KE.KMinKey
import KE.KExtendNil
import KE.KMethU
import KE.KDictAnyTail
import KE.RegKStar
import KE.RegKTupTruth
import KE.RegKTupSum
import KE.KMethJoin
import KE.KPathRangeEnd
import KE.RegKParC
import KE.KxAffix
import KE.KxField
import KE.RegKMatchCls
import KE.KLcPair
import KE.KJoinL
import KE.RegKNeg
import KE.KxPercentT
import KE.KBytesCut
import KE.KCompIf
import KE.KxFormat
import KE.KTypeName
import KE.KCompText
import KE.BytesMulAny
import KE.KSortTup
import KE.KPairAssign
import KE.KTypeOf
import KE.KMulAny
import KE.KBytesMenu
import KE.KTextDict
import KE.KPathShort
import KE.KSplitRange
import KE.KKinds
import KE.KxPart
import KE.KRangeItem
import KE.KRangeNest
import KE.KSetAt
import KE.KxTruthy
import KE.KPairRows
import KE.KBytesMore
import KE.KRangePlain
import KE.KBitsMul
import KE.KTextTable
import KE.KForList
import KE.KIdxIf
import KE.KAssignIn
import KE.KFirstTurn
import KE.KOwnRange
import KE.KLooksOwn
import KE.KDictWord
import KE.KTurnsGround
import KE.KFinFacts
import KE.RegKTryOn
import KE.KCenter
import KE.KStrWords
import KE.KStateTextK
import KE.KStateWGiven
import KE.KCallTup
import KE.KTreeF
import KE.KEndWord
import KE.KStateBytes
import KE.KRangeEnd
import KE.KOf
import KE.KRepItem
import KE.KListLetter
import KE.KSliceSign
import KE.KToBytes
import KE.KPathText
import KE.KMinBuiltin
import KE.KFromBytes
import KE.KEqDat
import KE.KBytesUnr
import KE.KIsBytes
import KE.KCallRec
import KE.KEndW
import KE.RegLGeC
import Wide.FinOn
import PySem.Challenge.RW_toll_k37_sizes_put_on
noncomputable section
set_option Elab.async false
set_option linter.all false
def zaa:=@PySem.wpAny_bind
def zab:=@PySem.wpAny_pure
def zac:=@PySem.Heap.get?_push_of_some
def zad:=@PySem.Heap.get?_push_size
def zae:=@PySem.Heap.lt_size
def zaf:=@List.getElem?_eq_getElem
def zag:=@List.getElem?_eq_some_iff
def zah:=@List.mem_map
def zai:=@List.getElem?_map
def zaj:=@Nat.le_refl
def zak:=@Nat.le_trans
def zal:=@List.mem_cons_of_mem
def zam:=@List.mem_cons
def zan:=@List.mem_of_getElem?
def zao:=@List.mem_cons_self
def zap:=@List.size_toArray
def zaq:=@List.getD_eq_getElem?_getD
def zar:=@Option.map_eq_some_iff
def zas:=@List.mem_append
set_option maxRecDepth 100000
set_option maxHeartbeats 8000000
set_option exponentiation.threshold 5000
set_option compiler.extract_closed false
set_option bootstrap.genMatcherCode false
def zLa.{u} {α:Type u} {a b:List α}:(a++b).length=a.length+b.length:=List.length_append
def zLc.{u} {α:Type u} {x:α} {a:List α}:(x::a).length=a.length+1:=rfl
def zLn.{u} {α:Type u}:([]:List α).length=0:=rfl
def zLm.{u,v} {α:Type u} {β:Type v} {as:List α} (f:α->β):(as.map f).length=as.length:=List.length_map f
def zMa.{u,v} {α:Type u} {β:Type v} {f:α->β} {l₁ l₂:List α}:(l₁++l₂).map f=l₁.map f++l₂.map f:=List.map_append
namespace L2
open PySem PySem.Spec PyProof.Rows
def zv (s:Stmt):Arguments:=match s with
 | .FunctionDef _ a _ _ _ _ _ _ _ _=>a
 | _=>{ posonlyargs:=[],args:=[],vararg:=none,kwonlyargs:=[],kw_defaults:=[],kwarg:=none,defaults:=[] }
def zp (s:Stmt):List Stmt:=match s with
 | .FunctionDef _ _ b _ _ _ _ _ _ _=>b
 | _=>[]
def za (s:Stmt):Scope:=match s with
 | .FunctionDef _ _ _ _ _ _ sc _ _ _=>sc
 | _=>{ kind:=.function,names:=[],isGenerator:=false,isCoroutine:=false }
end L2
namespace K37
open PySem PySem.Spec L2
open PyProof.Rows hiding St
def top (i:Nat):Stmt:=PySem.Challenge.pw_toll_k37_sizes_put_on.main.body.getD i (.Pass ⟨0,0,0,0⟩)
section
open PySem.W PySem.PyData
def zE (P:Params) (s:Str) (t:Nat) (v:Value):DictEntry:=⟨keyHash P s,.str s t,v⟩
def zF (n:Str) (s:Stmt) (m:Str) (i k:Nat):Obj:=⟨.type "function", none,.func (fnOf n n (zv s) (zp s) (za s) .none .none .none (.str m i) none (.ref k) .none),#[]⟩
def zC (n:Str) (a:Nat) (q:Str) (b c:Nat) (d e f:Int) (g:Nat) (h:Int) (i j k l:Nat) (m o:Int) (p:Nat):Obj:=⟨.type "code", none,.fields #[.str n a,.str q b,.str "/claim/cut.py" c,.int d 0,.int e 0,.int 0 0,.int 0 0,.int f 0,.ref g,.bool true,.int h 0,.ref i,.none,.ref j,.ref k,.ref l,.int m 0,.int o 0,.str "/claim/cut.py" p],#[]⟩
def zKK (P:Params):Frag:=(nat_lit 2,⟨.none,none,(.dict #[] 0),#[]⟩)::
(nat_lit 3,⟨(.type "dict"),none,(.dict #[zE P "__name__" 165 (.str "law_toll_k37_sizes_put_on" 370),zE P "__doc__" 166 .none,zE P "__package__" 167 .none,zE P "__loader__" 168 (.builtin "__main__.__loader__#opaque"),zE P "__spec__" 169 .none,zE P "__annotations__" 170 (.ref 6),zE P "__builtins__" 171 (.ref 4),zE P "__file__" 173 (.str "/claim/cut.py" 172),zE P "__cached__" 174 .none,zE P "TollError" 206 (.ref 24),zE P "NoRatio" 222 (.ref 37),zE P "is_whole" 231 (.ref 46),zE P "ratio" 242 (.ref 53),zE P "common" 251 (.ref 60),zE P "plus" 259 (.ref 67),zE P "times" 267 (.ref 74),zE P "choices" 279 (.ref 81),zE P "gathered" 285 (.ref 86),zE P "laid" 291 (.ref 91),zE P "product_at" 303 (.ref 98),zE P "spreads_of" 309 (.ref 103),zE P "spread_of" 315 (.ref 108),zE P "without_noughts" 321 (.ref 113),zE P "heaps_of" 327 (.ref 118),zE P "taken_of_both" 333 (.ref 123),zE P "grown" 339 (.ref 128),zE P "count_in" 348 (.ref 135),zE P "multiplied" 363 (.ref 142),zE P "meetings" 369 (.ref 147),zE P "_law_cell_at" 379 (.ref 154),zE P "_law_whole" 386 (.ref 161),zE P "_law_divisor" 394 (.ref 168),zE P "_law_lowest" 403 (.ref 175),zE P "_law_ratio" 413 (.ref 182),zE P "_law_powers" 424 (.ref 189),zE P "_law_sum" 430 (.ref 194),zE P "_law_ways" 440 (.ref 201),zE P "_law_put" 456 (.ref 208),zE P "_law_due" 462 (.ref 213),zE P "_law_alike" 468 (.ref 218),zE P "_law_spots" 474 (.ref 223),zE P "law" 480 (.ref 228)] 42),#[]⟩)::
(nat_lit 15,⟨(.type "tuple"),none,(.seq #[(.type "ValueError")] 0),#[]⟩)::
(nat_lit 22,⟨(.type "tuple"),none,(.seq #[] 0),#[]⟩)::
(nat_lit 23,⟨(.type "dict"),none,(.dict #[zE P "__module__" 196 (.str "toll.errors" 187),zE P "__firstlineno__" 200 (.int 2 199),zE P "__static_attributes__" 201 (.ref 22),zE P "__weakref__" 203 (.ref 25),zE P "__doc__" 204 .none] 3),#[]⟩)::
(nat_lit 24,⟨(.type "type"),none,(.cls ⟨"TollError",[(.type "ValueError")],[(.ref 24),(.type "ValueError"),(.type "Exception"),(.type "BaseException"),(.type "object")],23,"TollError",true,[],[(.ref 37)],false,none,false⟩),#[(some (.ref 15)),none,(some (.str "TollError" 189)),(some (.str "TollError" 197)),(some (.builtin "ValueError.__new__")),(some (.bool true))]⟩)::
(nat_lit 25,⟨(.type "getset_descriptor"),none,(.fields #[(.str "__weakref__" 202),(.ref 24),(.builtin "ExceptionGroup.__weakref__"),.none]),#[]⟩)::
(nat_lit 28,⟨(.type "tuple"),none,(.seq #[(.ref 24)] 0),#[]⟩)::
(nat_lit 35,⟨(.type "tuple"),none,(.seq #[] 0),#[]⟩)::
(nat_lit 36,⟨(.type "dict"),none,(.dict #[zE P "__module__" 214 (.str "toll.errors" 187),zE P "__firstlineno__" 218 (.int 4 217),zE P "__static_attributes__" 219 (.ref 35),zE P "__doc__" 220 .none] 2),#[]⟩)::
(nat_lit 37,⟨(.type "type"),none,(.cls ⟨"NoRatio",[(.ref 24)],[(.ref 37),(.ref 24),(.type "ValueError"),(.type "Exception"),(.type "BaseException"),(.type "object")],36,"NoRatio",true,[],[],false,none,false⟩),#[(some (.ref 28)),none,(some (.str "NoRatio" 207)),(some (.str "NoRatio" 215)),(some (.builtin "ValueError.__new__")),(some (.bool true))]⟩)::
(nat_lit 45,zC "is_whole" 225 "is_whole" 226 227 7 1 3 40 181 41 42 43 44 229 7 230)::
(nat_lit 46,zF "is_whole" (top 4) "toll.programs" 223 45)::
(nat_lit 52,zC "ratio" 234 "ratio" 235 236 10 2 3 47 181 48 49 50 51 240 10 241)::
(nat_lit 53,zF "ratio" (top 6) "toll.ratios" 232 52)::
(nat_lit 59,zC "common" 243 "common" 244 245 19 2 3 54 181 55 56 57 58 249 19 250)::
(nat_lit 60,zF "common" (top 7) "toll.ratios" 232 59)::
(nat_lit 66,zC "plus" 252 "plus" 253 254 25 2 3 61 181 62 63 64 65 257 25 258)::
(nat_lit 67,zF "plus" (top 8) "toll.ratios" 232 66)::
(nat_lit 73,zC "times" 260 "times" 261 262 27 2 3 68 181 69 70 71 72 265 27 266)::
(nat_lit 74,zF "times" (top 9) "toll.ratios" 232 73)::
(nat_lit 80,zC "choices" 270 "choices" 271 272 30 2 3 75 181 76 77 78 79 277 30 278)::
(nat_lit 81,zF "choices" (top 11) "toll.sums" 268 80)::
(nat_lit 85,⟨(.type "code"),none,(.fields #[(.str "gathered" 280),(.str "gathered" 281),(.str "/claim/cut.py" 282),(.int 35 0),(.int 1 0),(.int 0 0),(.int 0 0),(.int 3 0),(.ref 82),(.bool true),(.int 181 0),(.ref 83),.none,.none,.none,(.ref 84),(.int 283 0),(.int 35 0),(.str "/claim/cut.py" 284)]),#[]⟩)::
(nat_lit 86,zF "gathered" (top 12) "toll.sums" 268 85)::
(nat_lit 90,⟨(.type "code"),none,(.fields #[(.str "laid" 286),(.str "laid" 287),(.str "/claim/cut.py" 288),(.int 40 0),(.int 3 0),(.int 0 0),(.int 0 0),(.int 3 0),(.ref 87),(.bool true),(.int 181 0),(.ref 88),.none,.none,.none,(.ref 89),(.int 289 0),(.int 40 0),(.str "/claim/cut.py" 290)]),#[]⟩)::
(nat_lit 91,zF "laid" (top 13) "toll.sums" 268 90)::
(nat_lit 97,zC "product_at" 292 "product_at" 293 294 48 3 3 92 181 93 94 95 96 301 48 302)::
(nat_lit 98,zF "product_at" (top 14) "toll.sums" 268 97)::
(nat_lit 102,⟨(.type "code"),none,(.fields #[(.str "spreads_of" 304),(.str "spreads_of" 305),(.str "/claim/cut.py" 306),(.int 54 0),(.int 3 0),(.int 0 0),(.int 0 0),(.int 3 0),(.ref 99),(.bool true),(.int 181 0),(.ref 100),.none,.none,.none,(.ref 101),(.int 307 0),(.int 54 0),(.str "/claim/cut.py" 308)]),#[]⟩)::
(nat_lit 103,zF "spreads_of" (top 15) "toll.sums" 268 102)::
(nat_lit 107,⟨(.type "code"),none,(.fields #[(.str "spread_of" 310),(.str "spread_of" 311),(.str "/claim/cut.py" 312),(.int 56 0),(.int 3 0),(.int 0 0),(.int 0 0),(.int 3 0),(.ref 104),(.bool true),(.int 181 0),(.ref 105),.none,.none,.none,(.ref 106),(.int 313 0),(.int 56 0),(.str "/claim/cut.py" 314)]),#[]⟩)::
(nat_lit 108,zF "spread_of" (top 16) "toll.sums" 268 107)::
(nat_lit 112,⟨(.type "code"),none,(.fields #[(.str "without_noughts" 316),(.str "without_noughts" 317),(.str "/claim/cut.py" 318),(.int 62 0),(.int 1 0),(.int 0 0),(.int 0 0),(.int 3 0),(.ref 109),(.bool true),(.int 181 0),(.ref 110),.none,.none,.none,(.ref 111),(.int 319 0),(.int 62 0),(.str "/claim/cut.py" 320)]),#[]⟩)::
(nat_lit 113,zF "without_noughts" (top 17) "toll.sums" 268 112)::
(nat_lit 117,⟨(.type "code"),none,(.fields #[(.str "heaps_of" 322),(.str "heaps_of" 323),(.str "/claim/cut.py" 324),(.int 64 0),(.int 2 0),(.int 0 0),(.int 0 0),(.int 3 0),(.ref 114),(.bool true),(.int 181 0),(.ref 115),.none,.none,.none,(.ref 116),(.int 325 0),(.int 64 0),(.str "/claim/cut.py" 326)]),#[]⟩)::
(nat_lit 118,zF "heaps_of" (top 18) "toll.sums" 268 117)::
(nat_lit 122,⟨(.type "code"),none,(.fields #[(.str "taken_of_both" 328),(.str "taken_of_both" 329),(.str "/claim/cut.py" 330),(.int 70 0),(.int 3 0),(.int 0 0),(.int 0 0),(.int 3 0),(.ref 119),(.bool true),(.int 181 0),(.ref 120),.none,.none,.none,(.ref 121),(.int 331 0),(.int 70 0),(.str "/claim/cut.py" 332)]),#[]⟩)::
(nat_lit 123,zF "taken_of_both" (top 19) "toll.sums" 268 122)::
(nat_lit 127,⟨(.type "code"),none,(.fields #[(.str "grown" 334),(.str "grown" 335),(.str "/claim/cut.py" 336),(.int 72 0),(.int 3 0),(.int 0 0),(.int 0 0),(.int 3 0),(.ref 124),(.bool true),(.int 181 0),(.ref 125),.none,.none,.none,(.ref 126),(.int 337 0),(.int 72 0),(.str "/claim/cut.py" 338)]),#[]⟩)::
(nat_lit 128,zF "grown" (top 20) "toll.sums" 268 127)::
(nat_lit 134,zC "count_in" 340 "count_in" 341 342 81 3 3 129 181 130 131 132 133 346 81 347)::
(nat_lit 135,zF "count_in" (top 21) "toll.sums" 268 134)::
(nat_lit 141,zC "multiplied" 349 "multiplied" 350 351 84 2 3 136 181 137 138 139 140 361 84 362)::
(nat_lit 142,zF "multiplied" (top 22) "toll.sums" 268 141)::
(nat_lit 146,⟨(.type "code"),none,(.fields #[(.str "meetings" 364),(.str "meetings" 365),(.str "/claim/cut.py" 366),(.int 91 0),(.int 2 0),(.int 0 0),(.int 0 0),(.int 3 0),(.ref 143),(.bool true),(.int 181 0),(.ref 144),.none,.none,.none,(.ref 145),(.int 367 0),(.int 91 0),(.str "/claim/cut.py" 368)]),#[]⟩)::
(nat_lit 147,zF "meetings" (top 23) "toll.sums" 268 146)::
(nat_lit 153,zC "_law_cell_at" 372 "_law_cell_at" 373 374 101 2 3 148 181 149 150 151 152 377 101 378)::
(nat_lit 154,zF "_law_cell_at" (top 25) "law_toll_k37_sizes_put_on" 370 153)::
(nat_lit 160,zC "_law_whole" 380 "_law_whole" 381 382 105 1 3 155 181 156 157 158 159 384 105 385)::
(nat_lit 161,zF "_law_whole" (top 26) "law_toll_k37_sizes_put_on" 370 160)::
(nat_lit 167,zC "_law_divisor" 387 "_law_divisor" 388 389 107 2 3 162 181 163 164 165 166 392 107 393)::
(nat_lit 168,zF "_law_divisor" (top 27) "law_toll_k37_sizes_put_on" 370 167)::
(nat_lit 174,zC "_law_lowest" 395 "_law_lowest" 396 397 113 2 3 169 181 170 171 172 173 401 113 402)::
(nat_lit 175,zF "_law_lowest" (top 28) "law_toll_k37_sizes_put_on" 370 174)::
(nat_lit 181,zC "_law_ratio" 404 "_law_ratio" 405 406 116 1 3 176 181 177 178 179 180 411 116 412)::
(nat_lit 182,zF "_law_ratio" (top 29) "law_toll_k37_sizes_put_on" 370 181)::
(nat_lit 188,zC "_law_powers" 414 "_law_powers" 415 416 121 2 3 183 181 184 185 186 187 422 121 423)::
(nat_lit 189,zF "_law_powers" (top 30) "law_toll_k37_sizes_put_on" 370 188)::
(nat_lit 193,⟨(.type "code"),none,(.fields #[(.str "_law_sum" 425),(.str "_law_sum" 426),(.str "/claim/cut.py" 427),(.int 129 0),(.int 2 0),(.int 0 0),(.int 0 0),(.int 3 0),(.ref 190),(.bool true),(.int 181 0),(.ref 191),.none,.none,.none,(.ref 192),(.int 428 0),(.int 129 0),(.str "/claim/cut.py" 429)]),#[]⟩)::
(nat_lit 194,zF "_law_sum" (top 31) "law_toll_k37_sizes_put_on" 370 193)::
(nat_lit 200,zC "_law_ways" 431 "_law_ways" 432 433 137 2 3 195 181 196 197 198 199 438 137 439)::
(nat_lit 201,zF "_law_ways" (top 32) "law_toll_k37_sizes_put_on" 370 200)::
(nat_lit 207,zC "_law_put" 441 "_law_put" 442 443 142 4 3 202 181 203 204 205 206 454 142 455)::
(nat_lit 208,zF "_law_put" (top 33) "law_toll_k37_sizes_put_on" 370 207)::
(nat_lit 212,⟨(.type "code"),none,(.fields #[(.str "_law_due" 457),(.str "_law_due" 458),(.str "/claim/cut.py" 459),(.int 153 0),(.int 5 0),(.int 0 0),(.int 0 0),(.int 3 0),(.ref 209),(.bool true),(.int 181 0),(.ref 210),.none,.none,.none,(.ref 211),(.int 460 0),(.int 153 0),(.str "/claim/cut.py" 461)]),#[]⟩)::
(nat_lit 213,zF "_law_due" (top 34) "law_toll_k37_sizes_put_on" 370 212)::
(nat_lit 217,⟨(.type "code"),none,(.fields #[(.str "_law_alike" 463),(.str "_law_alike" 464),(.str "/claim/cut.py" 465),(.int 164 0),(.int 2 0),(.int 0 0),(.int 0 0),(.int 3 0),(.ref 214),(.bool true),(.int 181 0),(.ref 215),.none,.none,.none,(.ref 216),(.int 466 0),(.int 164 0),(.str "/claim/cut.py" 467)]),#[]⟩)::
(nat_lit 218,zF "_law_alike" (top 35) "law_toll_k37_sizes_put_on" 370 217)::
(nat_lit 222,⟨(.type "code"),none,(.fields #[(.str "_law_spots" 469),(.str "_law_spots" 470),(.str "/claim/cut.py" 471),(.int 173 0),(.int 3 0),(.int 0 0),(.int 0 0),(.int 3 0),(.ref 219),(.bool true),(.int 181 0),(.ref 220),.none,.none,.none,(.ref 221),(.int 472 0),(.int 173 0),(.str "/claim/cut.py" 473)]),#[]⟩)::
(nat_lit 223,zF "_law_spots" (top 36) "law_toll_k37_sizes_put_on" 370 222)::
(nat_lit 227,⟨(.type "code"),none,(.fields #[(.str "law" 475),(.str "law" 476),(.str "/claim/cut.py" 477),(.int 180 0),(.int 1 0),(.int 0 0),(.int 0 0),(.int 3 0),(.ref 224),(.bool true),(.int 181 0),(.ref 225),.none,.none,.none,(.ref 226),(.int 478 0),(.int 180 0),(.str "/claim/cut.py" 479)]),#[]⟩)::
(nat_lit 228,zF "law" (top 37) "law_toll_k37_sizes_put_on" 370 227)::[]
def zA:List Addr:=2::3::15::22::23::24::25::28::35::36::37::45::46::52::53::59::60::66::67::73::74::80::81::85::86::90::91::97::98::102::103::107::108::112::113::117::118::122::123::127::128::134::135::141::142::146::147::153::154::160::161::167::168::174::175::181::182::188::189::193::194::200::201::207::208::212::213::217::218::222::223::227::228::[]
def zAK (P:Params):zA=(zKK P).map (·.1):=by kernel_rfl
def zq:Program:={ PySem.Challenge.pw_toll_k37_sizes_put_on with main:={ PySem.Challenge.pw_toll_k37_sizes_put_on.main with body:=[1,2,4,6,7,8,9,11,12,13,14,15,16,17,18,19,20,21,22,23,25,26,27,28,29,30,31,32,33,34,35,36,37].filterMap λi=>PySem.Challenge.pw_toll_k37_sizes_put_on.main.body[i]? } }
abbrev zX (s:Shared):Bool:=xlAt zq [] s && recOk (RowW.records PySem.Challenge.rw_toll_k37_sizes_put_on.row.toRowW) s
abbrev zP (w:World):Prop:=Option.map (λs=>(Fast.tw4187177175401517315 zq [] (Fast.tw5923862056798008813 PySem.Challenge.pw_toll_k37_sizes_put_on.main.body) zX true s,zA.map s.heap.get?)) (openEnds Fast.tw14364793385576792824 PySem.Challenge.pw_toll_k37_sizes_put_on w 2822)=some (openGood zq [],(zKK w.params).map λp=>some p.2)
def hl0 (w:World):zP w:=by delta zP openEnds topFrom; rw [Fast.te14082659384304107361]; kernel_rfl
end
end K37
namespace L2
open PySem PySem.Spec PyProof.Rows
abbrev Key:=Sum Int Str
def Vj:Key->Value->Bool
 | .inl k,v=>Value.isInt k v
 | .inr x,v=>Value.isStrOf x v
def keyH (w:World):Key->Int
 | .inl k=>hashInt k
 | .inr x=>hashStr w x
def yg:∀ {k:Key} {v:Value},Vj k v=true->(∃ i t,k=Sum.inl i /\ v=Value.int i t) \/ (∃ x t,k=Sum.inr x /\ v=Value.str x t)
 | .inl i,v,h=>by
  obtain ⟨t,e⟩:=Value.isInt_shape (k:=i) (v:=v) h
  exact .inl ⟨i,t,rfl,e⟩
 | .inr x,v,h=>by
  obtain ⟨t,e⟩:=Value.isStrOf_shape (x:=x) (v:=v) h
  exact .inr ⟨x,t,rfl,e⟩
def Sr (i:Int) (t:Tok):Vj (.inl i) (.int i t)=true:=by simp [Vj,Value.isInt]
def Sq (x:Str) (t:Tok):Vj (.inr x) (.str x t)=true:=by simp [Vj,Value.isStrOf]
def Fz (a b:Int):decide ((Sum.inl a:Key)=Sum.inl b)=(a == b):=by
 by_cases e:a=b
 ·subst e; simp
 ·have h:¬ (Sum.inl a:Key)=Sum.inl b:=λq=>e (Sum.inl.inj q)
  rw [decide_eq_false h]
  exact (beq_eq_false_iff_ne.mpr e).symm
def Fw (a b:Str):decide ((Sum.inr a:Key)=Sum.inr b)=decide (a=b):=by
 by_cases e:a=b
 ·subst e; simp
 ·have h:¬ (Sum.inr a:Key)=Sum.inr b:=λq=>e (Sum.inr.inj q)
  rw [decide_eq_false h,decide_eq_false e]
def Fy (a:Int) (b:Str):decide ((Sum.inl a:Key)=Sum.inr b)=false:=decide_eq_false (λq=>nomatch q)
def Fx (a:Str) (b:Int):decide ((Sum.inr a:Key)=Sum.inl b)=false:=decide_eq_false (λq=>nomatch q)
def y9 (prog:Program) (w:World):PySem.KeyKind prog w Key where
 is:=Vj
 hash:=keyH w
 inj:=λv a b ha hb=>by
  rcases yg ha with ⟨i,t,rfl,rfl⟩ | ⟨x,t,rfl,rfl⟩
  ·rcases yg hb with ⟨j,u,rfl,e⟩ | ⟨y,u,rfl,e⟩
   ·injection e with e1 _; rw [e1]
   ·exact nomatch e
  ·rcases yg hb with ⟨j,u,rfl,e⟩ | ⟨y,u,rfl,e⟩
   ·exact nomatch e
   ·injection e with e1 _; rw [e1]
 byValue:=λk v h=>by
  rcases yg h with ⟨i,t,rfl,rfl⟩ | ⟨x,t,rfl,rfl⟩ <;> rfl
 pyHash:=λhv h=>by
  rcases yg hv with ⟨i,t,rfl,rfl⟩ | ⟨x,t,rfl,rfl⟩
  ·exact wpAny_pyHash_int h
  ·exact wpAny_pyHash_str h
 eqBool:=λhu hv h=>by
  rcases yg hu with ⟨i,t,rfl,rfl⟩ | ⟨x,t,rfl,rfl⟩
  ·rcases yg hv with ⟨j,u,rfl,rfl⟩ | ⟨y,u,rfl,rfl⟩
   ·rw [Fz] at h; exact wpAny_eqBool_int h
   ·rw [Fy] at h; exact SeqAt.EqAt.int_str i t y u _ _ _ _ h
  ·rcases yg hv with ⟨j,u,rfl,rfl⟩ | ⟨y,u,rfl,rfl⟩
   ·rw [Fx] at h; exact SeqAt.EqAt.str_int x t j u _ _ _ _ h
   ·rw [Fw] at h; exact wpAny_eqBool_str h
 «strs»:=λk x t v h=>by
  rcases yg h with ⟨i,u,rfl,e⟩ | ⟨y,u,rfl,e⟩
  ·exact nomatch e
  ·injection e with e1 _
   subst e1
   cases v <;> rfl
def Yj (prog:Program) (w:World) (i:Int) (t:Tok):(y9 prog w).is (.inl i) (.int i t)=true:=Sr i t
def Yi (prog:Program) (w:World) (x:Str) (t:Tok):(y9 prog w).is (.inr x) (.str x t)=true:=Sq x t
inductive V where
 | non | bl (b:Bool) | int (i:Int) | str (x:Str) | byt (b:Array UInt8) | flt (b:UInt64) | ref (a:Addr) | ty (n:String)
 deriving DecidableEq
def RelV:V->Value->Prop
 | .non,u=>u=Value.none
 | .bl b,u=>u=Value.bool b
 | .int i,u=>∃ t,u=Value.int i t
 | .str x,u=>∃ t,u=Value.str x t
 | .byt b,u=>∃ t,u=Value.bytes b t
 | .flt b,u=>∃ t,u=Value.float b t
 | .ref a,u=>u=Value.ref a
 | .ty n,u=>u=Value.type n
abbrev Vals:List V->List Value->Prop:=Paired RelV
def Vals.length {xs:List V} {us:List Value} (r:Vals xs us):xs.length=us.length:=Paired.length r
def Vals.get:∀ {xs:List V} {us:List Value} {i:Nat} {x:V},Vals xs us->xs[i]?=some x->∃ u,us[i]?=some u /\ RelV x u
 | _,_,_,_,.nil,e=>by simp at e
 | _,_,0,_,.cons r _,e=>by simp at e; subst e; exact ⟨_,rfl,r⟩
 | _,_,i + 1,x,.cons _ t,e=>by
  obtain ⟨u,h1,h2⟩:=Vals.get (i:=i) (x:=x) t (by simpa using e)
  exact ⟨u,by simpa using h1,h2⟩
def Vals.set {x:V} {u:Value} (r:RelV x u):∀ {xs:List V} {us:List Value} (i:Nat),Vals xs us->Vals (xs.set i x) (us.set i u)
 | _,_,_,.nil=>.nil
 | _,_,0,.cons _ t=>.cons r t
 | _,_,i + 1,.cons q t=>.cons q (Vals.set r i t)
def Vals.append:∀ {xs ys:List V} {us ws:List Value},Vals xs us->Vals ys ws->Vals (xs ++ ys) (us ++ ws)
 | _,_,_,_,.nil,s=>s
 | _,_,_,_,.cons r t,s=>.cons r (Vals.append t s)
def Vals.take:∀ {xs:List V} {us:List Value} (n:Nat),Vals xs us->Vals (xs.take n) (us.take n)
 | _,_,0,_=>.nil
 | _,_,_ + 1,.nil=>.nil
 | _,_,n + 1,.cons r t=>.cons r (Vals.take n t)
def Vals.drop:∀ {xs:List V} {us:List Value} (n:Nat),Vals xs us->Vals (xs.drop n) (us.drop n)
 | _,_,0,r=>r
 | _,_,_ + 1,.nil=>.nil
 | _,_,n + 1,.cons _ t=>Vals.drop n t
def Vals.none_of:∀ {xs:List V} {us:List Value} {i:Nat},Vals xs us->xs[i]?=none->us[i]?=none:=λ{xs us i} r e=>by
 have h1:=r.length
 have h2:xs.length <= i:=List.getElem?_eq_none_iff.mp e
 exact List.getElem?_eq_none_iff.mpr (by omega)
def RelO:Option V->Option Value->Prop
 | some v,some u=>RelV v u
 | none,none=>True
 | _,_=>False
def KV {κ:Type}:List (κ × V)->List (κ × Value)->Prop:=Paired λ(p:κ × V) (q:κ × Value)=>p.1=q.1 /\ RelV p.2 q.2
def kV:Key->V
 | .inl i=>.int i
 | .inr x=>.str x
inductive HO where
  | lst (xs:List V)
  | tup (xs:List V)
  | dK (kvs:List (Key × V)) | dT (kvs:List (List Key × V))
  | set (S:Int->Bool) (n:Nat)
  | ins (C dx:Addr) (fs:List (Str × V))
  | own (x:Addr)
  | xd (fs:List (Str × V))
  | met (f x:Addr)
  | rng (lo hi:Int)
  | frz (o:Obj) (u:HO)
  | tbl (ps:Array Value)
  | ext (φ:Heap->Prop)
abbrev Hp:=Addr->Option HO
def upd (H:Hp) (a:Addr) (o:HO):Hp:=λb=>if b=a then some o else H b
def zh {H:Hp} {a:Addr} {o:HO}:upd H a o a=some o:=by unfold upd; rw [if_pos rfl]
def zg {H:Hp} {a b:Addr} {o:HO} (h:b ≠ a):upd H a o b=H b:=by unfold upd; rw [if_neg h]
def Fl {H:Hp} {a b:Addr} {o u:HO} (h:H a=some o) (h':H b=some u) (d:o ≠ u):a ≠ b:=by
 intro e; subst e; rw [h] at h'; exact d (Option.some.inj h')
def zb {H:Hp} {a b:Addr} {o:HO} (h:H a=some o) (h':H b=none):a ≠ b:=by
 intro e; subst e; rw [h] at h'; cases h'
section
variable (P:Program) (w:World)
def yf (H:Hp) (h:Heap) (a:Addr):HO->Prop
 | .lst xs=>xs.length <= sizeLine /\ ∃ (its:List Value) (n:Nat),Vals xs its /\ h.get? a=some { cls:=.type "list", data:=.seq its.toArray n }
 | .tup xs=>xs.length <= sizeLine /\ ∃ its:List Value,Vals xs its /\ IsTup h a its.toArray /\ ∃ o,h.get? a=some o /\ o.dict=none
 | .dK kvs=>kvs.length <= sizeLine /\ (a == sysModules)=false /\ ∃ vs,KV kvs vs /\ h.DictOf (y9 P w) a vs
 | .dT kvs=>kvs.length <= sizeLine /\ (a == sysModules)=false /\ ∃ xs:List (List Key × Addr × Value),
   Paired (λ(p:List Key × V) (q:List Key × Addr × Value)=>p.1=q.1 /\ H q.2.1=some (.tup (p.1.map kV)) /\ RelV p.2 q.2.2) kvs xs /\
   ∃ o es ep,h.get? a=some o /\ o.ExactDict /\ o.data=.dict es ep /\ es.toList=xs.map (entryOfKey (tupleKind (y9 P w))) /\ (xs.map (·.1)).Nodup
 | .set S n=>h.SetOf (intKind P w) a S n
 | .ins C dx fs=>H dx=some (.own a) /\ fs.length <= 1000 /\ dx ≠ a /\ h.get? a=some (W.instObj C dx) /\
   ∃ mA,h.Ns1 dx mA /\ (∀ f,RelO (fs.lookup f) (mA f)) /\ PySem.Within mA (fs.map (·.1))
 | .own _=>∃ o,h.get? a=some o
 | .xd fs=>∃ mA,h.Ns1 a mA /\ ∀ f,RelO (fs.lookup f) (mA f)
 | .rng lo hi=>∃ t u v,h.get? a=some { cls:=.type "range", data:=.fields #[.int lo t,.int hi u,.int 1 v] }
 | .frz o u=>h.get? a=some o /\ yf H h a u
 | .tbl ps=>h.get? a=some { cls:=.none,data:=.fields ps }
 | .met f x=>h.get? a=some (W.methodObj (.ref f) (.ref x))
 | .ext φ=>φ h /\ (∃ o,h.get? a=some o) /\ ∀ h1 h2:Heap,φ h1->(∀ o,h1.get? a=some o->h2.get? a=some o)->φ h2
def HOk (H:Hp) (h:Heap):Prop:=∀ a o,H a=some o->yf P w H h a o
end
section
variable {P:Program} {w:World} {H H':Hp} {h h':Heap} {a:Addr} {o:HO}
def yf.lt (x:yf P w H h a o):a < h.objs.size:=by
 cases o with
 | lst xs=>obtain ⟨_,_,_,_,e⟩:=x; exact zae e
 | tup xs=>obtain ⟨_,_,_,p⟩:=x; exact p.1.lt
 | dK kvs=>obtain ⟨_,_,_,_,o,_,_,e,_⟩:=x; exact zae e
 | dT kvs=>obtain ⟨_,_,_,_,o,_,_,e,_⟩:=x; exact zae e
 | set S n=>obtain ⟨o,_,_,_,e,_⟩:=x; exact zae e
 | ins C dx fs=>obtain ⟨_,_,_,e,_⟩:=x; exact zae e
 | own y=>obtain ⟨_,e⟩:=x; exact zae e
 | xd fs=>obtain ⟨_,⟨_,_,_,e,_⟩,_⟩:=x; exact zae e
 | rng lo hi=>obtain ⟨_,_,_,e⟩:=x; exact zae e
 | frz ob u=>obtain ⟨e,_⟩:=x; exact zae e
 | tbl ps=>exact zae (show h.get? a=some _ from x)
 | met f y=>exact zae (show h.get? a=some _ from x)
 | ext φ=>obtain ⟨_,⟨_,e⟩,_⟩:=x; exact zae e
def Paired.mapP {α β:Type} {F G:α->β->Prop}:∀ {l₁:List α} {l₂:List β},Paired F l₁ l₂->(∀ a b,F a b->G a b)->Paired G l₁ l₂
 | _,_,.nil,_=>.nil
 | _,_,.cons r t,f=>.cons (f _ _ r) (Paired.mapP t f)
def yf.stay (x:yf P w H h a o) (k:∀ b u,(b=a \/ H b=some (.own a))->h.get? b=some u->h'.get? b=some u)
  (ho:∀ b,H b=some (.own a)->H' b=some (.own a)) (ht:∀ b xs,H b=some (.tup xs)->H' b=some (.tup xs)):yf P w H' h' a o:=by
 induction o with
 | lst xs=>obtain ⟨z,its,n,r,e⟩:=x; exact ⟨z,its,n,r,k _ _ (.inl rfl) e⟩
 | tup xs=>obtain ⟨z,its,r,⟨ob,e,c⟩,od,ed,cd⟩:=x; exact ⟨z,its,r,⟨ob,k _ _ (.inl rfl) e,c⟩,od,k _ _ (.inl rfl) ed,cd⟩
 | dK kvs=>obtain ⟨z,y,vs,r,ob,es,ep,e,c⟩:=x; exact ⟨z,y,vs,r,ob,es,ep,k _ _ (.inl rfl) e,c⟩
 | dT kvs =>
  obtain ⟨z,y,xs,r,ob,es,ep,e,c⟩:=x
  exact ⟨z,y,xs,Paired.mapP r λp q z=>⟨z.1,ht _ _ z.2.1,z.2.2⟩,ob,es,ep,k _ _ (.inl rfl) e,c⟩
 | set S n=>obtain ⟨ob,es,ep,t,e,c⟩:=x; exact ⟨ob,es,ep,t,k _ _ (.inl rfl) e,c⟩
 | ins C dx fs =>
  obtain ⟨d,z,ne,e,mA,⟨od,es,ep,e2,c⟩,r⟩:=x
  exact ⟨ho _ d,z,ne,k _ _ (.inl rfl) e,mA,⟨od,es,ep,k _ _ (.inr d) e2,c⟩,r⟩
 | own y=>obtain ⟨ob,e⟩:=x; exact ⟨ob,k _ _ (.inl rfl) e⟩
 | xd fs=>obtain ⟨mA,⟨od,es,ep,e,c⟩,r⟩:=x; exact ⟨mA,⟨od,es,ep,k _ _ (.inl rfl) e,c⟩,r⟩
 | rng lo hi=>obtain ⟨t,u,v,e⟩:=x; exact ⟨t,u,v,k _ _ (.inl rfl) e⟩
 | frz ob u ih=>obtain ⟨e,q⟩:=x; exact ⟨k _ _ (.inl rfl) e,ih q⟩
 | tbl ps =>
  have e:h.get? a=some { cls:=.none,data:=.fields ps }:=x
  show h'.get? a=some { cls:=.none,data:=.fields ps }
  exact k a _ (.inl rfl) e
 | met f y =>
  have e:h.get? a=some (W.methodObj (.ref f) (.ref y)):=x
  show h'.get? a=some (W.methodObj (.ref f) (.ref y))
  exact k a _ (.inl rfl) e
 | ext φ=>obtain ⟨p,⟨o,e⟩,st⟩:=x; exact ⟨st _ _ p λo q=>k _ _ (.inl rfl) q,⟨o,k _ _ (.inl rfl) e⟩,st⟩
def HOk.lt (x:HOk P w H h) (e:H a=some o):a < h.objs.size:=(x a o e).lt
def HOk.fresh (x:HOk P w H h) (e:h.objs.size <= a):H a=none:=by
 cases q:H a with
 | none=>rfl
 | some u=>exact absurd (Nat.lt_of_lt_of_le (x.lt q) e) (Nat.lt_irrefl _)
def HOk.kept (x:HOk P w H h) (k:∀ b u,h.get? b=some u->h'.get? b=some u):HOk P w H h':=λa o e =>
 (x a o e).stay (λb u _ q=>k b u q) (λ_ q=>q) λ_ _ q=>q
def HOk.laid (x:HOk P w H h) (k:∀ b u,h.get? b=some u->h'.get? b=some u) (hp:h.objs.size <= a) (new:yf P w (upd H a o) h' a o):HOk P w (upd H a o) h':=λb u e=>by
 have hn:=x.fresh hp
 by_cases hb:b=a
 ·subst hb; rw [zh] at e; cases e; exact new
 ·rw [zg hb] at e
  exact (x b u e).stay (λc v _ q=>k c v q) (λc q=>by rw [zg (zb q hn)]; exact q) λc xs q=>by rw [zg (zb q hn)]; exact q
end
def Rd (H:Hp) (a:Addr) (u:HO):Prop:=H a=some u \/ ∃ o,H a=some (.frz o u)
def Rd.ok {P:Program} {w:World} {H:Hp} {h:Heap} {a:Addr} {u:HO} (r:Rd H a u) (x:HOk P w H h):yf P w H h a u:=by
 rcases r with r | ⟨o,r⟩
 ·exact x a u r
 ·obtain ⟨_,q⟩:=x a _ r
  exact q
def Mut:Option HO->Prop
 | some (.lst _)=>True
 | some (.dK _)=>True
 | some (.dT _)=>True
 | some (.set _ _)=>True
 | some (.ins _ _ _)=>True
 | some (.ext _)=>True
 | _=>False
section
variable {P:Program} {w:World} {H:Hp} {h h':Heap} {x e:Addr} {o':HO}
def HOk.write (ok:HOk P w H h) (mu:Mut (H x)) (he:e=x \/ H e=some (.own x)) (k:∀ b u,b ≠ e->h.get? b=some u->h'.get? b=some u) (heo:∃ u,h'.get? e=some u)
  (new:yf P w (upd H x o') h' x o'):HOk P w (upd H x o') h':=λb u q=>by
 have nown:∀ c y,H c=some (.own y)->c ≠ x:=λc y r z=>by subst z; rw [r] at mu; exact mu
 have ntup:∀ c xs,H c=some (.tup xs)->c ≠ x:=λc xs r z=>by subst z; rw [r] at mu; exact mu
 by_cases hb:b=x
 ·subst hb; rw [zh] at q; cases q; exact new
 ·rw [zg hb] at q
  by_cases hbe:b=e
  ·have q':H b=some (.own x):=by
    rcases he with z | z
    ·exact absurd (hbe.trans z) hb
    ·rw [hbe]; exact z
   rw [q] at q'; cases q'
   obtain ⟨v,hv⟩:=heo
   exact ⟨v,by rw [hbe]; exact hv⟩
  ·refine (ok b u q).stay (λc v hc r=>k c v ?_ r) (λc r=>by rw [zg (nown c b r)]; exact r) λc xs r=>by rw [zg (ntup c xs r)]; exact r
   rcases hc with rfl | hc
   ·exact hbe
   ·rintro rfl
    rcases he with z | z
    ·exact nown c b hc z
    ·rw [hc] at z; cases z; exact hb rfl
end
structure Un (fs ex:List Addr) (H H':Hp) (h h':Heap):Prop where
 keep:∀ b o,h.get? b=some o->H b=none->b ∉ fs->b ∉ ex->h'.get? b=some o
 slot:∀ b o,h.get? b=some o->H b=none->b ∈ fs->b ∉ ex->∃ sl,h'.get? b=some { o with slots:=sl }
 free:∀ b o,h.get? b=some o->H b=none->b ∉ ex->H' b=none
 there:∀ b o,h.get? b=some o->b ∉ ex->∃ o',h'.get? b=some o'
 tups:∀ b xs,H b=some (.tup xs)->H' b=some (.tup xs)
 frzs:∀ b o u,H b=some (.frz o u)->H' b=some (.frz o u)
 tbls:∀ b ps,H b=some (.tbl ps)->∃ more,H' b=some (.tbl (ps ++ more))
section
variable {fs fs' ex ex':List Addr} {H H1 H2:Hp} {h h1 h2 h':Heap} {a x e:Addr} {o:HO}
def Un.any (u:Un fs ex H H1 h h1) {b:Addr} {ob:Obj} (q:h.get? b=some ob) (n:H b=none) (hx:b ∉ ex):∃ sl,h1.get? b=some { ob with slots:=sl }:=by
 by_cases hb:b ∈ fs
 ·exact u.slot b ob q n hb hx
 ·exact ⟨ob.slots,u.keep b ob q n hb hx⟩
def Un.kept (k:∀ b u,h.get? b=some u->h'.get? b=some u):Un fs ex H H h h' :=
 ⟨λb ob q _ _ _=>k b ob q,λb ob q _ _ _=>⟨ob.slots,k b ob q⟩,λ_ _ _ n _=>n,λb ob q _=>⟨ob,k b ob q⟩,λ_ _ q=>q,λ_ _ _ q=>q,λ_ ps q=>⟨#[],by rw [q]; simp⟩⟩
def Un.refl:Un fs ex H H h h:=Un.kept λ_ _ q=>q
def Un.laid (k:∀ b u,h.get? b=some u->h'.get? b=some u) (hp:h.objs.size <= a) (hn:H a=none):Un fs ex H (upd H a o) h h' where
 keep:=λb u q _ _ _=>k b u q
 slot:=λb u q _ _ _=>⟨u.slots,k b u q⟩
 free:=λb u q n _=>by rw [zg (Nat.ne_of_lt (Nat.lt_of_lt_of_le (zae q) hp))]; exact n
 there:=λb u q _=>⟨u,k b u q⟩
 tups:=λb xs q=>by rw [zg (zb q hn)]; exact q
 frzs:=λb u xs q=>by rw [zg (zb q hn)]; exact q
 tbls:=λb ps q=>⟨#[],by rw [zg (zb q hn),q]; simp⟩
def Un.write (mu:Mut (H x)) (he:e=x \/ H e=some (.own x)) (k:∀ b u,b ≠ e->h.get? b=some u->h'.get? b=some u) (heo:∃ u,h'.get? e=some u):Un fs ex H (upd H x o) h h':=by
 have hx:∀ b,H b=none->b ≠ x:=λb n z=>by subst z; rw [n] at mu; exact mu
 have hb:∀ b,H b=none->b ≠ e:=λb n z=>by
  subst z
  rcases he with r | r
  ·exact hx b n r
  ·rw [n] at r; cases r
 have hm:∀ b u,H b=some u->¬ Mut (some u)->b ≠ x:=λb u q nm z=>by subst z; rw [q] at mu; exact nm mu
 refine ⟨λb u q n _ _=>k b u (hb b n) q,λb u q n _ _=>⟨u.slots,k b u (hb b n) q⟩,λb u q n _=>by rw [zg (hx b n)]; exact n,λb u q _=>?_,
  λb xs q=>by rw [zg (hm b _ q λz=>z)]; exact q,λb u xs q=>by rw [zg (hm b _ q λz=>z)]; exact q,λb ps q=>⟨#[],by rw [zg (hm b _ q λz=>z),q]; simp⟩⟩
 by_cases hbe:b=e
 ·subst hbe; exact heo
 ·exact ⟨u,k b u hbe q⟩
end
def trk (h:Heap) (H:Hp):List Addr:=(List.range h.objs.size).filter λa=>(H a).isSome
def hidT (h:Heap) (H:Hp):Heap:=W.hideAll h (trk h H)
def R7 (h:Heap) (H:Hp):(hidT h H).objs.size=h.objs.size:=W.hideAll_size _ _
def Ob {h:Heap} {H:Hp} {b:Addr} {o:Obj} (e:h.get? b=some o) (n:H b=none):(hidT h H).get? b=some o :=
 W.hideAll_get _ e λhm=>by
  have q:(H b).isSome=true:=(List.mem_filter.mp hm).2
  rw [n] at q; simp at q
def Ki {h:Heap} {H:Hp} {b:Addr} {o:Obj} (e:(hidT h H).get? b=some o):h.get? b=some o /\ H b=none:=by
 have e':h.get? b=some o:=W.of_hideAll (trk h H) e
 refine ⟨e',?_⟩
 cases q:H b with
 | none=>rfl
 | some x =>
  have hm:b ∈ trk h H:=List.mem_filter.mpr ⟨List.mem_range.mpr (zae e'),by simp [q]⟩
  have z:(hidT h H).get? b=none:=W.hideAll_none (trk h H) hm
  rw [z] at e; cases e
def Jq (g h:Heap) (L:Addr):List (Addr × Obj):=(List.range h.objs.size).filterMap λa=>if a=L \/ (g.get? a).isSome=true then none else (h.get? a).map λo=>(a,o)
def rest (g h:Heap) (L d:Addr):List (Addr × Obj):=(Jq g h L).filter λp=>decide (p.1 ≠ d)
structure Mod (K:W.Frag) (mg:Str->Option Value) (base:Heap):Prop where
 kin:K.In base
 glob:base.Ns mainGlobals mg
 blt:∃ mb,base.Ns builtinsNs mb /\ ∀ x:Str,x ≠ "__name__"->mb x=bootBuiltins x
 nolimit:base.NoLimit
structure Cx where
 prog:Program
 w:World
 K:W.Frag
 mg:Str->Option Value
 base:Heap
 A:Around
 N:List Str
 s₀:Shared
 H₀:Hp
 env:Env
 outer:List Env
 stack:List Env
 ex:List Addr
 fn:Str->Bool
 calm:Bool
 pn:List (Addr × Obj)
 xe:Value->Shared->Prop
def frs (l:List Env):List Addr:=l.filterMap (·.frame)
abbrev Cx.fs (X:Cx):List Addr:=frs X.outer
def Vis (sc:Scope) (x:Str):Prop:=sc.names.lookup x=some .local \/ sc.names.lookup x=some .cell \/ sc.names.lookup x=some .free
def Loc (sc:Scope) (x:Str):Prop:=sc.names.lookup x=some .local \/ sc.names.lookup x=some .cell
def Look (env:Env) (h:Heap) (m:Str->Option Value) (x:Str) (u:Value):Prop :=
 (env.kindOf x=some .local /\ m x=some u) \/ ((env.kindOf x=some .cell \/ env.kindOf x=some .free) /\ ∃ c,env.cells.lookup x=some c /\ h.IsCell c (some u))
structure Cx.Ok (X:Cx):Prop where
 mod:Mod X.K X.mg X.base
 kind:X.env.scope.kind=.function
 glob:X.env.globals=mainGlobals
 blt:X.env.builtins=builtinsNs
 above:X.s₀.heap.objs.size <= X.env.locals
 inj:∀ x y c,X.env.cells.lookup x=some c->X.env.cells.lookup y=some c->x=y
 has:∀ x,(X.env.kindOf x=some .cell \/ X.env.kindOf x=some .free)->∃ c,X.env.cells.lookup x=some c
 cab:∀ x c,X.fn x=true->X.env.cells.lookup x=some c->X.s₀.heap.objs.size <= c
 hd:X.calm=true->X.A.handled=none
 frames:X.A.frames=some X.stack
 stk:X.stack=X.outer \/ (X.stack=X.env :: X.outer /\ X.env.frame=some X.env.locals)
 exf:∀ b ∈ X.ex,b ≠ X.env.locals /\ ∀ x c,X.env.cells.lookup x=some c->c ≠ b
 bs:∀ b o,X.base.get? b=some o->X.s₀.heap.get? b=some o /\ X.H₀ b=none
 bsz:X.base.objs.size <= X.s₀.heap.objs.size
 noex:∀ b o,X.base.get? b=some o->b ∉ X.ex
 exfs:∀ b ∈ X.ex,b ∉ X.fs
 funs:X.s₀.heap.FunFrames X.base X.outer
 frf:∀ b ∈ X.fs,X.H₀ b=none
structure Inv (X:Cx) (pn:List (Addr × Obj)) (σ:List (Option V)) (H:Hp) (s:Shared):Prop where
 ok:X.Ok
 os:s.os=X.s₀.os
 bare:AllBare s.gens
 base:Un X.fs X.ex X.H₀ H X.s₀.heap s.heap
 loc:∃ m,s.heap.Ns X.env.locals m /\ ∀ (i:Nat) (x:Str) (v:V),X.N[i]?=some x->σ[i]?=some (some v)->Vis X.env.scope x->∃ u,RelV v u /\ Look X.env s.heap m x u
 cell:∀ x c,X.env.cells.lookup x=some c->∃ v,s.heap.IsCell c v
 free:H X.env.locals=none
 freeC:∀ x c,X.env.cells.lookup x=some c->H c=none
 pin:∀ p ∈ X.pn ++ pn,s.heap.get? p.1=some p.2 /\ H p.1=none /\ p.1 ≠ X.env.locals /\ p.1 ∉ X.fs /\ ∀ v,p.2.data ≠ .cell v
 hok:HOk X.prog X.w H s.heap
 len:σ.length=X.N.length
section
variable {X:Cx} {pn:List (Addr × Obj)} {σ:List (Option V)} {H H':Hp} {s:Shared} {h':Heap}
def Cx.Ok.nofr (ok:X.Ok) {b:Addr} {o:Obj} (e:X.base.get? b=some o):b ∉ X.fs:=λhb=>by
 have:=(ok.funs.mem hb).1
 rw [e] at this; cases this
def Inv.bs (I:Inv X pn σ H s):∀ b o,X.base.get? b=some o->s.heap.get? b=some o /\ H b=none:=λb o e =>
 ⟨I.base.keep b o (I.ok.bs b o e).1 (I.ok.bs b o e).2 (I.ok.nofr e) (I.ok.noex b o e),I.base.free b o (I.ok.bs b o e).1 (I.ok.bs b o e).2 (I.ok.noex b o e)⟩
def Inv.bk (I:Inv X pn σ H s):∀ b o,X.base.get? b=some o->s.heap.get? b=some o:=λb o e=>(I.bs b o e).1
def Inv.mod (I:Inv X pn σ H s):Mod X.K X.mg X.base:=I.ok.mod
def Inv.kIn (I:Inv X pn σ H s):X.K.In s.heap:=I.ok.mod.kin.keeps I.bk
def Inv.fr (I:Inv X pn σ H s):∃ m,Fr X.base X.env.locals s.heap m :=
 let ⟨m,hn,_⟩:=I.loc
 ⟨m,hn,I.bk,zak I.ok.bsz I.ok.above⟩
def Inv.lt (I:Inv X pn σ H s):X.env.locals < s.heap.objs.size:=let ⟨_,hn,_⟩:=I.loc; hn.lt
def Inv.sz (I:Inv X pn σ H s):X.s₀.heap.objs.size <= s.heap.objs.size:=zak I.ok.above (Nat.le_of_lt I.lt)
def Inv.nofs (I:Inv X pn σ H s) {a:Addr} (h:s.heap.objs.size <= a):a ∉ X.fs:=λhb=>by
 obtain ⟨_,o,ho,_⟩:=I.ok.funs.mem hb
 exact absurd (Nat.lt_of_lt_of_le (zae ho) (zak I.sz h)) (Nat.lt_irrefl _)
def Inv.cne (I:Inv X pn σ H s):∀ x c,X.env.cells.lookup x=some c->c ≠ X.env.locals:=λx c e z=>by
 obtain ⟨v,o,ho,hd⟩:=I.cell x c e
 obtain ⟨m,⟨o',es,ep,ho',hd',_⟩,_⟩:=I.loc
 rw [z,ho'] at ho; cases ho; rw [hd'] at hd; cases hd
def Inv.funs (I:Inv X pn σ H s):s.heap.FunFrames X.base X.outer:=by
 have all:∀ (l:List Env),(∀ b ∈ frs l,b ∈ X.fs)->X.s₀.heap.FunFrames X.base l->s.heap.FunFrames X.base l:=by
  intro l
  induction l with
  | nil=>intro _ _; trivial
  | cons env r ih =>
   intro hs hl
   obtain ⟨hk,⟨L,o,hf,hn,ho,hd⟩,hr⟩:=hl
   have hL:L ∈ X.fs:=hs L (by unfold frs; rw [List.filterMap_cons,hf]; exact zao)
   obtain ⟨sl,e⟩:=I.base.slot L o ho (I.ok.frf L hL) hL λz=>I.ok.exfs L z hL
   exact ⟨hk,⟨L,_,hf,hn,e,hd⟩,ih (λb hb=>hs b (by unfold frs; rw [List.filterMap_cons,hf]; exact zal _ hb)) hr⟩
 exact all X.outer (λ_ hb=>hb) I.ok.funs
def Inv.stack (I:Inv X pn σ H s):s.heap.FunFrames X.base X.stack:=by
 rcases I.ok.stk with e | ⟨e,hf⟩
 ·rw [e]; exact I.funs
 ·rw [e]
  obtain ⟨m,hn,_⟩:=I.loc
  refine .cons (by rw [I.ok.kind]; decide) hf hn ?_ I.funs
  exact Heap.get?_none_of_le (zak I.ok.bsz I.ok.above)
def Inv.stkSub (I:Inv X pn σ H s):∀ b ∈ frs X.stack,b ∈ X.env.locals :: X.fs:=λb hb=>by
 rcases I.ok.stk with e | ⟨e,hf⟩
 ·rw [e] at hb; exact zal _ hb
 ·rw [e] at hb
  unfold frs at hb
  rw [List.filterMap_cons,hf] at hb
  exact hb
def Inv.stkFree (I:Inv X pn σ H s):∀ b ∈ frs X.stack,H b=none:=λb hb=>by
 rcases zam.mp (I.stkSub b hb) with e | hb
 ·rw [e]; exact I.free
 ·obtain ⟨_,o,ho,_⟩:=I.ok.funs.mem hb
  exact I.base.free b o ho (I.ok.frf b hb) λz=>I.ok.exfs b z hb
def Inv.step {g':Array GenState} {t':Nat} {d':Drawn} {ch:List Addr} (I:Inv X pn σ H s)
  (hch:∀ b ∈ ch,(b ∈ X.ex \/ X.s₀.heap.objs.size <= b) /\ b ≠ X.env.locals /\ (∀ x c,X.env.cells.lookup x=some c->c ≠ b) /\ ∀ p ∈ X.pn ++ pn,p.1 ≠ b)
  (keep:∀ b o,b ≠ X.env.locals->b ∉ X.fs->b ∉ ch->s.heap.get? b=some o->H b=none->h'.get? b=some o)
  (slot:∀ b o,b ≠ X.env.locals->b ∈ X.fs->b ∉ ch->s.heap.get? b=some o->H b=none->∃ sl,h'.get? b=some { o with slots:=sl }) (free:∀ b o,b ∉ ch->s.heap.get? b=some o->H b=none->H' b=none)
  (there:∀ b o,b ∉ ch->s.heap.get? b=some o->∃ o',h'.get? b=some o')
  (tups:∀ b xs,H b=some (.tup xs)->H' b=some (.tup xs)) (frzs:∀ b o u,H b=some (.frz o u)->H' b=some (.frz o u)) (tbls:∀ b ps,H b=some (.tbl ps)->∃ more,H' b=some (.tbl (ps ++ more)))
  (ns:∀ m,s.heap.Ns X.env.locals m->h'.Ns X.env.locals m) (hok:HOk X.prog X.w H' h') (hg:AllBare g') :
  Inv X pn σ H' { s with heap:=h',gens:=g',drawn:=d',toks:=t' }:=by
 have neL:∀ b o,X.s₀.heap.get? b=some o->b ≠ X.env.locals:=λb o e=>Nat.ne_of_lt (Nat.lt_of_lt_of_le (zae e) I.ok.above)
 have neC:∀ b o,X.s₀.heap.get? b=some o->b ∉ X.ex->b ∉ ch:=λb o e hx hb=>by
  rcases (hch b hb).1 with z | z
  ·exact hx z
  ·exact absurd (Nat.lt_of_lt_of_le (zae e) z) (Nat.lt_irrefl _)
 have cellK:∀ x c,X.env.cells.lookup x=some c->∀ v,s.heap.IsCell c v->h'.IsCell c v:=λx c e v ⟨o,ho,hd⟩=>by
  have nch:c ∉ ch:=λz=>(hch c z).2.2.1 x c e rfl
  by_cases hc:c ∈ X.fs
  ·obtain ⟨sl,q⟩:=slot c o (I.cne x c e) hc nch ho (I.freeC x c e)
   exact ⟨_,q,hd⟩
  ·exact ⟨o,keep c o (I.cne x c e) hc nch ho (I.freeC x c e),hd⟩
 refine ⟨I.ok,I.os,hg,⟨λb o e n hb hx=>?_,λb o e n hb hx=>?_,λb o e n hx=>?_,λb o e hx=>?_,λb xs e=>tups b xs (I.base.tups b xs e),λb o xs e=>frzs b o xs (I.base.frzs b o xs e),λb ps e=>?_⟩,?_,λx c e=>?_,?_,λx c e=>?_,λp hp=>?_,hok,I.len⟩
 ·exact keep b o (neL b o e) hb (neC b o e hx) (I.base.keep b o e n hb hx) (I.base.free b o e n hx)
 ·obtain ⟨sl,e1⟩:=I.base.slot b o e n hb hx
  obtain ⟨sl',e2⟩:=slot b _ (neL b o e) hb (neC b o e hx) e1 (I.base.free b o e n hx)
  exact ⟨sl',e2⟩
 ·obtain ⟨o',e1⟩:=I.base.there b o e hx
  exact free b o' (neC b o e hx) e1 (I.base.free b o e n hx)
 ·obtain ⟨o',e1⟩:=I.base.there b o e hx
  exact there b o' (neC b o e hx) e1
 ·obtain ⟨m1,e1⟩:=I.base.tbls b ps e
  obtain ⟨m2,e2⟩:=tbls b _ e1
  exact ⟨m1 ++ m2,by rw [e2,Array.append_assoc]⟩
 ·obtain ⟨m,hn,hl⟩:=I.loc
  refine ⟨m,ns m hn,λi x v e1 e2 e3=>?_⟩
  obtain ⟨u,r,l⟩:=hl i x v e1 e2 e3
  refine ⟨u,r,?_⟩
  rcases l with l | ⟨k,c,e,z⟩
  ·exact .inl l
  ·exact .inr ⟨k,c,e,cellK x c e _ z⟩
 ·obtain ⟨v,z⟩:=I.cell x c e
  exact ⟨v,cellK x c e v z⟩
 ·obtain ⟨m,⟨o,_,_,ho,_⟩,_⟩:=I.loc
  exact free _ o (λz=>(hch _ z).2.1 rfl) ho I.free
 ·obtain ⟨v,o,ho,hd⟩:=I.cell x c e
  exact free c o (λz=>(hch c z).2.2.1 x c e rfl) ho (I.freeC x c e)
 ·obtain ⟨e,n,ne,nf,d⟩:=I.pin p hp
  have nch:p.1 ∉ ch:=λz=>(hch p.1 z).2.2.2 p hp rfl
  exact ⟨keep p.1 p.2 ne nf nch e n,free p.1 p.2 nch e n,ne,nf,d⟩
def Inv.un {t':Nat} (I:Inv X pn σ H s) (u:Un X.fs [] H H' s.heap h') (hok:HOk X.prog X.w H' h'):Inv X pn σ H' { s with heap:=h',toks:=t' }:=by
 obtain ⟨m,⟨o,es,ep,ho,r⟩,_⟩:=id I.loc
 obtain ⟨sl,hL⟩:=u.any ho I.free (by simp)
 exact I.step (g':=s.gens) (d':=s.drawn) (ch:=[]) (λ_ z=>nomatch z) (λb o _ hb _ e n=>u.keep b o e n hb (by simp)) (λb o _ hb _ e n=>u.slot b o e n hb (by simp)) (λb o _ e n=>u.free b o e n (by simp)) (λb o _ e=>u.there b o e (by simp)) u.tups u.frzs u.tbls (λm' hm=>by
  obtain ⟨o',es',ep',ho',r'⟩:=hm
  rw [ho] at ho'; cases ho'
  exact ⟨_,es',ep',hL,r'⟩) hok I.bare
def Inv.call {g':Array GenState} {t':Nat} {d':Drawn} {ch:List Addr} (I:Inv X pn σ H s) (u:Un (frs X.stack) ch H H' s.heap h') (hok:HOk X.prog X.w H' h') (hg:AllBare g')
  (hch:∀ b ∈ ch,(b ∈ X.ex \/ X.s₀.heap.objs.size <= b) /\ b ≠ X.env.locals /\ (∀ x c,X.env.cells.lookup x=some c->c ≠ b) /\ ∀ p ∈ X.pn ++ pn,p.1 ≠ b) :
  Inv X pn σ H' { s with heap:=h',gens:=g',drawn:=d',toks:=t' }:=by
 obtain ⟨m,⟨o,es,ep,ho,r⟩,_⟩:=id I.loc
 obtain ⟨sl,hL⟩:=u.any ho I.free λz=>(hch _ z).2.1 rfl
 exact I.step (ch:=ch) hch (λb o hL hb hc e n=>u.keep b o e n (λz=>(zam.mp (I.stkSub b z)).elim hL hb) hc) (λb o _ _ hc e n=>u.any e n hc) (λb o hc e n=>u.free b o e n hc) (λb o hc e=>u.there b o e hc) u.tups u.frzs u.tbls (λm' hm=>by
  obtain ⟨o',es',ep',ho',r'⟩:=hm
  rw [ho] at ho'; cases ho'
  exact ⟨_,es',ep',hL,r'⟩) hok hg
def Inv.turned {t':Nat} {it:Addr} (I:Inv X pn σ H s) (k:∀ b o,b ≠ it->s.heap.get? b=some o->h'.get? b=some o) (hn:H it=none) (hL:it ≠ X.env.locals)
  (h1:it ∈ X.ex \/ X.s₀.heap.objs.size <= it) (h2:∀ x c,X.env.cells.lookup x=some c->c ≠ it) (h3:∀ p ∈ X.pn ++ pn,p.1 ≠ it):Inv X pn σ H { s with heap:=h',toks:=t' }:=by
 have nit:∀ b u,H b=some u->b ≠ it:=λb u e z=>by rw [z,hn] at e; cases e
 refine I.step (g':=s.gens) (d':=s.drawn) (ch:=[it]) (λb hb=>?_) (λb o _ _ hc e _=>k b o (λz=>hc (by simp [z])) e) (λb o _ _ hc e _=>⟨o.slots,k b o (λz=>hc (by simp [z])) e⟩) (λ_ _ _ _ n=>n)
  (λb o hc e=>⟨o,k b o (λz=>hc (by simp [z])) e⟩) (λ_ _ e=>e) (λ_ _ _ e=>e) (λb ps e=>⟨#[],by rw [e]; simp⟩) (λm hm=>?_) (λb u e=>?_) I.bare
 ·have e:b=it:=by simpa using hb
  subst e
  exact ⟨h1,hL,h2,h3⟩
 ·obtain ⟨o,es,ep,ho,r⟩:=hm
  exact ⟨o,es,ep,k _ o (Ne.symm hL) ho,r⟩
 ·refine (I.hok b u e).stay (λc v hc q=>k c v ?_ q) (λ_ q=>q) λ_ _ q=>q
  rcases hc with z | z
  ·rw [z]; exact nit b u e
  ·exact nit c _ z
def Inv.tok (I:Inv X pn σ H s) (t:Nat):Inv X pn σ H { s with toks:=t }:=I.un (h':=s.heap) (t':=t) Un.refl I.hok
def Inv.kept {t':Nat} (I:Inv X pn σ H s) (k:∀ b u,s.heap.get? b=some u->h'.get? b=some u):Inv X pn σ H { s with heap:=h',toks:=t' }:=I.un (Un.kept k) (I.hok.kept k)
def Inv.laid {a:Addr} {o:HO} {t':Nat} (I:Inv X pn σ H s) (k:∀ b u,s.heap.get? b=some u->h'.get? b=some u) (hp:s.heap.objs.size <= a) (new:yf X.prog X.w (upd H a o) h' a o) :
  Inv X pn σ (upd H a o) { s with heap:=h',toks:=t' }:=I.un (Un.laid k hp (I.hok.fresh hp)) (I.hok.laid k hp new)
def Inv.write {x e:Addr} {o:HO} {t':Nat} (I:Inv X pn σ H s) (mu:Mut (H x)) (he:e=x \/ H e=some (.own x)) (k:∀ b u,b ≠ e->s.heap.get? b=some u->h'.get? b=some u) (heo:∃ u,h'.get? e=some u)
  (new:yf X.prog X.w (upd H x o) h' x o):Inv X pn σ (upd H x o) { s with heap:=h',toks:=t' }:=I.un (Un.write mu he k heo) (I.hok.write mu he k heo new)
def Inv.weak {σ':List (Option V)} (I:Inv X pn σ H s) (hl:σ'.length=σ.length) (w:∀ (i:Nat) v,σ'[i]?=some (some v)->σ[i]?=some (some v)):Inv X pn σ' H s :=
 ⟨I.ok,I.os,I.bare,I.base,let ⟨m,hn,hl'⟩:=I.loc; ⟨m,hn,λi x v e1 e2 e3=>hl' i x v e1 (w i v e2) e3⟩,I.cell,I.free,I.freeC,I.pin,I.hok,hl.trans I.len⟩
def Inv.pins_of {pins':List (Addr × Obj)} (I:Inv X pn σ H s) (h:∀ p ∈ pins',s.heap.get? p.1=some p.2 /\ H p.1=none /\ p.1 ≠ X.env.locals /\ p.1 ∉ X.fs /\ ∀ v,p.2.data ≠ .cell v):Inv X pins' σ H s :=
 ⟨I.ok,I.os,I.bare,I.base,I.loc,I.cell,I.free,I.freeC,λp hp=>(zas.mp hp).elim (λz=>I.pin p (List.mem_append_left _ z)) (h p),I.hok,I.len⟩
def We {N:List Str} (hN:N.Nodup) {i j:Nat} {x:Str} (a:N[i]?=some x) (b:N[j]?=some x):i=j:=by
 obtain ⟨h1,e1⟩:=zag.mp a
 obtain ⟨h2,e2⟩:=zag.mp b
 exact (List.getElem_inj hN).mp (e1.trans e2.symm)
def dw {M:Model} {A:Around} {E:Value->Shared->Prop} {i:Nat} {x:Str} {v:V} {u:Value} {Q:Unit->Shared->Prop} (I:Inv X pn σ H s) (hN:X.N.Nodup) (hi:X.N[i]?=some x) (hx:Loc X.env.scope x) (r:RelV v u)
  (h:∀ s',Inv X pn (σ.set i (some v)) H s'->(∃ a,Heap.SameBut a s.heap s'.heap /\ (a=X.env.locals \/ X.env.cells.lookup x=some a))->Q () s') (hf:X.fn x=true \/ X.env.scope.names.lookup x=some .local:=by first | exact .inl rfl | exact .inr rfl | assumption):wpAny M A (storeName X.env x u) Q E s:=by
 obtain ⟨m,hn,hl⟩:=id I.loc
 have hcls:(X.env.scope.kind == .class || (X.env.scope.kind == .module && X.env.locals != X.env.globals))=false:=by rw [I.ok.kind]; rfl
 have hiσ:i < σ.length:=by rw [I.len]; exact (zag.mp hi).1
 have cne:=I.cne
 have tracked:∀ {a:Addr} {h':Heap},(∃ o,s.heap.get? a=some o /\ H a=none)->Heap.SameBut a s.heap h'->HOk X.prog X.w H h':=λ{a h'} ha hs b ob e=>by
  obtain ⟨_,_,hfree⟩:=ha
  refine (I.hok b ob e).stay (λc w' hc q=>(hs.2 c ?_).trans q) (λ_ q=>q) λ_ _ q=>q
  rintro rfl
  rcases hc with rfl | hc
  ·rw [hfree] at e; cases e
  ·rw [hfree] at hc; cases hc
 rcases hx with hk | hk
 ·refine wpAny_storeName_local hk hn (λh' hn' hs=>?_) hcls
  obtain ⟨oL,_,_,hoL,_⟩:=id hn
  refine h _ ⟨I.ok,I.os,I.bare,⟨λb o e n hb hx=>?_,λb o e n hb hx=>?_,I.base.free,λb o e hx=>?_,I.base.tups,I.base.frzs,I.base.tbls⟩,⟨_,hn',λj y v' e1 e2 e3=>?_⟩,λy c e=>?_,I.free,I.freeC,λp hp=>?_,tracked ⟨oL,hoL,I.free⟩ hs,by simpa using I.len⟩ ⟨_,hs,.inl rfl⟩
  ·exact (hs.2 b (Nat.ne_of_lt (Nat.lt_of_lt_of_le (zae e) I.ok.above))).trans (I.base.keep b o e n hb hx)
  ·obtain ⟨sl,e1⟩:=I.base.slot b o e n hb hx
   exact ⟨sl,(hs.2 b (Nat.ne_of_lt (Nat.lt_of_lt_of_le (zae e) I.ok.above))).trans e1⟩
  ·obtain ⟨o',e1⟩:=I.base.there b o e hx
   exact ⟨o',(hs.2 b (Nat.ne_of_lt (Nat.lt_of_lt_of_le (zae e) I.ok.above))).trans e1⟩
  ·by_cases hj:j=i
   ·subst hj
    rw [hi] at e1; cases e1
    rw [List.getElem?_set_self hiσ] at e2
    cases e2
    exact ⟨u,r,.inl ⟨hk,by simp⟩⟩
   ·rw [List.getElem?_set_ne (Ne.symm hj)] at e2
    obtain ⟨u',r',q⟩:=hl j y v' e1 e2 e3
    refine ⟨u',r',?_⟩
    rcases q with ⟨k,e⟩ | ⟨k,c,e,z⟩
    ·refine .inl ⟨k,?_⟩
     have:y ≠ x:=λe=>hj (We hN e1 (e ▸ hi))
     simp [this,e]
    ·exact .inr ⟨k,c,e,z.sameBut hs (cne y c e)⟩
  ·obtain ⟨w',z⟩:=I.cell y c e
   exact ⟨w',z.sameBut hs (cne y c e)⟩
  ·obtain ⟨e,n,ne,nf,d⟩:=I.pin p hp
   exact ⟨(hs.2 p.1 ne).trans e,n,ne,nf,d⟩
 ·have hfn:X.fn x=true:=by
   rcases hf with z | z
   ·exact z
   ·rw [z] at hk; cases hk
  obtain ⟨c,hc⟩:=I.ok.has x (.inl hk)
  obtain ⟨w',z⟩:=I.cell x c hc
  refine wpAny_storeName_cell I.ok.kind hk hc z (λh' hc' hs=>?_)
  obtain ⟨oc,hoc,hocd⟩:=id z
  refine h { s with heap:=h' } ⟨I.ok,I.os,I.bare,⟨λb o e n hb hx=>?_,λb o e n hb hx=>?_,I.base.free,λb o e hx=>?_,I.base.tups,I.base.frzs,I.base.tbls⟩,⟨m,hn.sameBut hs (Ne.symm (cne x c hc)),λj y v' e1 e2 e3=>?_⟩,λy c' e=>?_,I.free,I.freeC,λp hp=>?_,tracked ⟨oc,hoc,I.freeC x c hc⟩ hs,by simpa using I.len⟩ ⟨c,hs,.inr hc⟩
  ·exact (hs.2 b (Nat.ne_of_lt (Nat.lt_of_lt_of_le (zae e) (I.ok.cab x c hfn hc)))).trans (I.base.keep b o e n hb hx)
  ·obtain ⟨sl,e1⟩:=I.base.slot b o e n hb hx
   exact ⟨sl,(hs.2 b (Nat.ne_of_lt (Nat.lt_of_lt_of_le (zae e) (I.ok.cab x c hfn hc)))).trans e1⟩
  ·obtain ⟨o',e1⟩:=I.base.there b o e hx
   exact ⟨o',(hs.2 b (Nat.ne_of_lt (Nat.lt_of_lt_of_le (zae e) (I.ok.cab x c hfn hc)))).trans e1⟩
  ·by_cases hj:j=i
   ·subst hj
    rw [hi] at e1; cases e1
    rw [List.getElem?_set_self hiσ] at e2
    cases e2
    exact ⟨u,r,.inr ⟨.inl hk,c,hc,hc'⟩⟩
   ·rw [List.getElem?_set_ne (Ne.symm hj)] at e2
    obtain ⟨u',r',q⟩:=hl j y v' e1 e2 e3
    refine ⟨u',r',?_⟩
    rcases q with q | ⟨k,c',e,z'⟩
    ·exact .inl q
    ·refine .inr ⟨k,c',e,z'.sameBut hs ?_⟩
     rintro rfl
     exact hj (We hN e1 (I.ok.inj _ _ _ e hc ▸ hi))
  ·by_cases hcc:c'=c
   ·subst hcc; exact ⟨_,hc'⟩
   ·obtain ⟨w2,z2⟩:=I.cell y c' e
    exact ⟨w2,z2.sameBut hs hcc⟩
  ·obtain ⟨e,n,ne,nf,d⟩:=I.pin p hp
   refine ⟨(hs.2 p.1 ?_).trans e,n,ne,nf,d⟩
   intro q
   rw [q,hoc] at e
   have q':oc=p.2:=Option.some.inj e
   exact d w' (by rw [<- q']; exact hocd)
def ra {M:Model} {A:Around} {E:Value->Shared->Prop} {i:Nat} {x:Str} {v:V} {u:Value} {Q:Unit->Shared->Prop} (I:Inv X pn σ H s) (hN:X.N.Nodup) (hi:X.N[i]?=some x) (hx:Loc X.env.scope x) (r:RelV v u)
  (h:∀ s',Inv X pn (σ.set i (some v)) H s'->Q () s') (hf:X.fn x=true \/ X.env.scope.names.lookup x=some .local:=by first | exact .inl rfl | exact .inr rfl | assumption):wpAny M A (storeName X.env x u) Q E s :=
 dw I hN hi hx r (λs' I' _=>h s' I') hf
def Inv.call' {s':Shared} {ch:List Addr} (I:Inv X pn σ H s) (ho:s'.os=s.os) (u:Un (frs X.stack) ch H H' s.heap s'.heap) (hok:HOk X.prog X.w H' s'.heap) (hg:AllBare s'.gens)
  (hch:∀ b ∈ ch,(b ∈ X.ex \/ X.s₀.heap.objs.size <= b) /\ b ≠ X.env.locals /\ (∀ x c,X.env.cells.lookup x=some c->c ≠ b) /\ ∀ p ∈ X.pn ++ pn,p.1 ≠ b):Inv X pn σ H' s':=by
 obtain ⟨h',g',d',t',o'⟩:=s'
 have e:o'=s.os:=ho
 subst e
 exact I.call (g':=g') (t':=t') (d':=d') u hok hg hch
end
abbrev XK:=Value->Option Addr->Hp->Prop
abbrev St:=List (Option V)
abbrev VK:=V->Hp->Prop
abbrev TE:=St->Hp->VK->Prop
abbrev TT:=St->Hp->(Bool->Hp->Prop)->Prop
abbrev TA:=St->Hp->(List V->Hp->Prop)->Prop
structure Ends where
 nx:St->Hp->Prop
 rt:VK
 bk:St->Hp->Prop:=λ_ _=>False
 ct:St->Hp->Prop:=λ_ _=>False
abbrev TS:=Ends->St->Hp->Prop
def EP (X:Cx) (pn:List (Addr × Obj)) (σ:St) (Q:VK) (u:Value) (s':Shared):Prop:=∃ v H',Inv X pn σ H' s' /\ RelV v u /\ Q v H'
def TP (X:Cx) (pn:List (Addr × Obj)) (σ:St) (Q:Bool->Hp->Prop) (b:Bool) (s':Shared):Prop:=∃ H',Inv X pn σ H' s' /\ Q b H'
def AP (X:Cx) (pn:List (Addr × Obj)) (σ:St) (Q:List V->Hp->Prop) (us:List Value) (s':Shared):Prop:=∃ vs H',Inv X pn σ H' s' /\ Vals vs us /\ Q vs H'
def SP (X:Cx) (pn:List (Addr × Obj)) (D:Ends) (f:Flow) (s':Shared):Prop :=
 match f with
 | .next=>∃ σ' H',Inv X pn σ' H' s' /\ D.nx σ' H'
 | .brk=>∃ σ' H',Inv X pn σ' H' s' /\ D.bk σ' H'
 | .cont=>∃ σ' H',Inv X pn σ' H' s' /\ D.ct σ' H'
 | .ret u=>∃ v σ' H',Inv X pn σ' H' s' /\ RelV v u /\ D.rt v H'
def PE (X:Cx) (e:Expr) (t:TE):Prop :=
 ∀ (pn:List (Addr × Obj)) (s:Shared) (σ:St) (H:Hp) (Q:VK),Inv X pn σ H s->t σ H Q->wpAny (model X.prog X.w) X.A (eval e X.env) (EP X pn σ Q) X.xe s
def PT (X:Cx) (e:Expr) (t:TT):Prop :=
 ∀ (pn:List (Addr × Obj)) (s:Shared) (σ:St) (H:Hp) (Q:Bool->Hp->Prop),Inv X pn σ H s->t σ H Q->wpAny (model X.prog X.w) X.A (isTrue e X.env (eval e X.env)) (TP X pn σ Q) X.xe s
def PW (X:Cx) (e:Expr) (t:TT):Prop :=
 ∀ (whole:Sem Value) (pn:List (Addr × Obj)) (s:Shared) (σ:St) (H:Hp) (Q:Bool->Hp->Prop),Inv X pn σ H s->t σ H Q->wpAny (model X.prog X.w) X.A (isTrue e X.env whole) (TP X pn σ Q) X.xe s
def PW.pt {X:Cx} {e:Expr} {t:TT} (h:PW X e t):PT X e t:=h _
def PA (X:Cx) (es:List Expr) (t:TA):Prop :=
 ∀ (pos:Pos) (pn:List (Addr × Obj)) (s:Shared) (σ:St) (H:Hp) (Q:List V->Hp->Prop),Inv X pn σ H s->t σ H Q->wpAny (model X.prog X.w) X.A (spliced (backTo pos (starEach es X.env))) (AP X pn σ Q) X.xe s
def PS (X:Cx) (st:Stmt) (t:TS):Prop :=
 ∀ (pn:List (Addr × Obj)) (s:Shared) (σ:St) (H:Hp) (D:Ends),Inv X pn σ H s->t D σ H->wpAny (model X.prog X.w) X.A (exec st X.env) (SP X pn D) X.xe s
def PSs (X:Cx) (st:List Stmt) (t:TS):Prop :=
 ∀ (pn:List (Addr × Obj)) (s:Shared) (σ:St) (H:Hp) (D:Ends),Inv X pn σ H s->t D σ H->wpAny (model X.prog X.w) X.A (execs st X.env) (SP X pn D) X.xe s
def thn {α:Type} {t:Sem α} {Q Q':α->Shared->Prop} {M:Model} {A:Around} {E:Value->Shared->Prop} {s:Shared} (h:wpAny M A t Q E s) (hQ:∀ a s,Q a s->Q' a s):wpAny M A t Q' E s:=wpAny_mono h hQ λ_ _ x=>x
section
variable {X:Cx}
def tVar (i:Nat):TE:=λσ H Q=>∃ v,σ[i]?=some (some v) /\ Q v H
def tC (v:V):TE:=λ_ H Q=>Q v H
def wa {i:Nat} {x:Str} {pos:Pos} (hN:X.N[i]?=some x) (hv:Vis X.env.scope x) (hd:(x == ("__debug__" : Str))=false:=by decide) (hcd:(x == ("__classdict__" : Str))=false:=by decide):PE X (.Name x pos) (tVar i):=by
 intro pn s σ H Q I h
 obtain ⟨v,e,h⟩:=h
 obtain ⟨m,hn,hl⟩:=I.loc
 obtain ⟨u,r,l⟩:=hl i x v hN e hv
 have fin:EP X pn σ Q u s:=⟨v,H,I,r,h⟩
 rcases l with ⟨hk,hm⟩ | ⟨hk,c,hc,hcell⟩
 ·exact wpAny_Name (wpAny_loadName_local I.ok.kind hk hn hm fin) hd
 ·rcases hk with hk | hk
  ·exact wpAny_Name (wpAny_loadName_cell I.ok.kind hk hc hcell fin) hd
  ·exact wpAny_Name (wpAny_loadName_free I.ok.kind hk hc hcell fin hcd) hd
def Gx {i j pos}:PE X (.Constant (.int i) j pos) (tC (.int i)):=λ_ _ _ H _ I h=>wpAny_Constant_int ⟨.int i,H,I.tok _,⟨_,rfl⟩,h⟩
def De {b j pos}:PE X (.Constant (.bool b) j pos) (tC (.bl b)):=λ_ _ _ H _ I h=>Constant_bool ⟨.bl b,H,I,rfl,h⟩
def Gl (X:Cx) (x:Str):Prop:=X.env.kindOf x=some .globalImplicit
def Kn {E:Value->Shared->Prop} {pn:List (Addr × Obj)} {s:Shared} {σ:St} {H:Hp} {x:Str} {u:Value} {pos:Pos} {Q:Value->Shared->Prop} (I:Inv X pn σ H s) (hg:Gl X x) (hm:X.mg x=some u) (h:Q u s)
  (hd:(x == ("__debug__" : Str))=false:=by decide):wpAny (model X.prog X.w) X.A (eval (.Name x pos) X.env) Q E s :=
 Calls.Name_function_global I.ok.kind hg (Calls.loadGlobal_global (by rw [I.ok.glob]; exact I.mod.glob.keeps I.bk) hm h) hd
def ua {E:Value->Shared->Prop} {pn:List (Addr × Obj)} {s:Shared} {σ:St} {H:Hp} {x:Str} {u:Value} {pos:Pos} {Q:Value->Shared->Prop} (I:Inv X pn σ H s) (hg:Gl X x) (hm:X.mg x=none) (hv:bootBuiltins x=some u) (h:Q u s)
  (hn:x ≠ "__name__":=by decide) (hd:(x == ("__debug__" : Str))=false:=by decide):wpAny (model X.prog X.w) X.A (eval (.Name x pos) X.env) Q E s:=by
 obtain ⟨mb,h1,h2⟩:=I.mod.blt
 exact Calls.Name_function_global I.ok.kind hg (Calls.loadGlobal_builtin (by rw [I.ok.glob]; exact I.mod.glob.keeps I.bk) hm (by rw [I.ok.blt]; exact h1.keeps I.bk) ((h2 x hn).trans hv) h) hd
def K8 {x:Str} {v:V} {u:Value} {pos:Pos} (hg:Gl X x) (hm:X.mg x=none) (hv:bootBuiltins x=some u) (r:RelV v u) (hn:x ≠ "__name__":=by decide) (hd:(x == ("__debug__" : Str))=false:=by decide):PE X (.Name x pos) (tC v) :=
 λ_ _ _ H _ I h=>ua I hg hm hv ⟨v,H,I,r,h⟩ hn hd
variable {a b:Expr} {ta tb:TE} {pos:Pos}
variable {tA tB':TT} {rest:List Expr}
def tAnd (t u:TT):TT:=λσ H Q=>t σ H λc H1=>if c=true then u σ H1 Q else Q false H1
def tOr (t u:TT):TT:=λσ H Q=>t σ H λc H1=>if c=true then Q true H1 else u σ H1 Q
def tNot (t:TT):TT:=λσ H Q=>t σ H λc H1=>Q (!c) H1
def Lo (ha:PT X a tA):PW X (.BoolOp .And [a] pos) tA:=by
 intro wh pn s σ H Q I h
 refine isTrue_and (thn (ha pn s σ H Q I h) λc s1 e=>?_)
 cases c with
 | true=>exact isTrue_and_nil e
 | false=>exact e
def Ge (ha:PT X a tA):PW X (.BoolOp .Or [a] pos) tA:=by
 intro wh pn s σ H Q I h
 refine isTrue_or (thn (ha pn s σ H Q I h) λc s1 e=>?_)
 cases c with
 | false=>exact isTrue_or_nil e
 | true=>exact e
def Gf (ha:PT X a tA) (hb:PW X (.BoolOp .And (b :: rest) pos) tB'):PW X (.BoolOp .And (a :: b :: rest) pos) (tAnd tA tB'):=by
 intro wh pn s σ H Q I h
 refine isTrue_and (thn (ha pn s σ H _ I h) λc s1 ⟨H1,I1,q1⟩=>?_)
 cases c with
 | true=>exact hb wh pn s1 σ H1 Q I1 q1
 | false=>exact ⟨H1,I1,q1⟩
def D9 (ha:PT X a tA) (hb:PW X (.BoolOp .Or (b :: rest) pos) tB'):PW X (.BoolOp .Or (a :: b :: rest) pos) (tOr tA tB'):=by
 intro wh pn s σ H Q I h
 refine isTrue_or (thn (ha pn s σ H _ I h) λc s1 ⟨H1,I1,q1⟩=>?_)
 cases c with
 | true=>exact ⟨H1,I1,q1⟩
 | false=>exact hb wh pn s1 σ H1 Q I1 q1
def Gi (ha:PT X a tA):PT X (.UnaryOp .Not a pos) (tNot tA):=by
 intro pn s σ H Q I h
 exact isTrue_not (ha pn s σ H (λc H1=>Q (!c) H1) I h)
def D3 (ta tb:TE):TE:=λσ H Q=>ta σ H λx H1=>∃ c,x=.bl c /\ if c=true then tb σ H1 Q else Q (.bl false) H1
def Ez (ta:TE):TE:=λσ H Q=>ta σ H λx H1=>∃ c,x=.bl c /\ Q (.bl (!c)) H1
def Gu {op} {t:TE} (h:PE X a t):PE X (.BoolOp op [a] pos) t:=λpn s σ H Q I hw=>BoolOp_one (h pn s σ H Q I hw)
def Gy (ha:PE X a ta) (hb:PE X (.BoolOp .And (b :: rest) pos) tb):PE X (.BoolOp .And (a :: b :: rest) pos) (D3 ta tb):=by
 intro pn s σ H Q I h
 refine BoolOp_and (thn (ha pn s σ H _ I h) λv s1 ⟨x,H1,I1,r1,q1⟩=>?_)
 obtain ⟨c,rfl,q1⟩:=q1
 cases r1
 refine wpAny_truthy_bool ?_
 cases c with
 | true=>exact hb pn s1 σ H1 Q I1 q1
 | false=>exact ⟨.bl false,H1,I1,rfl,q1⟩
def Gv (ha:PE X a ta):PE X (.UnaryOp .Not a pos) (Ez ta):=by
 intro pn s σ H Q I h
 refine UnaryOp_ (thn (ha pn s σ H _ I h) λv s1 ⟨x,H1,I1,r1,q1⟩=>?_)
 obtain ⟨c,rfl,q1⟩:=q1
 cases r1
 exact not_of (wpAny_truthy_bool ⟨.bl (!c),H1,I1,rfl,q1⟩)
end
def SqL (K:W.Frag) (H:Hp) (a:Addr) (xs:List V):Prop :=
 Rd H a (.lst xs) \/
  ∃ (o:Obj) (its:Array Value) (n:Nat),K.lookup a=some o /\ o.cls=.type "list" /\ o.dict=none /\ o.data=.seq its n /\ its.size <= sizeLine /\ Vals xs its.toList
def SqT (K:W.Frag) (H:Hp) (a:Addr) (xs:List V):Prop :=
 Rd H a (.tup xs) \/
  ∃ (o:Obj) (its:Array Value) (n:Nat),K.lookup a=some o /\ o.cls=.type "tuple" /\ o.data=.seq its n /\ its.size <= sizeLine /\ Vals xs its.toList
def absV:Value->Option V
 | .none=>some .non
 | .bool b=>some (.bl b)
 | .int i _=>some (.int i)
 | .str x _=>some (.str x)
 | .bytes b _=>some (.byt b)
 | .float b _=>some (.flt b)
 | .ref a=>some (.ref a)
 | .type n=>some (.ty n)
 | _=>none
def RelV.abs {x:V} {u:Value} (r:RelV x u):absV u=some x:=by
 cases x with
 | non=>cases r; rfl
 | bl _=>cases r; rfl
 | int _=>obtain ⟨t,rfl⟩:=r; rfl
 | str _=>obtain ⟨t,rfl⟩:=r; rfl
 | byt _=>obtain ⟨t,rfl⟩:=r; rfl
 | flt _=>obtain ⟨t,rfl⟩:=r; rfl
 | ref _=>cases r; rfl
 | ty _=>cases r; rfl
def RelV.inj {x y:V} {u:Value} (r:RelV x u) (q:RelV y u):x=y:=Option.some.inj (r.abs.symm.trans q.abs)
def Vals.inj:∀ {xs ys:List V} {us:List Value},Vals xs us->Vals ys us->xs=ys
 | _,_,_,.nil,.nil=>rfl
 | _,_,_,.cons r t,.cons r' t'=>by rw [r.inj r',Vals.inj t t']
section
variable {X:Cx} {pn:List (Addr × Obj)} {σ:St} {H:Hp} {s:Shared} {a:Addr} {xs ys:List V}
def SqL.of {K:W.Frag} (h:H a=some (.lst xs)):SqL K H a xs:=.inl (.inl h)
def SqT.of {K:W.Frag} (h:H a=some (.tup xs)):SqT K H a xs:=.inl (.inl h)
def Inv.list (I:Inv X pn σ H s) (h:SqL X.K H a xs):∃ its:List Value,Vals xs its /\ PlainL s.heap a its.toArray /\ xs.length <= sizeLine:=by
 rcases h with h | ⟨o,its,n,hk,hc,hd,hs,hz,r⟩
 ·obtain ⟨z,its,n,r,e⟩:=h.ok I.hok
  exact ⟨its,r,⟨_,n,e,rfl,rfl,rfl⟩,z⟩
 ·refine ⟨its.toList,r,⟨o,n,I.kIn a o hk,hc,hd,by simpa using hs⟩,?_⟩
  have e:=r.length
  simp only [Array.length_toList] at e
  omega
def Inv.tuple (I:Inv X pn σ H s) (h:SqT X.K H a xs):∃ its:List Value,Vals xs its /\ IsTup s.heap a its.toArray /\ xs.length <= sizeLine:=by
 rcases h with h | ⟨o,its,n,hk,hc,hs,hz,r⟩
 ·obtain ⟨z,its,r,p⟩:=h.ok I.hok
  exact ⟨its,r,p.1,z⟩
 ·refine ⟨its.toList,r,⟨o,I.kIn a o hk,hc,n,by simpa using hs⟩,?_⟩
  have e:=r.length
  simp only [Array.length_toList] at e
  omega
def Inv.list_inj (I:Inv X pn σ H s) (h:SqL X.K H a xs) (h':SqL X.K H a ys):xs=ys:=by
 obtain ⟨its,r,⟨o,n,e,_,_,d⟩,_⟩:=I.list h
 obtain ⟨its',r',⟨o',n',e',_,_,d'⟩,_⟩:=I.list h'
 rw [e] at e'; cases e'
 rw [d] at d'
 injection d' with d1 _
 have:its=its':=by simpa using congrArg Array.toList d1
 subst this
 exact r.inj r'
def Inv.tuple_inj (I:Inv X pn σ H s) (h:SqT X.K H a xs) (h':SqT X.K H a ys):xs=ys:=by
 obtain ⟨its,r,⟨o,e,_,n,d⟩,_⟩:=I.tuple h
 obtain ⟨its',r',⟨o',e',_,n',d'⟩,_⟩:=I.tuple h'
 rw [e] at e'; cases e'
 rw [d] at d'
 injection d' with d1 _
 have:its=its':=by simpa using congrArg Array.toList d1
 subst this
 exact r.inj r'
end
abbrev Cx.wish (X:Cx) (E:Value->Shared->Prop):Cx:={ X with xe:=E }
abbrev Cx.nox (X:Cx):Cx:=X.wish λ_ _=>False
def Cx.Ok.wish {X:Cx} (ok:X.Ok) (E:Value->Shared->Prop):(X.wish E).Ok :=
 ⟨ok.mod,ok.kind,ok.glob,ok.blt,ok.above,ok.inj,ok.has,ok.cab,ok.hd,ok.frames,ok.stk,ok.exf,ok.bs,ok.bsz,ok.noex,ok.exfs,ok.funs,ok.frf⟩
def Cx.Ok.unwish {X:Cx} {E:Value->Shared->Prop} (ok:(X.wish E).Ok):X.Ok :=
 ⟨ok.mod,ok.kind,ok.glob,ok.blt,ok.above,ok.inj,ok.has,ok.cab,ok.hd,ok.frames,ok.stk,ok.exf,ok.bs,ok.bsz,ok.noex,ok.exfs,ok.funs,ok.frf⟩
section
variable {X:Cx} {pn:List (Addr × Obj)} {σ:St} {H:Hp} {s:Shared} {E:Value->Shared->Prop}
def Inv.wish (I:Inv X pn σ H s) (E:Value->Shared->Prop):Inv (X.wish E) pn σ H s:=⟨I.ok.wish E,I.os,I.bare,I.base,I.loc,I.cell,I.free,I.freeC,I.pin,I.hok,I.len⟩
def Inv.unwish (I:Inv (X.wish E) pn σ H s):Inv X pn σ H s:=⟨I.ok.unwish,I.os,I.bare,I.base,I.loc,I.cell,I.free,I.freeC,I.pin,I.hok,I.len⟩
def SP.unwish {D:Ends} {f:Flow} {s':Shared} (h:SP (X.wish E) pn D f s'):SP X pn D f s':=by
 cases f with
 | next=>obtain ⟨σ',H',I,q⟩:=h; exact ⟨σ',H',I.unwish,q⟩
 | brk=>obtain ⟨σ',H',I,q⟩:=h; exact ⟨σ',H',I.unwish,q⟩
 | cont=>obtain ⟨σ',H',I,q⟩:=h; exact ⟨σ',H',I.unwish,q⟩
 | ret u=>obtain ⟨v,σ',H',I,r,q⟩:=h; exact ⟨v,σ',H',I.unwish,r,q⟩
def PSs.nox {st:List Stmt} {t:TS} (h:PSs X.nox st t):PSs X st t:=λpn s σ H D I hw =>
 wpAny_mono (h pn s σ H D (I.wish _) hw) (λ_ _ q=>q.unwish) λ_ _ z=>False.elim z
end
section
variable {X:Cx} {st:Stmt} {rest:List Stmt} {t u:TS} {e:Expr} {te:TE} {pos:Pos}
def D1:TS:=λD σ H=>D.nx σ H
def tSeq (t u:TS):TS:=λD σ H=>t { D with nx:=u D } σ H
def Tb:PSs X [] D1:=λ_ _ σ H _ I h=>wpAny_execs_nil ⟨σ,H,I,h⟩
def rg (h1:PS X st t) (h2:PSs X rest u):PSs X (st :: rest) (tSeq t u):=by
 intro pn s σ H D I h
 refine wpAny_execs_cons (thn (h1 pn s σ H { D with nx:=u D } I h) λf s1 q=>?_)
 cases f with
 | next =>
  obtain ⟨σ',H',I',q⟩:=q
  exact h2 pn s1 σ' H' D I' q
 | ret v=>exact q
 | brk=>exact q
 | cont=>exact q
def qh (h1:PS X st t):PSs X [st] t:=by
 intro pn s σ H D I h
 refine wpAny_execs_cons (thn (h1 pn s σ H D I h) λf s1 q=>?_)
 cases f with
 | next=>exact wpAny_execs_nil q
 | ret v=>exact q
 | brk=>exact q
 | cont=>exact q
def Inv.quiet {pn:List (Addr × Obj)} {σ:St} {H:Hp} {s:Shared} (I:Inv X pn σ H s):interactive X.env=false:=by simp [interactive,I.ok.kind]
def Qp (te:TE):TS:=λD σ H=>te σ H λ_ H1=>D.nx σ H1
def gf (he:PE X e te) (hs:swapsWith e none pos.line X.env=pure false:=by rfl):PS X (.Expr e pos) (Qp te):=by
 intro pn s σ H D I h
 exact wpAny_Expr_any (thn (he pn s σ H _ I h) λv s1 ⟨x,H1,I1,r1,q1⟩=>⟨σ,H1,I1,q1⟩) I.quiet hs
def tRet (te:TE):TS:=λD σ H=>te σ H D.rt
def Nl (he:PE X e te):PS X (.Return (some e) pos) (tRet te):=by
 intro pn s σ H D I h
 exact wpAny_Return_some (thn (he pn s σ H _ I h) λv s1 ⟨x,H1,I1,r1,q1⟩=>⟨x,σ,H1,I1,r1,q1⟩)
def tIfS (c:TT) (t u:TS):TS:=λD σ H=>c σ H λb H1=>if b=true then t D σ H1 else u D σ H1
def Gk {c:Expr} {a b:List Stmt} {tc:TT} (hc:PT X c tc) (ha:PSs X a t) (hb:PSs X b u):PS X (.If c a b pos) (tIfS tc t u):=by
 intro pn s σ H D I h
 refine wpAny_If (thn (hc pn s σ H _ I h) λd s1 ⟨H1,I1,q1⟩=>?_)
 cases d with
 | true=>exact ha pn s1 σ H1 D I1 q1
 | false=>exact hb pn s1 σ H1 D I1 q1
def Hh:TS:=λ_ _ _=>False
def Pa:PS X st Hh:=λ_ _ _ _ _ _ h=>h.elim
end
abbrev TG:=V->St->Hp->(St->Hp->Prop)->Prop
abbrev TGs:=List V->St->Hp->(St->Hp->Prop)->Prop
def PG (X:Cx) (target:Expr) (t:TG):Prop :=
 ∀ (pn:List (Addr × Obj)) (s:Shared) (σ:St) (H:Hp) (v:V) (u:Value) (Q:St->Hp->Prop),Inv X pn σ H s->RelV v u->t v σ H Q ->
  wpAny (model X.prog X.w) X.A (assign target X.env u) (λ_ s'=>∃ σ' H',Inv X pn σ' H' s' /\ Q σ' H') X.xe s
def PGs (X:Cx) (ts:List Expr) (t:TGs):Prop :=
 ∀ (pn:List (Addr × Obj)) (s:Shared) (σ:St) (H:Hp) (vs:List V) (us:List Value) (Q:St->Hp->Prop),Inv X pn σ H s->Vals vs us->t vs σ H Q ->
  wpAny (model X.prog X.w) X.A (assignInOrder ((assignEach ts X.env).map (·.2)) us) (λ_ s'=>∃ σ' H',Inv X pn σ' H' s' /\ Q σ' H') X.xe s
abbrev TSet:=V->V->V->Hp->(Hp->Prop)->Prop
def PSet (X:Cx) (t:TSet):Prop :=
 ∀ (pn:List (Addr × Obj)) (s:Shared) (σ:St) (H:Hp) (o i v:V) (ov iv u:Value) (Q:Hp->Prop),Inv X pn σ H s->RelV o ov->RelV i iv->RelV v u->t o i v H Q ->
  wpAny (model X.prog X.w) X.A (setItem ov iv u) (λ_ s'=>∃ H',Inv X pn σ H' s' /\ Q H') X.xe s
section
variable {X:Cx} {pos:Pos}
def vo (i:Nat):TG:=λv σ H Q=>Q (σ.set i (some v)) H
def zj {i:Nat} {x:Str} (hN:X.N.Nodup) (hi:X.N[i]?=some x) (hx:Loc X.env.scope x) (hf:X.fn x=true \/ X.env.scope.names.lookup x=some .local:=by first | exact .inl rfl | exact .inr rfl | assumption):PG X (.Name x pos) (vo i):=by
 intro pn s σ H v u Q I r h
 exact wpAny_assign_Name (ra I hN hi hx r (λs' I'=>⟨_,H,I',h⟩) hf)
def gNil:TGs:=λvs σ H Q=>vs=[] /\ Q σ H
def Z5 (t:TG) (u:TGs):TGs:=λvs σ H Q=>∃ v r,vs=v :: r /\ t v σ H λσ' H'=>u r σ' H' Q
def yj:PGs X [] gNil:=by
 intro pn s σ H vs us Q I r h
 obtain ⟨e,h⟩:=h
 subst e
 cases r
 exact assignInOrder_nil ⟨σ,H,I,h⟩
def zl {e:Expr} {es:List Expr} {t:TG} {u:TGs} (h1:PG X e t) (h2:PGs X es u)
  (hs:(assignEach (e :: es) X.env).map (·.2)=assign e X.env :: (assignEach es X.env).map (·.2):=by rfl):PGs X (e :: es) (Z5 t u):=by
 intro pn s σ H vs us Q I r h
 obtain ⟨v,vr,e1,h⟩:=h
 subst e1
 cases r with
 | cons r rr =>
  rw [hs]
  refine assignInOrder_cons (thn (h1 pn s σ H _ _ _ I r h) λ_ s1 ⟨σ1,H1,I1,q1⟩=>?_)
  exact h2 pn s1 σ1 H1 _ _ Q I1 rr q1
def gTup (K:W.Frag) (n:Nat) (t:TGs):TG:=λv σ H Q=>∃ a xs,v=.ref a /\ SqT K H a xs /\ xs.length=n /\ t xs σ H Q
def Gq {es:List Expr} {k:Nat} {t:TGs} {n:Nat} (hc:X.calm=true) (h:PGs X es t)
  (hn:(assignEach es X.env).length=n:=by rfl) (hst:(assignEach es X.env).findIdx? (·.1)=none:=by rfl):PG X (.Tuple es k pos) (gTup X.K n t):=by
 intro pn s σ H v u Q I r hw
 obtain ⟨a,xs,e1,hq,hl,hw⟩:=hw
 subst e1
 cases r
 obtain ⟨its,rv,ht,hz⟩:=I.tuple hq
 refine assign_Tuple_tuple (I.ok.hd hc) ht (by simp [hn,<- hl,rv.length]) hst λh' hx=>?_
 have I1:Inv X pn σ H { s with heap:=h' }:=I.kept (t':=s.toks) λb o e=>hx b o (Nat.ne_of_lt (zae e)) e
 exact h pn _ σ H xs _ Q I1 (by simpa using rv) hw
def gSub (to ti:TE) (t:TSet):TG:=λv σ H Q=>to σ H λo H1=>ti σ H1 λi H2=>t o i v H2 λH3=>Q σ H3
def Gr {o i:Expr} {to ti:TE} {t:TSet} (ho:PE X o to) (hi:PE X i ti) (hs:PSet X t)
  (ha:∀ v,assign (.Subscript o i pos) X.env v=(do
   let ov <- holding [v] (eval o X.env)
   let iv <- holding [v,ov] (eval i X.env)
   standAt pos
   holding [v,ov,iv] (setItem ov iv v)
   release [v,ov,iv] []):=by intro _; rfl):PG X (.Subscript o i pos) (gSub to ti t):=by
 intro pn s σ H v u Q I r h
 rw [ha]
 refine zaa (wpAny_holding (thn (ho pn s σ H _ I h) λov s1 ⟨x,H1,I1,r1,q1⟩=>?_))
 refine zaa (wpAny_holding (thn (hi pn s1 σ H1 _ I1 q1) λiv s2 ⟨y,H2,I2,r2,q2⟩=>?_))
 refine zaa (wpAny_standAt (zaa (wpAny_holding (thn (hs pn s2 σ H2 x y v ov iv u _ I2 r1 r2 r q2) λ_ s3 ⟨H3,I3,q3⟩=>?_))))
 exact wpAny_release ⟨σ,H3,I3,q3⟩
def tAsg (te:TE) (g:TG):TS:=λD σ H=>te σ H λx H1=>g x σ H1 D.nx
def Gm {tg e:Expr} {te:TE} {g:TG} (he:PE X e te) (hg:PG X tg g) (hs:swapsWithSole [tg] e pos.line X.env=pure false:=by rfl) (hw:swappedStores [tg] e X.env=pure none:=by rfl)
  (h1:(assignEach [tg] X.env).map (·.2)=[assign tg X.env]:=by rfl):PS X (.Assign [tg] e pos) (tAsg te g):=by
 intro pn s σ H D I h
 refine wpAny_Assign_stores (thn (he pn s σ H _ I h) λv s1 ⟨x,H1,I1,r1,q1⟩=>?_) hs hw
 rw [h1]
 exact thn (hg pn s1 σ H1 x v _ I1 r1 q1) λ_ s2 q=>q
def Tc {i:Nat} {x:Str} {e:Expr} {te:TE} {pos':Pos} (hN:X.N.Nodup) (hi:X.N[i]?=some x) (hx:Loc X.env.scope x) (he:PE X e te) (hs:swapsWith e (some (.Name x pos')) pos.line X.env=pure false:=by rfl) (hf:X.fn x=true \/ X.env.scope.names.lookup x=some .local:=by first | exact .inl rfl | exact .inr rfl | assumption) :
  PS X (.Assign [.Name x pos'] e pos) (tAsg te (vo i)):=by
 intro pn s σ H D I h
 refine wpAny_Assign_Name (thn (he pn s σ H _ I h) λv s1 ⟨y,H1,I1,r1,q1⟩=>?_) hs
 exact ra I1 hN hi hx r1 (λs2 I2=>⟨_,H1,I2,q1⟩) hf
def tPar (i j:Nat) (ta:TA):TS:=λD σ H=>ta σ H λvs H1=>∃ v w,vs=[v,w] /\ D.nx ((σ.set i (some v)).set j (some w)) H1
def Gj {i j:Nat} {x y:Str} {a b:Expr} {ta:TA} {px py pt:Pos} {kt k2 pt2} (hc:X.calm=true) (hN:X.N.Nodup) (hi:X.N[i]?=some x) (hj:X.N[j]?=some y) (hij:i ≠ j)
  (hx:X.env.scope.names.lookup x=some .local) (hy:X.env.scope.names.lookup y=some .local) (ha:PA X [a,b] ta)
  (hw:swappedStores [.Tuple [.Name x px,.Name y py] kt pt] (.Tuple [a,b] k2 pt2) X.env=pure (some [x,y]))
  (hs:swapsWithSole [.Tuple [.Name x px,.Name y py] kt pt] (.Tuple [a,b] k2 pt2) pos.line X.env=pure false:=by rfl) :
  PS X (.Assign [.Tuple [.Name x px,.Name y py] kt pt] (.Tuple [a,b] k2 pt2) pos) (tPar i j ta):=by
 intro pn s σ H D I h
 rw [exec_Assign_arm]
 refine zaa (wpAny_standAt ?_)
 rw [hs]
 refine zaa (zab ?_)
 rw [if_neg (by decide)]
 refine zaa (Tuple_ (thn (ha _ pn s σ H _ I h) λus s1 ⟨vs,H1,I1,r1,q1⟩=>?_))
 obtain ⟨v,w,e1,q1⟩:=q1
 subst e1
 obtain ⟨u1,u2,rfl,rv,rw'⟩:∃ u1 u2,us=[u1,u2] /\ RelV v u1 /\ RelV w u2:=by
  cases r1 with
  | cons p q =>
   cases q with
   | cons p' q' =>
    cases q'
    exact ⟨_,_,rfl,p,p'⟩
 refine wpAny_newObj_type ?_ (by show 2 <= sizeLine; decide)
 have I2:Inv X pn σ H1 { s1 with heap:=s1.heap.push { cls:=.type "tuple", data:=.seq [u1,u2].toArray } }:=I1.kept (t':=s1.toks) λb o e=>zac _ e
 rw [hw]
 refine zaa (zab ?_)
 show wpAny (model X.prog X.w) X.A (do rule "assign.swapped-stores"; let items <- unpackItems (.ref s1.heap.objs.size) 2 none; assignInOrder [λv=>bindName X.env y v,λv=>bindName X.env x v] items.reverse; pure Flow.next) _ _ _
 refine zaa (wpAny_rule (zaa (unpackItems_tuple (items:=#[u1,u2]) (I.ok.hd hc) (IsTup.new s1.heap _) λh' hx'=>?_)))
 have I3:=I2.kept (h':=h') (t':=s1.toks) λb o e=>hx' b o (Nat.ne_of_lt (zae e)) e
 show wpAny _ _ (assignInOrder [λv=>bindName X.env y v,λv=>bindName X.env x v] [u2,u1] >>= λ_=>pure Flow.next) _ _ _
 refine zaa (assignInOrder_cons (wpAny_bindName (ra I3 hN hj (.inl hy) rw' (λs2 I4=>?_) (.inr hy))))
 refine assignInOrder_cons (wpAny_bindName (ra I4 hN hi (.inl hx) rv (λs3 I5=>assignInOrder_nil (zab ?_)) (.inr hx)))
 rw [List.set_comm _ _ (Ne.symm hij)] at I5
 exact ⟨_,H1,I5,q1⟩
def He (c:TT) (tb:TS):TS:=λD σ H=>∃ W:Nat->St->Hp->Prop,(∃ m,W m σ H) /\ ∀ m σ H,W m σ H ->
 c σ H λb H1=>if b=true then ∃ N:St->Hp->Prop,(∀ σ' H',N σ' H'->∃ m',m' < m /\ W m' σ' H') /\ tb { D with nx:=N,ct:=N,bk:=D.nx } σ H1 else D.nx σ H1
def P9 {c:Expr} {body:List Stmt} {tc:TT} {tb:TS} (hp:PassesOwn (model X.prog X.w) X.A X.env X.xe) (hc:PT X c tc) (hb:PSs X body tb):PS X (.While c body [] pos) (He tc tb):=by
 intro pn s σ H D I h
 obtain ⟨W,⟨m0,w0⟩,turn⟩:=h
 refine wpAny_While (codeAny_whileLoop (λn s'=>∃ σ' H',Inv X pn σ' H' s' /\ W n σ' H') ?_ m0 ⟨σ,H,I,w0⟩)
 rintro n s1 ⟨σ1,H1,I1,w1⟩
 refine wpAny_passesOwn hp (thn (hc pn s1 σ1 H1 _ I1 (turn n σ1 H1 w1)) λb s2 ⟨H2,I2,q2⟩=>?_)
 cases b with
 | true =>
  obtain ⟨N,hN,q2⟩:=q2
  rw [if_pos rfl]
  refine wpAny_passesOwn hp (thn (hb pn s2 σ1 H2 _ I2 q2) λf s3 q3=>?_)
  cases f with
  | next =>
   obtain ⟨σ3,H3,I3,n3⟩:=q3
   obtain ⟨m',hm,w3⟩:=hN σ3 H3 n3
   exact ⟨m',hm,σ3,H3,I3,w3⟩
  | cont =>
   obtain ⟨σ3,H3,I3,n3⟩:=q3
   obtain ⟨m',hm,w3⟩:=hN σ3 H3 n3
   exact ⟨m',hm,σ3,H3,I3,w3⟩
  | brk=>exact q3
  | ret v=>exact q3
 | false =>
  rw [if_neg Bool.false_ne_true]
  exact wpAny_execs_nil ⟨σ1,H2,I2,q2⟩
end
structure It where
 go:Nat->Hp->Prop
 yld:Nat->Hp->V->Hp->Prop
 stop:Nat->Hp->Prop
def FpOk (X:Cx) (pn:List (Addr × Obj)) (H:Hp) (b:Addr):Prop :=
 H b=none /\ b ≠ X.env.locals /\ b ∉ X.fs /\ (b ∈ X.ex \/ X.s₀.heap.objs.size <= b) /\ (∀ x c,X.env.cells.lookup x=some c->c ≠ b) /\ ∀ p ∈ X.pn ++ pn,p.1 ≠ b
def Inv.fpOk {X:Cx} {pn:List (Addr × Obj)} {σ:St} {H H':Hp} {s:Shared} {b:Addr} (I:Inv X pn σ H s) (hb:s.heap.objs.size <= b) (hn:H' b=none):FpOk X pn H' b:=by
 refine ⟨hn,Nat.ne_of_gt (Nat.lt_of_lt_of_le I.lt hb),I.nofs hb,.inr (zak I.sz hb),λx c e z=>?_,λp hp z=>?_⟩
 ·obtain ⟨v,q⟩:=I.cell x c e
  exact absurd (Nat.lt_of_lt_of_le q.lt (by rw [z]; exact hb)) (Nat.lt_irrefl _)
 ·exact absurd (Nat.lt_of_lt_of_le (zae (I.pin p hp).1) (by rw [z]; exact hb)) (Nat.lt_irrefl _)
structure Turn (P:Program) (w:World) (K:W.Frag) (tg:Expr) (J:It) (fp:List Addr) (it:Addr) (tn:Nat->Heap->Prop):Prop where
 mem:it ∈ fp
 obj:∀ i h,tn i h->∀ b ∈ fp,∃ o,h.get? b=some o /\ ∀ v,o.data ≠ .cell v
 keep:∀ i h h',tn i h->(∀ b ∈ fp,∀ o,h.get? b=some o->h'.get? b=some o)->tn i h'
 item:∀ (X:Cx),X.prog=P->X.w=w->X.K=K->X.calm=true->∀ (i:Nat) (pn:List (Addr × Obj)) (s:Shared) (σ:St) (H:Hp) (E:Value->Shared->Prop),Inv X pn σ H s->(∀ b ∈ fp,FpOk X pn H b)->tn i s.heap->J.go i H ->
  wpAny (model P w) X.A (pyNext (.ref it)) (λr s1=>∃ u,r=some u /\
   wpAny (model P w) X.A (letOwnedTupleGo tg (.ref it) u) (λ_ s2=>∃ x H',Inv X pn σ H' s2 /\ RelV x u /\ J.yld i H x H' /\ tn (i + 1) s2.heap /\ ∀ b ∈ fp,H' b=none) E s1) E s
 done:∀ (X:Cx),X.prog=P->X.w=w->X.K=K->X.calm=true->∀ (i:Nat) (pn:List (Addr × Obj)) (s:Shared) (σ:St) (H:Hp) (E:Value->Shared->Prop),Inv X pn σ H s->(∀ b ∈ fp,FpOk X pn H b)->tn i s.heap->J.stop i H ->
  wpAny (model P w) X.A (pyNext (.ref it)) (λr s1=>r=none /\ Inv X pn σ H s1) E s
 self:∀ (A:Around) (i:Nat) (s:Shared) (Q:Value->Shared->Prop) (E:Value->Shared->Prop),tn i s.heap->Q (.ref it) s->wpAny (model P w) A (pyIter (.ref it)) Q E s
abbrev TI:=St->Hp->(It->Hp->Prop)->Prop
def PIE (X:Cx) (pn:List (Addr × Obj)) (σ:St) (tg:Expr) (R:It->Hp->Prop) (itv:Value) (s2:Shared):Prop :=
 ∃ (it:Addr) (fp:List Addr) (tn:Nat->Heap->Prop) (J:It) (H':Hp),itv=.ref it /\ Inv X pn σ H' s2 /\ Turn X.prog X.w X.K tg J fp it tn /\ tn 0 s2.heap /\ (∀ b ∈ fp,FpOk X pn H' b) /\ R J H'
def PI (X:Cx) (tg iter:Expr) (wi:TI):Prop :=
 ∀ (pn:List (Addr × Obj)) (s:Shared) (σ:St) (H:Hp) (R:It->Hp->Prop),Inv X pn σ H s->wi σ H R ->
  wpAny (model X.prog X.w) X.A (eval iter X.env) (λv s1=>wpAny (model X.prog X.w) X.A (pyIter v) (PIE X pn σ tg R) X.xe s1) X.xe s
def Od {M:Model} {A:Around} {E:Value->Shared->Prop} {s:Shared} {tg:Expr} {it:Addr} {u:Value} {o:Obj} {n:String} {vs:Array Value} {Q:Unit->Shared->Prop} (ho:s.heap.get? it=some o) (hc:o.cls=.type n) (hd:o.data=.fields vs)
  (hn:["enumerate", "zip", "dict_itemiterator", "dict_reverseitemiterator", "odict_iterator", "itertools.zip_longest", "itertools.pairwise"].contains n=false) (hQ:Q () s):wpAny M A (letOwnedTupleGo tg (.ref it) u) Q E s:=by
 unfold letOwnedTupleGo
 cases tg <;> first
  | exact zab hQ
  | (cases u <;> first
    | exact zab hQ
    | (refine zaa (wpAny_load ho ?_)
       rw [hc,hd]
       show wpAny M A (if (["enumerate", "zip", "dict_itemiterator", "dict_reverseitemiterator", "odict_iterator", "itertools.zip_longest", "itertools.pairwise"].contains n && vs[0]? == some (rawInt _))=true then _ else _) Q E s
       rw [if_neg (by intro h; rw [hn,Bool.false_and] at h; cases h)]
       exact zab hQ))
def Itl (K:W.Frag) (a:Addr):It :=
 ⟨λi H=>∃ xs x,SqL K H a xs /\ xs[i]?=some x,λi H x H'=>H'=H /\ ∀ xs,SqL K H a xs->xs[i]?=some x,λi H=>∃ xs,SqL K H a xs /\ xs.length <= i⟩
def Itt (K:W.Frag) (a:Addr):It :=
 ⟨λi H=>∃ xs x,SqT K H a xs /\ xs[i]?=some x,λi H x H'=>H'=H /\ ∀ xs,SqT K H a xs->xs[i]?=some x,λi H=>∃ xs,SqT K H a xs /\ xs.length <= i⟩
def Itr (lo:Int) (n:Nat):It:=⟨λi _=>i < n,λi H x H'=>H'=H /\ x=.int (lo + i),λi _=>n <= i⟩
def U7 {P:Program} {w:World} {K:W.Frag} {tg:Expr} (a it:Addr):Turn P w K tg (Itl K a) [it] it (λi h=>h.IsListIter it a i) where
 mem:=by simp
 obj:=λi h st b hb=>by
  have e:b=it:=by simpa using hb
  subst e
  obtain ⟨o,e,c,d⟩:=st
  exact ⟨o,e,λv z=>by rw [d] at z; cases z⟩
 keep:=λi h h' st k=>st.at λo e=>k it (by simp) o e
 item:=by
  intro X hP hw hK hc i pn s σ H E I hf st hg
  subst hP hw hK
  obtain ⟨xs,x,hq,hx⟩:=hg
  obtain ⟨its,rv,p,hz⟩:=I.list hq
  obtain ⟨u,hu,ru⟩:=rv.get hx
  obtain ⟨f0,f1,f2,f3,f4,f5⟩:=hf it (by simp)
  refine wpAny_pyNext_list_item st p.isList (x:=u) (by simpa using hu) λh' st' sb=>?_
  have I1:Inv X pn σ H { s with heap:=h' }:=I.turned (t':=s.toks) (λb o hb e=>(sb.2 b hb).trans e) f0 f1 f3 f4 f5
  obtain ⟨o,e,c,d⟩:=id st'
  exact ⟨u,rfl,Od (s:={ s with heap:=h' }) e c d (by decide) ⟨x,H,I1,ru,⟨rfl,λys hy=>by rw [I.list_inj hy hq]; exact hx⟩,st',λb hb=>(hf b hb).1⟩⟩
 done:=by
  intro X hP hw hK hc i pn s σ H E I hf st hg
  subst hP hw hK
  obtain ⟨xs,hq,hx⟩:=hg
  obtain ⟨its,rv,p,hz⟩:=I.list hq
  obtain ⟨f0,f1,f2,f3,f4,f5⟩:=hf it (by simp)
  have hl:=rv.length
  exact wpAny_pyNext_list_end (I.ok.hd hc) st p.isList (by simp; omega) λh' eb=>⟨rfl,I.turned (t':=s.toks) (λb o hb e=>eb b o hb e) f0 f1 f3 f4 f5⟩
 self:=λ_ _ _ _ _ st h=>wpAny_pyIter_listiter st h
def V2 {P:Program} {w:World} {K:W.Frag} {tg:Expr} (a it:Addr):Turn P w K tg (Itt K a) [it] it (λi h=>h.IsTupleIter it a i) where
 mem:=by simp
 obj:=λi h st b hb=>by
  have e:b=it:=by simpa using hb
  subst e
  obtain ⟨o,e,c,d⟩:=st
  exact ⟨o,e,λv z=>by rw [d] at z; cases z⟩
 keep:=λi h h' st k=>st.at λo e=>k it (by simp) o e
 item:=by
  intro X hP hw hK hc i pn s σ H E I hf st hg
  subst hP hw hK
  obtain ⟨xs,x,hq,hx⟩:=hg
  obtain ⟨its,rv,p,hz⟩:=I.tuple hq
  obtain ⟨u,hu,ru⟩:=rv.get hx
  obtain ⟨f0,f1,f2,f3,f4,f5⟩:=hf it (by simp)
  refine wpAny_pyNext_tuple_item st (show s.heap.IsTuple a its.toArray from p) (x:=u) (by simpa using hu) λh' st' sb=>?_
  have I1:Inv X pn σ H { s with heap:=h' }:=I.turned (t':=s.toks) (λb o hb e=>(sb.2 b hb).trans e) f0 f1 f3 f4 f5
  obtain ⟨o,e,c,d⟩:=id st'
  exact ⟨u,rfl,Od (s:={ s with heap:=h' }) e c d (by decide) ⟨x,H,I1,ru,⟨rfl,λys hy=>by rw [I.tuple_inj hy hq]; exact hx⟩,st',λb hb=>(hf b hb).1⟩⟩
 done:=by
  intro X hP hw hK hc i pn s σ H E I hf st hg
  subst hP hw hK
  obtain ⟨xs,hq,hx⟩:=hg
  obtain ⟨its,rv,p,hz⟩:=I.tuple hq
  obtain ⟨f0,f1,f2,f3,f4,f5⟩:=hf it (by simp)
  have hl:=rv.length
  exact wpAny_pyNext_tuple_end (I.ok.hd hc) st (show s.heap.IsTuple a its.toArray from p) (by simp; omega) λh' eb=>⟨rfl,I.turned (t':=s.toks) (λb o hb e=>eb b o hb e) f0 f1 f3 f4 f5⟩
 self:=λ_ _ _ _ _ st h=>wpAny_pyIter_tupleiter st h
def V3 {P:Program} {w:World} {K:W.Frag} {tg:Expr} (it:Addr) (lo:Int) (n:Nat):Turn P w K tg (Itr lo n) [it] it (λi h=>IsRangeIter h it (lo + (i:Nat) * 1) ((n:Int) - (i:Nat)) 1) where
 mem:=by simp
 obj:=λi h st b hb=>by
  have e:b=it:=by simpa using hb
  subst e
  exact ⟨_,st,λv z=>by
   have z':Data.fields _=Data.cell v:=z
   cases z'⟩
 keep:=λi h h' st k=>k it (by simp) _ st
 item:=by
  intro X hP hw hK hc i pn s σ H E I hf st hg
  subst hP hw hK
  obtain ⟨f0,f1,f2,f3,f4,f5⟩:=hf it (by simp)
  have W:=Walks.range (prog:=X.prog) (w:=X.w) (I.ok.hd hc) it lo 1 n
  refine W.item i s _ _ hg st λv h' tk hv st' kk=>?_
  obtain ⟨t,rfl⟩:=hv
  have I1:Inv X pn σ H { s with heap:=h',toks:=tk }:=I.turned (λb o hb e=>kk b o (by simpa using hb) e) f0 f1 f3 f4 f5
  refine ⟨_,rfl,Od (s:={ s with heap:=h',toks:=tk }) (n:="range_iterator") st' rfl rfl (by decide) ⟨.int (lo + i),H,I1,⟨t,?_⟩,⟨rfl,rfl⟩,st',λb hb=>(hf b hb).1⟩⟩
  rw [Int.mul_one]
 done:=by
  intro X hP hw hK hc i pn s σ H E I hf st hg
  subst hP hw hK
  obtain ⟨f0,f1,f2,f3,f4,f5⟩:=hf it (by simp)
  exact wpAny_pyNext_range_end (I.ok.hd hc) st (by have:n <= i:=hg; omega) λh' eb=>⟨rfl,I.turned (t':=s.toks) (λb o hb e=>eb b o hb e) f0 f1 f3 f4 f5⟩
 self:=λ_ _ _ _ _ st h=>wpAny_pyIter_rangeiter st h
section
variable {X:Cx} {tg:Expr}
def Wa {pn:List (Addr × Obj)} {σ:St} {H:Hp} {s:Shared} {R:It->Hp->Prop} {E:Value->Shared->Prop} {lo hi:Int} {t u v:Tok} {tk:Nat} (I:Inv X pn σ H s) (h1:-(2 ^ 62) <= lo) (h2:lo < 2 ^ 62) (h3:-(2 ^ 62) <= hi) (h4:hi < 2 ^ 62)
  (q:R (Itr lo (hi - lo).toNat) H):wpAny (model X.prog X.w) X.A (pyIter (.ref s.heap.objs.size)) (PIE X pn σ tg R) E { s with heap:=s.heap.push { cls:=.type "range", data:=.fields #[.int lo t,.int hi u,.int 1 v] },toks:=tk }:=by
 refine wpAny_pyIter_range (IsRange.new ..) (small_one h1 h2 h3 h4) ?_
 have I1:Inv X pn σ H { s with heap:=s.heap.push { cls:=.type "range", data:=.fields #[.int lo t,.int hi u,.int 1 v] },toks:=tk }:=I.kept λb o e=>zac _ e
 refine ⟨(s.heap.push { cls:=.type "range", data:=.fields #[.int lo t,.int hi u,.int 1 v] }).objs.size,[(s.heap.push { cls:=.type "range", data:=.fields #[.int lo t,.int hi u,.int 1 v] }).objs.size],_,_,H,rfl,
  I1.kept (t':=tk) λb o e=>zac _ e,V3 _ lo (hi - lo).toNat,?_,λb hb=>?_,q⟩
 ·have e1:lo + ((0:Nat):Int) * 1=lo:=by simp
  have e2:(((hi - lo).toNat:Nat):Int) - ((0:Nat):Int)=Builtin.Range.rangeSize lo hi 1:=by rw [rangeSize_one]; split <;> omega
  show IsRangeIter _ _ (lo + ((0:Nat):Int) * 1) ((((hi - lo).toNat:Nat):Int) - ((0:Nat):Int)) 1
  rw [e1,e2]
  exact zad _ rfl
 ·have e:b=(s.heap.push { cls:=.type "range", data:=.fields #[.int lo t,.int hi u,.int 1 v] }).objs.size:=by simpa using hb
  subst e
  exact I1.fpOk (zaj _) (I1.hok.fresh (zaj _))
def Dm (ta:TA):TI:=λσ H R=>ta σ H λvs H1=>∃ j:Int,vs=[.int j] /\ -(2 ^ 62) <= j /\ j < 2 ^ 62 /\ R (Itr 0 j.toNat) H1
def Dl (ta:TA):TI:=λσ H R=>ta σ H λvs H1=>∃ i j:Int,vs=[.int i,.int j] /\ (-(2 ^ 62) <= i /\ i < 2 ^ 62 /\ -(2 ^ 62) <= j /\ j < 2 ^ 62) /\ R (Itr i (j - i).toNat) H1
def Tj {a:Expr} {ta:TA} {p pos:Pos} (hg:Gl X "range") (hm:X.mg "range" = none) (ha:PA X [a] ta) (hs:starEach [a] X.env=[(false,eval a X.env)]:=by rfl):PI X tg (.Call (.Name "range" p) [a] [] pos) (Dm ta):=by
 intro pn s σ H R I h
 refine Call_ (ua I hg hm boot_range (PyProof.Rows.callWith_type1 (thn (ha pos pn s σ H _ I h) λus s1 ⟨vs,H1,I1,r1,q1⟩=>?_) hs rfl))
 obtain ⟨j,e,q1,q2,q⟩:=q1
 subst e
 cases r1 with
 | cons r rr =>
  cases rr
  obtain ⟨t,rfl⟩:=r
  exact call_range_1 (Wa I1 (by omega) (by omega) q1 q2 (by simpa using q))
def Ti {a b:Expr} {ta:TA} {p pos:Pos} (hg:Gl X "range") (hm:X.mg "range" = none) (ha:PA X [a,b] ta) (hs:starEach [a,b] X.env=[(false,eval a X.env),(false,eval b X.env)]:=by rfl) (hs2:starEach [b] X.env=[(false,eval b X.env)]:=by rfl) :
  PI X tg (.Call (.Name "range" p) [a,b] [] pos) (Dl ta):=by
 intro pn s σ H R I h
 refine Call_ (ua I hg hm boot_range (PyProof.Rows.callWith_type1 (thn (ha pos pn s σ H _ I h) λus s1 ⟨vs,H1,I1,r1,q1⟩=>?_) (by rw [hs,hs2]) (by rw [hs2]; rfl)))
 obtain ⟨i,j,e,⟨q1,q2,q3,q4⟩,q⟩:=q1
 subst e
 cases r1 with
 | cons r rr =>
  cases rr with
  | cons r' rr =>
   cases rr
   obtain ⟨t,rfl⟩:=r
   obtain ⟨t',rfl⟩:=r'
   exact call_range_2 (Wa I1 q1 q2 q3 q4 q)
def tFor (wi:TI) (g:TG) (tb:TS):TS:=λD σ H=>wi σ H λJ H1=>∃ W:Nat->Nat->St->Hp->Prop,(∃ m,W 0 m σ H1) /\ ∀ i m σ H,W i m σ H ->
 (J.stop i H /\ D.nx σ H) \/ (J.go i H /\ ∃ N:St->Hp->Prop,(∀ σ' H',N σ' H'->∃ m',m' < m /\ W (i + 1) m' σ' H') /\ ∀ x H',J.yld i H x H'->g x σ H' λσ2 H2=>tb { D with nx:=N,ct:=N,bk:=D.nx } σ2 H2)
def cv (fp:List Addr) (h:Heap):List (Addr × Obj):=fp.filterMap λb=>(h.get? b).map λo=>(b,o)
def v5 {fp:List Addr} {h:Heap} {b:Addr} {o:Obj} (hb:b ∈ fp) (e:h.get? b=some o):(b,o) ∈ cv fp h:=List.mem_filterMap.mpr ⟨b,hb,by rw [e]; rfl⟩
def Tx {fp:List Addr} {h:Heap} {p:Addr × Obj} (hp:p ∈ cv fp h):p.1 ∈ fp /\ h.get? p.1=some p.2:=by
 obtain ⟨b,hb,e⟩:=List.mem_filterMap.mp hp
 cases q:h.get? b with
 | none=>rw [q] at e; cases e
 | some o =>
  rw [q] at e
  have e':(b,o)=p:=Option.some.inj e
  subst e'
  exact ⟨hb,q⟩
def Inv.pinned {pn:List (Addr × Obj)} {σ:St} {H:Hp} {s:Shared} {fp:List Addr} (I:Inv X pn σ H s) (hf:∀ b ∈ fp,FpOk X pn H b) (ho:∀ b ∈ fp,∃ o,s.heap.get? b=some o /\ ∀ v,o.data ≠ .cell v):Inv X (pn ++ cv fp s.heap) σ H s :=
 I.pins_of λp hp=>(zas.mp hp).elim (λz=>I.pin p (List.mem_append_right _ z)) λz=>by
  obtain ⟨hb,e⟩:=Tx z
  obtain ⟨f0,f1,f2,_⟩:=hf p.1 hb
  obtain ⟨o,e',d⟩:=ho p.1 hb
  rw [e] at e'; cases e'
  exact ⟨e,f0,f1,f2,d⟩
def Inv.unpinned {pn pl:List (Addr × Obj)} {σ:St} {H:Hp} {s:Shared} (I:Inv X (pn ++ pl) σ H s):Inv X pn σ H s:=I.pins_of λp hp=>I.pin p (List.mem_append_right _ (List.mem_append_left _ hp))
def Nm {iter:Expr} {body:List Stmt} {wi:TI} {g:TG} {tb:TS} {pos:Pos} (hp:PassesOwn (model X.prog X.w) X.A X.env X.xe) (hc:X.calm=true) (hi:PI X tg iter wi) (hg:PG X tg g) (hb:PSs X body tb)
  (hs:∀ x,foldedSetIterable iter X.env x=pure x:=by intro _; rfl):PS X (.For tg iter body [] pos) (tFor wi g tb):=by
 intro pn s σ H D I h
 refine wpAny_For (thn (hi pn s σ H _ I h) λv s1 h1=>thn h1 λitv s2 h2=>?_) hs
 obtain ⟨it,fp,tn,J,H2,e,I2,T,st2,f2,W,⟨m0,w0⟩,turn⟩:=h2
 subst e
 have stat:∀ {H':Hp},(∀ b ∈ fp,H' b=none)->∀ b ∈ fp,FpOk X pn H' b:=λhn b hb=>⟨hn b hb,(f2 b hb).2⟩
 refine codeAny_forLoop_any (λn s'=>∃ i σ' H',Inv X pn σ' H' s' /\ tn i s'.heap /\ (∀ b ∈ fp,H' b=none) /\ W i n σ' H') ?_ m0 ⟨0,σ,H2,I2,st2,λb hb=>(f2 b hb).1,w0⟩
 rintro n s3 ⟨i,σ3,H3,I3,st3,fr3,w3⟩
 rcases turn i n σ3 H3 w3 with ⟨stop,qn⟩ | ⟨go,N,hN,step⟩
 ·refine wpAny_passesOwn hp (thn (T.done X rfl rfl rfl hc i pn s3 σ3 H3 X.xe I3 (stat fr3) st3 stop) λr s4 ⟨hr,I4⟩=>?_)
  subst hr
  exact wpAny_execs_nil ⟨σ3,H3,I4,qn⟩
 ·refine wpAny_passesOwn hp (thn (T.item X rfl rfl rfl hc i pn s3 σ3 H3 X.xe I3 (stat fr3) st3 go) λr s4 ⟨u,hr,h4⟩=>?_)
  subst hr
  refine wpAny_passesOwn hp (thn h4 λ_ s5 ⟨x,H5,I5,r5,y5,st5,fr5⟩=>?_)
  have I5':=I5.pinned (stat fr5) (T.obj _ _ st5)
  refine wpAny_passesOwn hp (thn (hg _ s5 σ3 H5 x u _ I5' r5 (step x H5 y5)) λ_ s6 ⟨σ6,H6,I6,q6⟩=>?_)
  refine wpAny_passesOwn hp (thn (hb _ s6 σ6 H6 _ I6 q6) λf s7 q7=>?_)
  have again:∀ {σ7:St} {H7:Hp},Inv X (pn ++ cv fp s5.heap) σ7 H7 s7->N σ7 H7->∃ m,m < n /\ ∃ i σ' H',Inv X pn σ' H' s7 /\ tn i s7.heap /\ (∀ b ∈ fp,H' b=none) /\ W i m σ' H':=λ{σ7 H7} I7 n7=>by
   obtain ⟨m',hm,w7⟩:=hN σ7 H7 n7
   refine ⟨m',hm,i + 1,σ7,H7,I7.unpinned,T.keep _ _ _ st5 λb hb o e=>(I7.pin (b,o) (List.mem_append_right _ (List.mem_append_right _ (v5 hb e)))).1,λb hb=>?_,w7⟩
   obtain ⟨o,e,d⟩:=T.obj _ _ st5 b hb
   exact (I7.pin (b,o) (List.mem_append_right _ (List.mem_append_right _ (v5 hb e)))).2.1
  cases f with
  | next=>obtain ⟨σ7,H7,I7,n7⟩:=q7; exact again I7 n7
  | cont=>obtain ⟨σ7,H7,I7,n7⟩:=q7; exact again I7 n7
  | brk=>obtain ⟨σ7,H7,I7,q7⟩:=q7; exact ⟨σ7,H7,I7.unpinned,q7⟩
  | ret v=>obtain ⟨x7,σ7,H7,I7,r7,q7⟩:=q7; exact ⟨x7,σ7,H7,I7.unpinned,r7,q7⟩
end
abbrev R2:=V->V->Hp->VK->Prop
def OpR (X:Cx) (f:Value->Value->Sem Value) (r:R2):Prop :=
 ∀ (pn:List (Addr × Obj)) (s:Shared) (σ:St) (H:Hp) (x y:V) (v u:Value) (Q:VK),Inv X pn σ H s->RelV x v->RelV y u->r x y H Q ->
  wpAny (model X.prog X.w) X.A (f v u) (EP X pn σ Q) X.xe s
def UnR (X:Cx) (f:Value->Sem Value) (r:V->Hp->VK->Prop):Prop :=
 ∀ (pn:List (Addr × Obj)) (s:Shared) (σ:St) (H:Hp) (x:V) (v:Value) (Q:VK),Inv X pn σ H s->RelV x v->r x H Q ->
  wpAny (model X.prog X.w) X.A (f v) (EP X pn σ Q) X.xe s
def wg (X:Cx) (f:Value) (r:List V->Hp->VK->Prop):Prop :=
 ∀ (pn:List (Addr × Obj)) (s:Shared) (σ:St) (H:Hp) (xs:List V) (us:List Value) (Q:VK),Inv X pn σ H s->Vals xs us->r xs H Q ->
  wpAny (model X.prog X.w) X.A (call f us) (EP X pn σ Q) X.xe s
def TruR (X:Cx) (r:V->Hp->(Bool->Hp->Prop)->Prop):Prop :=
 ∀ (pn:List (Addr × Obj)) (s:Shared) (σ:St) (H:Hp) (x:V) (v:Value) (Q:Bool->Hp->Prop),Inv X pn σ H s->RelV x v->r x H Q ->
  wpAny (model X.prog X.w) X.A (truthy v) (TP X pn σ Q) X.xe s
def tOp (r:R2) (ta tb:TE):TE:=λσ H Q=>ta σ H λx H1=>tb σ H1 λy H2=>r x y H2 Q
def tUn (r:V->Hp->VK->Prop) (ta:TE):TE:=λσ H Q=>ta σ H λx H1=>r x H1 Q
def rI (C:Int->Int->Prop) (g:Int->Int->V):R2:=λx y H Q=>∃ i j,x=.int i /\ y=.int j /\ C i j /\ Q (g i j) H
def rI0 (g:Int->Int->V):R2:=λx y H Q=>∃ i j,x=.int i /\ y=.int j /\ Q (g i j) H
def rU (g:Int->V):V->Hp->VK->Prop:=λx H Q=>∃ i,x=.int i /\ Q (g i) H
section
variable {X:Cx} {a b c:Expr} {ta tb tc:TE} {pos:Pos}
def binT (ha:PE X a ta) (hb:PE X b tb) {pn:List (Addr × Obj)} {s:Shared} {σ:St} {H:Hp} {R:V->V->Hp->Prop} (I:Inv X pn σ H s)
  (h:ta σ H λx H1=>tb σ H1 λy H2=>R x y H2) {Q:Value->Shared->Prop} {f:Value->Value->Sem Value}
  (hf:∀ v u s2 x y H2,Inv X pn σ H2 s2->RelV x v->RelV y u->R x y H2->wpAny (model X.prog X.w) X.A (f v u) Q X.xe s2) :
  wpAny (model X.prog X.w) X.A (eval a X.env) (λv s₁=>wpAny (model X.prog X.w) X.A (eval b X.env) (λu s₂=>wpAny (model X.prog X.w) X.A (f v u) Q X.xe s₂) X.xe s₁) X.xe s:=by
 refine thn (ha pn s σ H _ I h) λv s1 ⟨x,H1,I1,r1,q1⟩=>?_
 refine thn (hb pn s1 σ H1 _ I1 q1) λu s2 ⟨y,H2,I2,r2,q2⟩=>?_
 exact hf v u s2 x y H2 I2 r1 r2 q2
def Gs {op:Operator} {r:R2} (ho:OpR X (binaryOp op) r) (ha:PE X a ta) (hb:PE X b tb):PE X (.BinOp a op b pos) (tOp r ta tb):=by
 intro pn s σ H Q I h
 exact wpAny_BinOp (binT ha hb I h λv u s2 x y H2 I2 rx ry q=>ho pn s2 σ H2 x y v u Q I2 rx ry q)
def Dd {op:UnaryOp} {r:V->Hp->VK->Prop} (ho:UnR X (unaryOp op) r) (ha:PE X a ta):PE X (.UnaryOp op a pos) (tUn r ta):=by
 intro pn s σ H Q I h
 exact UnaryOp_ (thn (ha pn s σ H _ I h) λv s1 ⟨x,H1,I1,r1,q1⟩=>ho pn s1 σ H1 x v Q I1 r1 q1)
def opI {f:Value->Value->Sem Value} {C:Int->Int->Prop} {g:Int->Int->Int}
  (rule:∀ (i j:Int) (t u:Tok) (s:Shared) (Q:Value->Shared->Prop) (E:Value->Shared->Prop),C i j->Q (.int (g i j) s.toks) { s with toks:=s.toks + 1 }->wpAny (model X.prog X.w) X.A (f (.int i t) (.int j u)) Q E s) :
  OpR X f (rI C λi j=>.int (g i j)):=by
 intro pn s σ H x y v u Q I rx ry h
 obtain ⟨i,j,rfl,rfl,hc,q⟩:=h
 obtain ⟨t,rfl⟩:=rx
 obtain ⟨t',rfl⟩:=ry
 exact rule i j t t' s _ _ hc ⟨.int (g i j),H,I.tok _,⟨_,rfl⟩,q⟩
def opI0 {f:Value->Value->Sem Value} {g:Int->Int->Int}
  (rule:∀ (i j:Int) (t u:Tok) (s:Shared) (Q:Value->Shared->Prop) (E:Value->Shared->Prop),Q (.int (g i j) s.toks) { s with toks:=s.toks + 1 }->wpAny (model X.prog X.w) X.A (f (.int i t) (.int j u)) Q E s) :
  OpR X f (rI0 λi j=>.int (g i j)):=by
 intro pn s σ H x y v u Q I rx ry h
 obtain ⟨i,j,rfl,rfl,q⟩:=h
 obtain ⟨t,rfl⟩:=rx
 obtain ⟨t',rfl⟩:=ry
 exact rule i j t t' s _ _ ⟨.int (g i j),H,I.tok _,⟨_,rfl⟩,q⟩
def opB0 {f:Value->Value->Sem Value} {g:Int->Int->Bool}
  (rule:∀ (i j:Int) (t u:Tok) (s:Shared) (Q:Value->Shared->Prop) (E:Value->Shared->Prop),Q (.bool (g i j)) s->wpAny (model X.prog X.w) X.A (f (.int i t) (.int j u)) Q E s) :
  OpR X f (rI0 λi j=>.bl (g i j)):=by
 intro pn s σ H x y v u Q I rx ry h
 obtain ⟨i,j,rfl,rfl,q⟩:=h
 obtain ⟨t,rfl⟩:=rx
 obtain ⟨t',rfl⟩:=ry
 exact rule i j t t' s _ _ ⟨.bl (g i j),H,I,rfl,q⟩
def CPow (i j:Int):Prop:=0 <= j /\ j <= 1000000 /\ i.natAbs < 2 ^ 64
def Fg:OpR X (binaryOp .Add) (rI0 λi j=>.int (i + j)):=opI0 λ_ _ _ _ _ _ _ q=>add_int q
def Fb:OpR X (binaryOp .Sub) (rI0 λi j=>.int (i - j)):=opI0 λ_ _ _ _ _ _ _ q=>sub_int q
def Kb:OpR X (binaryOp .Mod) (rI (λ_ j=>j ≠ 0) λi j=>.int (i.fmod j)):=opI λ_ _ _ _ _ _ _ hc q=>mod_int' hc q
def Fd:OpR X (binaryOp .Pow) (rI CPow λi j=>.int (i ^ j.toNat)):=opI λ_ _ _ _ _ _ _ hc q=>pow_int_small hc.1 hc.2.1 hc.2.2 q
def unI {f:Value->Sem Value} {g:Int->Int}
  (rule:∀ (i:Int) (t:Tok) (s:Shared) (Q:Value->Shared->Prop) (E:Value->Shared->Prop),Q (.int (g i) s.toks) { s with toks:=s.toks + 1 }->wpAny (model X.prog X.w) X.A (f (.int i t)) Q E s) :
  UnR X f (rU λi=>.int (g i)):=by
 intro pn s σ H x v Q I rx h
 obtain ⟨i,rfl,q⟩:=h
 obtain ⟨t,rfl⟩:=rx
 exact rule i t s _ _ ⟨.int (g i),H,I.tok _,⟨_,rfl⟩,q⟩
def Ha:UnR X (unaryOp .USub) (rU λi=>.int (-i)):=unI λ_ _ _ _ _ q=>neg_int q
def Df:OpR X (compareOp .Lt) (rI0 λi j=>.bl (decide (i < j))):=opB0 λ_ _ _ _ _ _ _ q=>lt_int q
def Dg:OpR X (compareOp .Gt) (rI0 λi j=>.bl (decide (j < i))):=opB0 λ_ _ _ _ _ _ _ q=>gt_int q
def Dh:OpR X (compareOp .GtE) (rI0 λi j=>.bl (decide (j <= i))):=opB0 λ_ _ _ _ _ _ _ q=>ge_int q
def OpR.or {f:Value->Value->Sem Value} {r r':R2} (h:OpR X f r) (h':OpR X f r'):OpR X f (λx y H Q=>r x y H Q \/ r' x y H Q):=by
 intro pn s σ H x y v u Q I rx ry q
 rcases q with q | q
 ·exact h pn s σ H x y v u Q I rx ry q
 ·exact h' pn s σ H x y v u Q I rx ry q
def jn (b:Expr) {op:CmpOp} (h:op ≠ .In:=by decide) (h2:op ≠ .NotIn:=by decide):behindInMarks op b=false:=by
 have e1:(op == CmpOp.In)=false:=by cases op <;> first | rfl | exact absurd rfl h
 have e2:(op == CmpOp.NotIn)=false:=by cases op <;> first | rfl | exact absurd rfl h2
 cases b <;> simp [behindInMarks,e1,e2]
def K7 {op:CmpOp} {r:R2} (ho:OpR X (compareOp op) r) (ha:PE X a ta) (hb:PE X b tb) (hm:behindInMarks op b=false):PE X (.Compare a [op] [b] pos) (tOp r ta tb):=by
 intro pn s σ H Q I h
 exact wpAny_Compare1 (binT ha hb I h λv u s2 x y H2 I2 rx ry q=>ho pn s2 σ H2 x y v u Q I2 rx ry q) hm
def Ew (t:TE):TT:=λσ H Q=>t σ H λx H'=>∃ k,x=.bl k /\ Q k H'
def Lr {op:CmpOp} {r:R2} (ho:OpR X (compareOp op) r) (ha:PE X a ta) (hb:PE X b tb) (hm:behindInMarks op b=false):PT X (.Compare a [op] [b] pos) (Ew (tOp r ta tb)):=by
 intro pn s σ H Q I h
 refine wpAny_isTrue_Compare1 (thn (ha pn s σ H _ I h) λv s1 ⟨x,H1,I1,r1,q1⟩=>thn (hb pn s1 σ H1 _ I1 q1) λu s2 ⟨y,H2,I2,r2,q2⟩ =>
  thn (ho pn s2 σ H2 x y v u _ I2 r1 r2 q2) λc s3 ⟨z,H3,I3,r3,k,e,q3⟩=>?_) hm
 subst e
 cases r3
 exact wpAny_truthy_bool ⟨H3,I3,q3⟩
def TruV (K:W.Frag) (x:V) (H:Hp) (k:Bool):Prop :=
 match x with
 | .non=>k=false
 | .bl b=>k=b
 | .int i=>k=(i != 0)
 | .str y=>y.length <= sizeLine /\ k=((y.length:Int) != 0)
 | .byt y=>y.size <= sizeLine /\ k=((y.size:Int) != 0)
 | .ref p=>(∃ xs,SqL K H p xs /\ k=!xs.isEmpty) \/ (∃ xs,SqT K H p xs /\ k=!xs.isEmpty) \/ ∃ kvs,H p=some (.dK kvs) /\ k=!kvs.isEmpty
 | _=>False
def Vn {κ:Type} {kvs:List (κ × V)} {vs:List (κ × Value)} (r:KV kvs vs):(!vs.isEmpty)=!kvs.isEmpty:=by
 cases r <;> rfl
def jp {xs:List V} {its:List Value} (r:Vals xs its):(!its.toArray.isEmpty)=!xs.isEmpty:=by
 cases r <;> simp
def ql:(sizeLine:Nat) < 2 ^ 63:=by rw [sizeLine_eq]; decide
def Hd:TruR X (λx H Q=>∃ k,TruV X.K x H k /\ Q k H):=by
 intro pn s σ H x v Q I rx h
 obtain ⟨k,e,q⟩:=h
 have hl:=ql
 have hs:sizeLine=16777216:=sizeLine_eq
 cases x with
 | non =>
  cases rx
  have e':k=false:=e
  subst e'
  exact truthy_none ⟨H,I,q⟩
 | bl b =>
  cases rx
  have e':k=b:=e
  subst e'
  exact wpAny_truthy_bool ⟨H,I,q⟩
 | int i =>
  obtain ⟨t,rfl⟩:=rx
  have e':k=(i != 0):=e
  subst e'
  exact PySem.P.truthy_int ⟨H,I,q⟩
 | str y =>
  obtain ⟨t,rfl⟩:=rx
  obtain ⟨hy,e'⟩:y.length <= sizeLine /\ k=((y.length:Int) != 0):=e
  subst e'
  exact PySem.P.truthy_str (by omega) ⟨H,I.tok _,q⟩
 | byt y =>
  obtain ⟨t,rfl⟩:=rx
  obtain ⟨hy,e'⟩:y.size <= sizeLine /\ k=((y.size:Int) != 0):=e
  subst e'
  exact W.truthy_bytes (by omega) ⟨H,I.tok _,q⟩
 | ref p =>
  cases rx
  have e':(∃ xs,SqL X.K H p xs /\ k=!xs.isEmpty) \/ (∃ xs,SqT X.K H p xs /\ k=!xs.isEmpty) \/ ∃ kvs,H p=some (.dK kvs) /\ k=!kvs.isEmpty:=e
  rcases e' with ⟨xs,hx,e'⟩ | ⟨xs,hx,e'⟩ | ⟨kvs,hx,e'⟩
  ·subst e'
   obtain ⟨its,r,pl,hz⟩:=I.list hx
   have hlen:=r.length
   exact wpAny_truthy_list pl.isList (by simp only [zap]; omega) ⟨H,I.tok _,by rw [jp r]; exact q⟩
  ·subst e'
   obtain ⟨its,r,pl,hz⟩:=I.tuple hx
   have hlen:=r.length
   exact truthy_tuple pl (by simp only [zap]; omega) ⟨H,I.tok _,by rw [jp r]; exact q⟩
  ·subst e'
   obtain ⟨hz,hS,vs,r,m⟩:kvs.length <= sizeLine /\ (p == sysModules)=false /\ ∃ vs,KV kvs vs /\ s.heap.DictOf (y9 X.prog X.w) p vs:=I.hok p _ hx
   have hlen:kvs.length=vs.length:=Paired.length r
   exact wpAny_truthy_dict hS m (by omega) ⟨H,I.tok _,by rw [Vn r]; exact q⟩
 | _=>exact (show False from e).elim
def P8 (ha:PE X a ta) (he:∀ whole,isTrue a X.env whole=(do let v <- whole; standAt a.pos; holding [v] (truthy v))) :
  PT X a (λσ H Q=>ta σ H λx H'=>∃ k,TruV X.K x H' k /\ Q k H'):=by
 intro pn s σ H Q I h
 exact isTrue_plain (thn (ha pn s σ H _ I h) λv s1 ⟨x,H1,I1,r1,q1⟩=>Hd pn s1 σ H1 x v Q I1 r1 q1) (he _)
def Vd:OpR X (binaryOp .Add) (λx y H Q=>∃ i j,x=.str i /\ y=.str j /\ i.length + j.length <= sizeLine /\ Q (.str (i ++ j)) H):=by
 intro pn s σ H x y v u Q I rx ry h
 obtain ⟨i,j,rfl,rfl,hz,q⟩:=h
 obtain ⟨t,rfl⟩:=rx
 obtain ⟨t',rfl⟩:=ry
 exact add_str (λt' tk=>⟨.str (i ++ j),H,I.tok _,⟨_,rfl⟩,q⟩) hz
def vv {x:V} {us:List Value} (r:Vals [x] us):∃ u,us=[u] /\ RelV x u:=by
 cases r with
 | cons r1 r2=>cases r2; exact ⟨_,rfl,r1⟩
def Mp {x y:V} {us:List Value} (r:Vals [x,y] us):∃ u w',us=[u,w'] /\ RelV x u /\ RelV y w':=by
 cases r with
 | cons r1 r2 =>
  cases r2 with
  | cons r3 r4=>cases r4; exact ⟨_,_,rfl,r1,r3⟩
def N5:wg X (.builtin "abs") (λxs H Q=>∃ i,xs=[.int i] /\ Q (.int (if i < 0 then -i else i)) H):=by
 intro pn s σ H xs us Q I r h
 obtain ⟨i,rfl,q⟩:=h
 obtain ⟨u,rfl,t,rfl⟩:=vv r
 exact call_abs_int λu tk=>⟨.int (if i < 0 then -i else i),H,I.tok _,⟨_,rfl⟩,q⟩
def Q3 (hc:X.calm=true):wg X (.builtin "max") (λxs H Q=>∃ i j,xs=[.int i,.int j] /\ Q (.int (if j > i then j else i)) H):=by
 intro pn s σ H xs us Q I r h
 obtain ⟨i,j,rfl,q⟩:=h
 obtain ⟨u,w',rfl,⟨t,rfl⟩,⟨t',rfl⟩⟩:=Mp r
 refine max_two_ints (I.ok.hd hc) λh' tk k=>⟨_,H,I.kept k,?_,q⟩
 by_cases hj:j > i
 ·rw [if_pos hj,if_pos hj]; exact ⟨_,rfl⟩
 ·rw [if_neg hj,if_neg hj]; exact ⟨_,rfl⟩
def Q4:wg X (.type "int") (λxs H Q=>(∃ i,xs=[.int i] /\ Q (.int i) H) \/ ∃ k,xs=[.bl k] /\ Q (.int (if k then 1 else 0)) H):=by
 intro pn s σ H xs us Q I r h
 rcases h with ⟨i,rfl,q⟩ | ⟨k,rfl,q⟩
 ·obtain ⟨u,rfl,t,rfl⟩:=vv r
  exact call_int_int ⟨.int i,H,I,⟨_,rfl⟩,q⟩
 ·obtain ⟨u,rfl,r1⟩:=vv r
  cases r1
  exact call_int_bool ⟨.int (if k then 1 else 0),H,I.tok _,⟨_,rfl⟩,q⟩
end
structure ObjM (h:Heap) (x dx C:Addr) (mA:Str->Option Value):Prop where
 obj:h.get? x=some (W.instObj C dx)
 ns:h.Ns1 dx mA
 ne:dx ≠ x
def Sd {h:Heap} {dx:Addr} {mA:Str->Option Value} (n:h.Ns1 dx mA):∃ od,h.get? dx=some od /\ ∀ name,W.lookIn name od=some (mA name):=by
 obtain ⟨o,es,ep,ho,hd,hk,_,hm⟩:=n
 refine ⟨o,ho,λname=>?_⟩
 have e:=hm name
 unfold nsFind findBy at e
 rw [<- Array.find?_toList] at e
 unfold W.lookIn
 rw [hd]
 dsimp only
 split
 ·rename_i y q
  rw [q] at e
  exact congrArg some e
 ·rename_i q
  rw [q] at e
  have a:es.toList.any (·.refKey)=false:=by
   rw [List.any_eq_false]
   intro y hy
   obtain ⟨z,t,hkey⟩:=hk y (Array.mem_toList_iff.mp hy)
   simp [DictEntry.refKey,hkey]
  have a':¬ es.toList.any (·.refKey)=true:=by rw [a]; exact Bool.false_ne_true
  rw [if_neg a']
  exact congrArg some e
def ObjM.look {h:Heap} {x dx C:Addr} {mA:Str->Option Value} (I:ObjM h x dx C mA):∃ od,W.InstAt h x (W.instObj C dx) C (some od) /\ ∀ name,W.lookIn name od=some (mA name) :=
 let ⟨od,ho,hl⟩:=Sd I.ns
 ⟨od,⟨I.obj,rfl,rfl,ho⟩,hl⟩
def RelO.some_of {v:V} {o:Option Value} (r:RelO (some v) o):∃ u,o=some u /\ RelV v u:=by
 cases o with
 | none=>exact (show False from r).elim
 | some u=>exact ⟨u,rfl,r⟩
section
variable {P:Program} {w:World} {H H':Hp} {h h':Heap} {a C dx:Addr} {fs fs':List (Str × V)}
def Kv (hok:HOk P w H h) (e:H a=some (.ins C dx fs)):∃ mA,ObjM h a dx C mA /\ (∀ f,RelO (fs.lookup f) (mA f)) /\ PySem.Within mA (fs.map (·.1)) /\ fs.length <= 1000 /\ H dx=some (.own a):=by
 obtain ⟨d,z,ne,ob,mA,n,r,q⟩:=(show yf P w H h a (.ins C dx fs) from hok a _ e)
 exact ⟨mA,⟨ob,n,ne⟩,r,q,z,d⟩
end
structure Cls (K:W.Frag) (C:Addr):Prop where
 pg:W.plainGet K C Str.empty=true
 hd:W.hasDictIn K C=true
 po:W.plainOver K C=true
 sa:W.findIn K (.ref C) "__setattr__" = some (some (.builtin "object.__setattr__"))
def Cls.get {K:W.Frag} {C:Addr} (c:Cls K C) (f:Str):W.plainGet K C f=true:=c.pg
structure Con (K:W.Frag) (C:Addr) (f:Str) (v:V) (u:Value):Prop where
 at_:W.findIn K (.ref C) f=some (some u)
 rel:RelV v u
 get:W.specialIn K u "__get__" = some none
 cp:W.copiedNames.contains f=false
section
variable {X:Cx} {pn:List (Addr × Obj)} {σ:St} {H:Hp} {s:Shared} {A:Around} {E:Value->Shared->Prop} {Q:Value->Shared->Prop} {c:Value} {b:Bool}
inductive TyOf (K:W.Frag) (H:Hp):V->Value->Prop where
 | non:TyOf K H .non (.type "NoneType")
 | bl (x:Bool):TyOf K H (.bl x) (.type "bool")
 | int (i:Int):TyOf K H (.int i) (.type "int")
 | str (x:Str):TyOf K H (.str x) (.type "str")
 | flt (x:UInt64):TyOf K H (.flt x) (.type "float")
 | lst {a:Addr} {xs:List V} (e:H a=some (.lst xs)):TyOf K H (.ref a) (.type "list")
 | frz {a:Addr} {o:Obj} {xs:List V} (e:H a=some (.frz o (.lst xs))):TyOf K H (.ref a) (.type "list")
 | tup {a:Addr} {xs:List V} (e:H a=some (.tup xs)):TyOf K H (.ref a) (.type "tuple")
 | dK {a:Addr} {kvs:List (Key × V)} (e:H a=some (.dK kvs)):TyOf K H (.ref a) (.type "dict")
 | dT {a:Addr} {kvs:List (List Key × V)} (e:H a=some (.dT kvs)):TyOf K H (.ref a) (.type "dict")
 | ins {a C dx:Addr} {fs:List (Str × V)} (e:H a=some (.ins C dx fs)) (cl:Cls K C) (ha:W.findIn K (.ref C) "__class__" = some (some (.builtin "object.__class__")))
   (hn:W.specialIn K (.builtin "object.__class__") "__get__" = some (some (.builtin "getset_descriptor.__get__"))) (htk:W.takesIn K (.builtin "object.__class__")=some true)
   (hm:W.mroIn K C (.type "object")=some true):TyOf K H (.ref a) (.ref C)
def xt {x:V} {u t:Value} (I:Inv X pn σ H s) (rx:RelV x u) (ty:TyOf X.K H x t) (e:W.kitOne X.K t c=some b) (h:∀ tk,Q (.bool b) { s with toks:=tk }) :
  wpAny (model X.prog X.w) A (call (.builtin "isinstance") [u,c]) Q E s:=by
 cases ty with
 | non=>cases (show u=Value.none from rx); exact W.kia_one W.kitx_none I.kIn True.intro e (λz=>nomatch z) h
 | bl y=>cases (show u=Value.bool y from rx); exact W.kia_one W.kitx_bool I.kIn True.intro e (λz=>nomatch z) h
 | int i=>obtain ⟨t,q⟩:=(show ∃ t,u=Value.int i t from rx); cases q; exact W.kia_one W.kitx_int I.kIn True.intro e (λz=>nomatch z) h
 | str y=>obtain ⟨t,q⟩:=(show ∃ t,u=Value.str y t from rx); cases q; exact W.kia_one W.kitx_str I.kIn True.intro e (λz=>nomatch z) h
 | flt y=>obtain ⟨t,q⟩:=(show ∃ t,u=Value.float y t from rx); cases q; exact W.kia_one W.kitx_float I.kIn True.intro e (λz=>nomatch z) h
 | @lst a xs ea =>
  cases (show u=Value.ref a from rx)
  obtain ⟨_,_,n,_,h1⟩:=(show yf X.prog X.w H s.heap a (.lst xs) from I.hok a _ ea)
  exact W.kia_one W.kitx_list I.kIn ⟨_,h1,rfl⟩ e (λz=>nomatch z) h
 | @frz a ob xs ea =>
  cases (show u=Value.ref a from rx)
  obtain ⟨_,_,_,n,_,h1⟩:=(show yf X.prog X.w H s.heap a (.frz ob (.lst xs)) from I.hok a _ ea)
  exact W.kia_one W.kitx_list I.kIn ⟨_,h1,rfl⟩ e (λz=>nomatch z) h
 | @tup a xs ea =>
  cases (show u=Value.ref a from rx)
  obtain ⟨_,_,_,p⟩:=(show yf X.prog X.w H s.heap a (.tup xs) from I.hok a _ ea)
  obtain ⟨o,h1,h2,_⟩:=p.1
  exact W.kia_one W.kitx_tuple I.kIn ⟨o,h1,h2⟩ e (λz=>nomatch z) h
 | @dK a kvs ea =>
  cases (show u=Value.ref a from rx)
  obtain ⟨_,_,vs,_,p⟩:=(show yf X.prog X.w H s.heap a (.dK kvs) from I.hok a _ ea)
  obtain ⟨o,es,ep,h1,h2,_⟩:=p
  exact W.kia_one W.kitx_dict I.kIn ⟨o,h1,h2.1⟩ e (λz=>nomatch z) h
 | @dT a kvs ea =>
  cases (show u=Value.ref a from rx)
  obtain ⟨_,_,xs,_,o,es,ep,h1,h2,_⟩:=(show yf X.prog X.w H s.heap a (.dT kvs) from I.hok a _ ea)
  exact W.kia_one W.kitx_dict I.kIn ⟨o,h1,h2.1⟩ e (λz=>nomatch z) h
 | @ins a C dx fs ea cl ha hn htk hm =>
  cases (show u=Value.ref a from rx)
  obtain ⟨mA,O,_⟩:=Kv I.hok ea
  obtain ⟨od,J,_⟩:=O.look
  exact W.kia_one (W.kitx_own (cl.get _) cl.hd ha hn htk hm) I.kIn J e (λz=>nomatch z) h
end
structure Room (k:Nat) (A:Around):Prop where
 hd:A.handled=none
 dp:A.depth + 3 * k + 5 < recursionLimit
 un:A.units + 16 * k + 200 < cLine
def Room.mono {j k:Nat} {A:Around} (r:Room k A) (h:j <= k):Room j A:=⟨r.hd,by have:=r.dp; omega,by have:=r.un; omega⟩
def Room.deeper {k:Nat} {A:Around} (r:Room (k + 1) A) (env:Env):Room k (A.deeper env) :=
 ⟨r.hd,by have:=r.dp; show A.depth + 1 + 3 * k + 5 < _; omega,by have:=r.un; show A.units + 3 + 16 * k + 200 < _; omega⟩
def Room.depth {k:Nat} {A:Around} (r:Room k A):A.depth < recursionLimit:=by have:=r.dp; omega
def Room.units {k:Nat} {A:Around} (r:Room k A):A.units + 64 < cLine:=by have:=r.un; omega
def tNil:TA:=λ_ H Q=>Q [] H
def Ug (ta:TE) (tr:TA):TA:=λσ H Q=>ta σ H λx H1=>tr σ H1 λxs H2=>Q (x :: xs) H2
section
variable {X:Cx} {e:Expr} {es:List Expr} {te:TE} {t:TA} {pos:Pos}
def tm:PA X [] tNil:=λ_ _ _ _ H Q I h=>Calls.spliced_nil ⟨[],H,I,.nil,h⟩
def xx (ha:PE X e te) (hr:PA X es t) (hs:starEach (e :: es) X.env=(false,eval e X.env) :: starEach es X.env:=by rfl):PA X (e :: es) (Ug te t):=by
 intro pos pn s σ H Q I h
 rw [hs]
 show wpAny _ _ (spliced ((false,eval e X.env) :: backTo pos (starEach es X.env))) _ _ s
 refine Calls.spliced_cons (thn (ha pn s σ H _ I h) λu s1 ⟨x,H1,I1,r1,q1⟩=>?_)
 exact thn (hr pos pn s1 σ H1 _ I1 q1) λus s2 ⟨xs,H2,I2,r2,q2⟩=>⟨x :: xs,H2,I2,.cons r1 r2,q2⟩
def tTup (t:TA):TE:=λσ H Q=>t σ H λxs H1=>xs.length <= sizeLine /\ ∀ p,H1 p=none->Q (.ref p) (upd H1 p (.tup xs))
def tLst (t:TA):TE:=λσ H Q=>t σ H λxs H1=>xs.length <= sizeLine /\ ∀ p,H1 p=none->Q (.ref p) (upd H1 p (.lst xs))
def Np {x1} (h:PA X es t):PE X (.Tuple es x1 pos) (tTup t):=by
 intro pn s σ H Q I hq
 refine wpAny_Tuple_spliced (thn (h pos pn s σ H _ I hq) λus s1 ⟨xs,H1,I1,r,z,q⟩=>⟨by rw [<- r.length]; exact z,?_⟩)
 have hf:H1 s1.heap.objs.size=none:=I1.hok.fresh (zaj _)
 refine ⟨.ref s1.heap.objs.size,upd H1 s1.heap.objs.size (.tup xs),I1.laid (t':=s1.toks) (λb u e=>zac _ e) (zaj _) ?_,rfl,q _ hf⟩
 exact ⟨z,us,r,⟨_,zad _ rfl,rfl,_,rfl⟩,_,zad _ rfl,rfl⟩
def Gw (h:PA X es t):PE X (.List es pos) (tLst t):=by
 intro pn s σ H Q I hq
 refine wpAny_List_spliced (thn (h pos pn s σ H _ I hq) λus s1 ⟨xs,H1,I1,r,z,q⟩=>⟨by rw [<- r.length]; exact z,?_⟩)
 have hf:H1 s1.heap.objs.size=none:=I1.hok.fresh (zaj _)
 refine ⟨.ref s1.heap.objs.size,upd H1 s1.heap.objs.size (.lst xs),I1.laid (t':=s1.toks) (λb u e=>zac _ e) (zaj _) ?_,rfl,q _ hf⟩
 exact ⟨z,us,0,r,zad _ rfl⟩
end
abbrev Sp:=List V->Hp->VK->XK->Prop
abbrev CXT:=List Env->Hp->Shared->XK->Value->Shared->Prop
structure Env0 (P:Program) (w:World) (K:W.Frag) (mg:Str->Option Value) (base:Heap) (A:Around) (outer:List Env) (s:Shared) (H:Hp):Prop where
 frames:A.frames=some outer
 mod:Mod K mg base
 bs:∀ b o,base.get? b=some o->s.heap.get? b=some o /\ H b=none
 bsz:base.objs.size <= s.heap.objs.size
 funs:s.heap.FunFrames base outer
 frf:∀ b ∈ frs outer,H b=none
 hok:HOk P w H s.heap
 bare:AllBare s.gens
def CE (outer:List Env) (P:Program) (w:World) (H:Hp) (s:Shared) (Q:VK) (u:Value) (s':Shared):Prop :=
 ∃ v H',s'.os=s.os /\ AllBare s'.gens /\ Un (frs outer) [] H H' s.heap s'.heap /\ HOk P w H' s'.heap /\ RelV v u /\ Q v H'
def CR (CX:CXT) (outer:List Env) (P:Program) (w:World) (H:Hp) (s:Shared) (Q:VK) (E:XK) (r:Result) (s':Shared):Prop :=
 match r with
 | .ok (.ret u)=>CE outer P w H s Q u s'
 | .ok _=>False
 | .error e=>CX outer H s E e s'
structure FnOk (P:Program) (w:World) (K:W.Frag) (mg:Str->Option Value) (base:Heap) (CX:CXT) (k:Nat) (f:Addr) (fd:FuncData) (ps:List Str) (sp:Sp):Prop where
 len:∀ vs H Q E,sp vs H Q E->vs.length=ps.length
 run:∀ (A:Around) (outer:List Env) (s:Shared) (H:Hp) (args:Args) (us:List Value) (vs:List V) (Q:VK) (E:XK),Room k A->Env0 P w K mg base A outer s H->BindsTo s fd args (ps.zip us)->Vals vs us->sp vs H Q E ->
  codeAny (model P w) A (.call (.ref f) args) (CR CX outer P w H s Q E) s
section
variable {X:Cx} {pn:List (Addr × Obj)} {σ:St} {H:Hp} {s s':Shared}
def Inv.env0 (I:Inv X pn σ H s):Env0 X.prog X.w X.K X.mg X.base X.A X.stack s H :=
 ⟨I.ok.frames,I.ok.mod,I.bs,zak I.ok.bsz I.sz,I.stack,I.stkFree,I.hok,I.bare⟩
def Inv.after {Q:VK} {u:Value} (I:Inv X pn σ H s) (h:CE X.stack X.prog X.w H s Q u s'):EP X pn σ Q u s':=by
 obtain ⟨v,H',os,bare,un,hok,r,q⟩:=h
 obtain ⟨hh,g,d,t,os'⟩:=s'
 obtain rfl:os'=s.os:=os
 exact ⟨v,H',I.call (h':=hh) (g':=g) (d':=d) (t':=t) (ch:=[]) un hok bare (λb z=>absurd z (by simp)),r,q⟩
end
def Hr (sp:Sp) (dvs:List V) (E:XK) (t:TA):TE:=λσ H Q=>t σ H λvs H1=>sp (vs ++ dvs) H1 Q E
def dg (K:W.Frag) (fd:FuncData) (ps:List Str) (ds:List Value):Prop :=
 ∀ (s:Shared) (us:List Value),K.In s.heap->(us ++ ds).length=ps.length->BindsTo s fd ⟨us,[]⟩ (ps.zip (us ++ ds))
def dg.all {K:W.Frag} {fd:FuncData} {ps:List Str} (h:∀ us:List Value,us.length=ps.length->bindArgs fd ⟨us,[]⟩=pure (ps.zip us)):dg K fd ps []:=λs us _ hl=>by
 rw [List.append_nil] at hl ⊢
 exact .of_eq (h us hl)
def Qb (CX:CXT) (X:Cx) (E:XK):Prop:=∀ (pn:List (Addr × Obj)) (σ:St) (H:Hp) (s:Shared) (e:Value) (s':Shared),Inv X pn σ H s->CX X.stack H s E e s'->X.xe e s'
section
variable {X:Cx} {CX:CXT} {k:Nat} {f C:Addr} {fd:FuncData} {ps:List Str} {sp:Sp} {dvs:List V} {ds:List Value} {E:XK} {x m:Str} {p pos apos:Pos} {e o:Expr} {es:List Expr} {ta:TE} {t:TA}
def G0 {pn:List (Addr × Obj)} {σ:St} {H:Hp} {s:Shared} {Q:VK} {us:List Value} {vs:List V} (F:FnOk X.prog X.w X.K X.mg X.base CX k f fd ps sp) (hr:Room k X.A) (hb:dg X.K fd ps ds) (hd:Vals dvs ds) (hx:Qb CX X E)
  (I:Inv X pn σ H s) (r:Vals vs us) (h:sp (vs ++ dvs) H Q E):wpAny (model X.prog X.w) X.A (call (.ref f) us) (EP X pn σ Q) X.xe s:=by
 have r2:Vals (vs ++ dvs) (us ++ ds):=r.append hd
 have hl:(us ++ ds).length=ps.length:=by rw [<- r2.length]; exact F.len _ _ _ _ h
 refine wpAny_call (codeAny_mono (F.run X.A X.stack s H ⟨us,[]⟩ (us ++ ds) (vs ++ dvs) Q E hr I.env0 (hb s us I.kIn hl) r2 h) λr s' hq=>?_)
 cases r with
 | error e=>exact hx pn σ H s e s' I hq
 | ok fl =>
  cases fl with
  | ret u=>exact I.after hq
  | next=>exact False.elim hq
  | brk=>exact False.elim hq
  | cont=>exact False.elim hq
def Tr (F:FnOk X.prog X.w X.K X.mg X.base CX k f fd ps sp) (hr:Room k X.A) (hg:Gl X x) (hm:X.mg x=some (.ref f)) (hk:W.keepIn X.K (.ref f)=true) (hb:dg X.K fd ps ds) (hd:Vals dvs ds) (hx:Qb CX X E)
  (ha:PA X (e :: es) t) (hdb:(x == ("__debug__" : Str))=false:=by decide) (he:starEach (e :: es) X.env=(false,eval e X.env) :: starEach es X.env:=by rfl) (hpl:(backTo pos (starEach es X.env)).any (·.1)=false:=by rfl) :
  PE X (.Call (.Name x p) (e :: es) [] pos) (Hr sp dvs E t):=by
 intro pn s σ H Q I h
 refine wpAny_Call_Name_kw (Kn I hg hm ?_ hdb)
 refine W.callWith_K (h₀:=X.base) I.ok.mod.kin hk (thn (ha pos pn s σ H _ I h) λus s1 ⟨vs,H1,I1,r,q⟩=>⟨I1.kIn,?_⟩) he hpl
 exact G0 F hr hb hd hx I1 r q
structure Mk (K:W.Frag) (C f:Addr):Prop where
 makes:W.makesIn K C=true
 init:W.findIn K (.ref C) "__init__" = some (some (.ref f))
 fn:W.isFn K (.ref f)=true
 kp:W.keepIn K (.ref C)=true
end
def PK (X:Cx) (kws:List Keyword) (t:TA):Prop :=
 ∀ (pos:Pos) (pn:List (Addr × Obj)) (s:Shared) (σ:St) (H:Hp) (Q:List V->Hp->Prop),Inv X pn σ H s->t σ H Q->wpAny (model X.prog X.w) X.A (evalAll ((backToKw pos (keywordEach kws X.env)).map (·.2))) (AP X pn σ Q) X.xe s
structure zw (N P:List Str) (sc:Scope):Prop where
 kind:sc.kind=.function
 co:sc.isCoroutine=false
 gen:sc.isGenerator=false
 nd:N.Nodup
 pre:N.take P.length=P
 par:∀ x ∈ P,sc.names.lookup x=some .local \/ sc.names.lookup x=some .cell
 nofree:∀ y ∈ sc.names,y.2 ≠ .free
def Zr {kindOf:Str->Option NameKind} {x:Str}:∀ {binds:List (Str × Value)} {m:Str->Option Value},(∀ v,(x,v) ∉ binds)->bindL kindOf binds m x=m x
 | [],_,_=>rfl
 | (n,v) :: r,m,h=>by
  unfold bindL
  rw [Zr λw hw=>h w (zal _ hw)]
  split
  ·have:x ≠ n:=by rintro rfl; exact h v zao
   simp [this]
  ·rfl
def Zt {kindOf:Str->Option NameKind} {x:Str}:∀ {binds:List (Str × Value)} {m:Str->Option Value},(∀ v,(x,v) ∉ binds)->bindC kindOf binds m x=m x
 | [],_,_=>rfl
 | (n,v) :: r,m,h=>by
  unfold bindC
  rw [Zt λw hw=>h w (zal _ hw)]
  split
  ·rfl
  ·have:x ≠ n:=by rintro rfl; exact h v zao
   simp [this]
def Zs {kindOf:Str->Option NameKind} {x:Str} {v:Value}:∀ {P:List Str} {vs:List Value} {i:Nat} {m:Str->Option Value},P.Nodup->P[i]?=some x->vs[i]?=some v->kindOf x=some .local ->
  bindL kindOf (P.zip vs) m x=some v
 | [],_,_,_,_,h,_,_=>by simp at h
 | _ :: _,[],_,_,_,_,h,_=>by simp at h
 | p :: P,w :: vs,0,m,nd,h1,h2,hk=>by
  simp at h1 h2; subst h1; subst h2
  show bindL kindOf ((p,w) :: P.zip vs) m p=_
  unfold bindL
  rw [Zr λv hv=>(List.nodup_cons.mp nd).1 (List.of_mem_zip hv).1,if_pos hk]
  simp
 | p :: P,w :: vs,i + 1,m,nd,h1,h2,hk=>by
  show bindL kindOf ((p,w) :: P.zip vs) m x=_
  unfold bindL
  exact Zs (i:=i) (List.nodup_cons.mp nd).2 (by simpa using h1) (by simpa using h2) hk
def Zu {kindOf:Str->Option NameKind} {x:Str} {v:Value}:∀ {P:List Str} {vs:List Value} {i:Nat} {m:Str->Option Value},P.Nodup->P[i]?=some x->vs[i]?=some v->kindOf x ≠ some .local ->
  bindC kindOf (P.zip vs) m x=some v
 | [],_,_,_,_,h,_,_=>by simp at h
 | _ :: _,[],_,_,_,_,h,_=>by simp at h
 | p :: P,w :: vs,0,m,nd,h1,h2,hk=>by
  simp at h1 h2; subst h1; subst h2
  show bindC kindOf ((p,w) :: P.zip vs) m p=_
  unfold bindC
  rw [Zt λv hv=>(List.nodup_cons.mp nd).1 (List.of_mem_zip hv).1,if_neg hk]
  simp
 | p :: P,w :: vs,i + 1,m,nd,h1,h2,hk=>by
  show bindC kindOf ((p,w) :: P.zip vs) m x=_
  unfold bindC
  exact Zu (i:=i) (List.nodup_cons.mp nd).2 (by simpa using h1) (by simpa using h2) hk
def start (N:List Str) (vs:List V):St:=vs.map some ++ List.replicate (N.length - vs.length) none
def cxOf (CX:CXT) (P:Program) (w:World) (K:W.Frag) (mg:Str->Option Value) (base:Heap) (N:List Str) (qual:Str) (scope:Scope) (f:Addr) (cd:Value) (A:Around) (outer:List Env) (s:Shared) (H:Hp) (E:XK):Cx where
 prog:=P
 w:=w
 K:=K
 mg:=mg
 base:=base
 A:=A.deeper (envOfC qual scope s.heap.objs.size f cd)
 N:=N
 s₀:=s
 H₀:=H
 env:=envOfC qual scope s.heap.objs.size f cd
 outer:=outer
 stack:=envOfC qual scope s.heap.objs.size f cd :: outer
 ex:=[]
 calm:=true
 fn:=λ_=>true
 pn:=[]
 xe:=λe s'=>wpAny (model P w) (A.deeper (envOfC qual scope s.heap.objs.size f cd)) (leaving (envOfC qual scope s.heap.objs.size f cd) e) (λ_ s''=>CX outer H s E e s'') (λe' s''=>CX outer H s E e' s'') s'
def Ww {sc:Scope} {n:Nat} {x:Str} (h:sc.names.lookup x=some .cell):∃ c,(cellsFrom n sc.names []).lookup x=some c:=by
 have q:=W.cellsFrom_some sc.names n [] (.inl h)
 exact Option.isSome_iff_exists.mp q
def Sx {CX:CXT} {P:Program} {w:World} {K:W.Frag} {mg:Str->Option Value} {base:Heap} {N ps:List Str} {qual:Str} {scope:Scope} {f:Addr} {cd:Value} {A:Around} {outer:List Env} {s s1:Shared} {H:Hp} {E:XK} {us:List Value} {vs:List V}
  (S:zw N ps scope) (hd:A.handled=none) (e0:Env0 P w K mg base A outer s H) (hl:vs.length=ps.length) (r:Vals vs us)
  (x:InCallC s s.heap.objs.size (bindL (envOfC qual scope s.heap.objs.size f cd).kindOf (ps.zip us) λ_=>none) (cellsFrom (s.heap.objs.size + 1) scope.names []) (bindC (envOfC qual scope s.heap.objs.size f cd).kindOf (ps.zip us) λ_=>none) s1) :
  Inv (cxOf CX P w K mg base N qual scope f cd A outer s H E) [] (start N vs) H s1:=by
 have hpl:ps.length <= N.length:=by have:=congrArg List.length S.pre; rw [List.length_take] at this; omega
 obtain ⟨h1,tk,rfl,hk⟩:=x.done
 have noA:∀ b:Addr,b ∉ (cxOf CX P w K mg base N qual scope f cd A outer s H E).ex:=λb z=>absurd (show b ∈ ([]:List Addr) from z) (by simp)
 refine ⟨⟨e0.mod,S.kind,rfl,rfl,zaj _,λy z c h1 h2=>?_,λy hy=>?_,λy c _ h=>?_,λ_=>hd,Around.frames_deeper e0.frames,.inr ⟨rfl,rfl⟩,λb z=>absurd z (noA b),e0.bs,e0.bsz,λb _ _=>noA b,λb z=>absurd z (noA b),e0.funs,e0.frf⟩,
  rfl,e0.bare,Un.kept hk,⟨_,x.toInCall.ns,λi y v h1 h2 h3=>?_⟩,λy c h=>⟨_,x.cell y c h⟩,e0.hok.fresh (zaj _),λy c h=>?_,λp hp=>absurd (show p ∈ ([]:List (Addr × Obj)) from hp) (by simp),e0.hok.kept hk,?_⟩
 ·exact name_of_addr x.apart (PySem.mem_of_lookup h1) (PySem.mem_of_lookup h2)
 ·have hy:scope.names.lookup y=some .cell \/ scope.names.lookup y=some .free:=hy
  rcases hy with hy | hy
  ·exact Ww hy
  ·exact absurd rfl (S.nofree _ (PySem.mem_of_lookup hy))
 ·exact Nat.le_of_lt (x.above y c (PySem.mem_of_lookup h))
 ·have hi:i < vs.length:=by
   unfold start at h2
   by_cases hi:i < vs.length
   ·exact hi
   ·rw [List.getElem?_append_right (by simpa using hi)] at h2
    rw [List.getElem?_replicate] at h2
    split at h2 <;> cases h2
  have ha:vs[i]?=some v:=by
   unfold start at h2
   rw [List.getElem?_append_left (by simpa using hi),zai] at h2
   cases e:vs[i]? with
   | none=>rw [e] at h2; cases h2
   | some a=>rw [e] at h2; cases h2; rfl
  obtain ⟨u,hu,rv⟩:=r.get ha
  have hp:ps[i]?=some y:=by
   rw [<- S.pre,List.getElem?_take_of_lt (by omega)]; exact h1
  have ndP:ps.Nodup:=by rw [<- S.pre]; exact S.nd.sublist (List.take_sublist _ _)
  refine ⟨u,rv,?_⟩
  rcases S.par y (zan hp) with k | k
  ·exact .inl ⟨k,Zs ndP hp hu k⟩
  ·obtain ⟨c,e⟩:=Ww (n:=s.heap.objs.size + 1) k
   refine .inr ⟨.inl k,c,e,?_⟩
   have q:=x.cell y c e
   rw [Zu ndP hp hu (by show scope.names.lookup y ≠ _; rw [k]; decide)] at q
   exact q
 ·exact e0.hok.fresh (Nat.le_of_lt (x.above y c (PySem.mem_of_lookup h)))
 ·unfold start
  show _=N.length
  rw [zLa,zLm,List.length_replicate]
  omega
def Dp {CX:CXT} {P:Program} {w:World} {K:W.Frag} {mg:Str->Option Value} {base:Heap} {k:Nat} {f:Addr} {name qual:Str} {params:Arguments} {body:List Stmt} {scope:Scope} {dV kV doc pm qZ ct oc:Value} {an od:Option Addr}
  {osl:Array (Option Value)} {N ps:List Str} {sp:Sp} (lk:K.lookup f=some ⟨oc,od,.func (W.fnOf name qual params body scope dV kV doc pm an qZ ct),osl⟩) (hcd:W.codeIn K qZ qual=true) (S:zw N ps scope)
  (len:∀ vs H Q E,sp vs H Q E->vs.length=ps.length)
  (qY:∀ (A:Around) (outer:List Env) (s:Shared) (H:Hp) (vs:List V) (Q:VK) (E:XK),Room k (A.deeper (envOfC qual scope s.heap.objs.size f qZ))->sp vs H Q E ->
   ∃ t,PSs (cxOf CX P w K mg base N qual scope f qZ A outer s H E) body t /\ t { nx:=λ_ H'=>Q .non H',rt:=Q } (start N vs) H) :
  FnOk P w K mg base CX (k + 1) f (W.fnOf name qual params body scope dV kV doc pm an qZ ct) ps sp:=by
 refine ⟨len,λA outer s H args us vs Q E hr e0 hb r hsp=>?_⟩
 have hl:=len _ _ _ _ hsp
 have KX:K.In s.heap:=e0.mod.kin.keeps λb o e=>(e0.bs b o e).1
 have lim:s.heap.NoLimit:=e0.mod.nolimit.keeps λb o e=>(e0.bs b o e).1
 have hkind:∀ y ∈ ps.zip us,scope.names.lookup y.1=some .local \/ (scope.names.lookup y.1=some .cell /\ ((cellsFrom (s.heap.objs.size + 1) scope.names []).lookup y.1).isSome=true):=λ⟨n,v⟩ hy=>by
  rcases S.par n (List.of_mem_zip hy).1 with q | q
  ·exact .inl q
  ·exact .inr ⟨q,W.cellsFrom_some _ _ _ (.inl q)⟩
 refine codeAny_call_function hr.depth (KX _ _ lk) rfl S.co S.gen rfl (W.codeRec_of KX hcd) (hb _ _ _ _ ?_)
 refine wpAny_newFunctionEnv_cells S.kind hkind λenv he s1 x=>?_
 subst he
 refine ⟨lim.keeps x.toInCall.keep,codeAny_func ?_⟩
 obtain ⟨t,ht,hq⟩:=qY A outer s H vs Q E (hr.deeper _) hsp
 have I:Inv (cxOf CX P w K mg base N qual scope f qZ A outer s H E) [] (start N vs) H s1:=Sx S hr.hd e0 hl r x
 refine wpAny_mono (ht [] s1 (start N vs) H _ I hq) (λfl s' hs=>?_) λe s' hs=>hs
 have fin:∀ {σ':St} {H':Hp} {v:V} {u:Value},Inv (cxOf CX P w K mg base N qual scope f qZ A outer s H E) [] σ' H' s'->RelV v u->Q v H'->CE outer P w H s Q u s' :=
  λ{σ' H' v u} J rv q=>⟨v,H',J.os,J.bare,J.base,J.hok,rv,q⟩
 cases fl with
 | ret u =>
  obtain ⟨v,σ',H',J,rv,q⟩:=hs
  exact fin J rv q
 | next =>
  obtain ⟨σ',H',J,q⟩:=hs
  exact fin (v:=V.non) (u:=Value.none) J rfl q
 | brk =>
  obtain ⟨_,_,_,q⟩:=hs
  exact False.elim q
 | cont =>
  obtain ⟨_,_,_,q⟩:=hs
  exact False.elim q
section
variable {X:Cx} {x:Str} {p pos:Pos} {e:Expr} {es:List Expr} {t:TA} {id T:String} {r:List V->Hp->VK->Prop}
def tCB (r:List V->Hp->VK->Prop) (t:TA):TE:=λσ H Q=>t σ H λvs H1=>r vs H1 Q
def Pi (hc:wg X (.builtin id) r) (hg:Gl X x) (hm:X.mg x=none) (hv:bootBuiltins x=some (.builtin id)) (ha:PA X (e :: es) t) (hn:x ≠ "__name__":=by decide) (hdb:(x == ("__debug__" : Str))=false:=by decide)
  (he:starEach (e :: es) X.env=(false,eval e X.env) :: starEach es X.env:=by rfl) (hpl:(backTo pos (starEach es X.env)).any (·.1)=false:=by rfl):PE X (.Call (.Name x p) (e :: es) [] pos) (tCB r t):=by
 intro pn s σ H Q I h
 refine wpAny_Call_Name_kw (ua I hg hm hv ?_ hn hdb)
 exact PyProof.Rows.callWith_builtin1 (thn (ha pos pn s σ H _ I h) λus s1 ⟨vs,H1,I1,r1,q1⟩=>hc pn s1 σ H1 vs us Q I1 r1 q1) he hpl
def Tq (hc:wg X (.type T) r) (hg:Gl X x) (hm:X.mg x=none) (hv:bootBuiltins x=some (.type T)) (ha:PA X (e :: es) t) (hn:x ≠ "__name__":=by decide) (hdb:(x == ("__debug__" : Str))=false:=by decide)
  (he:starEach (e :: es) X.env=(false,eval e X.env) :: starEach es X.env:=by rfl) (hpl:(backTo pos (starEach es X.env)).any (·.1)=false:=by rfl):PE X (.Call (.Name x p) (e :: es) [] pos) (tCB r t):=by
 intro pn s σ H Q I h
 refine wpAny_Call_Name_kw (ua I hg hm hv ?_ hn hdb)
 exact PyProof.Rows.callWith_type1 (thn (ha pos pn s σ H _ I h) λus s1 ⟨vs,H1,I1,r1,q1⟩=>hc pn s1 σ H1 vs us Q I1 r1 q1) he hpl
end
end L2
namespace HT
open PySem PyProof.Rows
section
open PySem.SeqAt
open PySem.AutoSeq1 (wpAny_loadPart')
open PySem.MeetsSeq PySem.MeetsSeq2 PySem.MeetsSeq3
end
section
variable {prog:Program} {w:World} {A:Around} {E:Value->Shared->Prop} {s:Shared}
def cat_tup {t b:Addr} {vs ws:List Value} {Q:Value->Shared->Prop} (ht:IsTup s.heap t vs.toArray) (hb:IsTup s.heap b ws.toArray) (hv:vs ≠ [])
  (h1:ws=[]->Q (.ref t) s) (h2:ws ≠ []->Q (.ref s.heap.objs.size) { s with heap:=s.heap.push { cls:=.type "tuple", data:=.seq (vs ++ ws).toArray } })
  (hsz:vs.length + ws.length <= sizeLine):wpAny (model prog w) A (binaryOp .Add (.ref t) (.ref b)) Q E s:=by
 obtain ⟨⟨cls,dd,data,sl⟩,ho,hc,n,hd⟩:=id ht
 obtain ⟨⟨cls2,dd2,data2,sl2⟩,ho2,hc2,n2,hd2⟩:=id hb
 simp only at hc hd hc2 hd2
 subst hc hd hc2 hd2
 have e:vs.toArray ++ ws.toArray=(vs ++ ws).toArray:=by simp
 by_cases hw:ws=[]
 ·exact concat_meets ⟨_,ho,rfl⟩ ⟨_,ho2,rfl⟩ noFill_tuple_add seq_tuple_add PySem.F.slot_tuple_add PySem.F.entry_tuple_add (PySem.F.args_tuple_add_2 _ _)
   (tuple_addW1 t b vs.toArray ws.toArray n n2 dd dd2 sl sl2 (by simpa using hv) (by simp [hw])) ⟨ho,ho2,h1 hw⟩
 ·refine concat_meets ⟨_,ho,rfl⟩ ⟨_,ho2,rfl⟩ noFill_tuple_add seq_tuple_add PySem.F.slot_tuple_add PySem.F.entry_tuple_add (PySem.F.args_tuple_add_2 _ _)
   (tuple_addW2 t b vs.toArray ws.toArray n n2 dd dd2 sl sl2 (by simpa using hv) (by simpa using hw) (by rw [zap,zap]; exact hsz)) ⟨ho,ho2,?_⟩
  rw [e]
  exact h2 hw
def sIx (n d:Nat):Option Int->Nat
 | none=>d
 | some v=>if v < 0 then (v + (n:Int)).toNat else min v.toNat n
def sIx_none (n d:Nat):sIx n d none=d:=rfl
def sIx_nat (n d k:Nat):sIx n d (some (k:Int))=min k n:=by
 show (if (k:Int) < 0 then ((k:Int) + (n:Int)).toNat else min (k:Int).toNat n)=min k n
 rw [if_neg (by omega),Int.toNat_natCast]
def Hx (n d:Nat) (hd:d <= n) (o:Option Int):sIx n d o <= n:=by
 cases o with
 | none=>exact hd
 | some v =>
  show (if v < 0 then (v + (n:Int)).toNat else min v.toNat n) <= n
  by_cases hv:v < 0
  ·rw [if_pos hv]; omega
  ·rw [if_neg hv]; exact Nat.min_le_right _ _
def Rz (v:Int) (n d:Nat):(if v < 0 then max (v + (n:Int)) 0 else min v (n:Int))=((sIx n d (some v):Nat):Int):=by
 show (if v < 0 then max (v + (n:Int)) 0 else min v (n:Int))=(((if v < 0 then (v + (n:Int)).toNat else min v.toNat n):Nat):Int)
 by_cases hv:v < 0
 ·simp only [if_pos hv]; omega
 ·simp only [if_neg hv]; omega
def Vz (lo hi:Option Int) (n:Nat):Builtin.Slice.sliceAdjust lo hi 1 (n:Int)=(((sIx n 0 lo:Nat):Int),((sIx n n hi:Nat):Int)):=by
 have h1:¬ ((1:Int) < 0):=by omega
 unfold Builtin.Slice.sliceAdjust
 simp only [h1,if_false]
 refine Prod.ext ?_ ?_
 ·cases lo with
  | none=>rfl
  | some v=>exact Rz v n 0
 ·cases hi with
  | none=>rfl
  | some v=>exact Rz v n n
def Vb (i j:Nat):Builtin.Slice.slicePlaces (i:Int) (j:Int) 1=j - i:=by
 unfold Builtin.Slice.slicePlaces
 have h1:(1:Int) > 0:=by omega
 simp only [h1,if_true,Int.ediv_one]
 split <;> omega
def jc {v:Value} {o:Option Int} {Q:Option Int->Shared->Prop} (p:IsPart v o) (h:Q o s):wpAny (model prog w) A (Builtin.Slice.slicePartIndex v) Q E s:=by
 cases p with
 | none=>exact slicePart_none h
 | int i t=>exact slicePart_int h
def wn {sl:Addr} {vl vu:Value} {lo hi:Option Int} {n:Nat} {Q:Int × Int × Nat->Shared->Prop} (hs:s.heap.IsSliceOf sl vl vu .none) (pl:IsPart vl lo) (pu:IsPart vu hi)
  (h:Q (((sIx n 0 lo:Nat):Int),1,sIx n n hi - sIx n 0 lo) s):wpAny (model prog w) A (Builtin.Slice.sliceApplied (.ref sl) (pure (n:Int))) Q E s:=by
 obtain ⟨os,hos,hcs,hds⟩:=id hs
 unfold Builtin.Slice.sliceApplied Builtin.Slice.sliceFields
 refine zaa (zaa (wpAny_field hos hds (x:=vl) rfl (zaa (wpAny_field hos hds (x:=vu) rfl (zaa (wpAny_field hos hds (x:=.none) rfl (zab ?_)))))))
 refine zaa (slicePart_none ?_)
 show wpAny _ _ (if ((1:Int) == 0)=true then _ else _) _ _ s
 rw [if_neg (by decide)]
 refine zaa (jc pl (zaa (jc pu (zaa (zab ?_)))))
 show wpAny _ _ (match Builtin.Slice.sliceAdjust lo hi 1 (n:Int) with | (lo,hi)=>pure (lo,(1:Int),Builtin.Slice.slicePlaces lo hi 1)) _ _ s
 rw [Vz lo hi n]
 show wpAny _ _ (pure (((sIx n 0 lo:Nat):Int),(1:Int),Builtin.Slice.slicePlaces ((sIx n 0 lo:Nat):Int) ((sIx n n hi:Nat):Int) 1)) _ _ s
 rw [Vb]
 exact zab h
def Pd (xs:Array Value) (i k:Nat):((List.range k).filterMap λ(m:Nat)=>xs[((i:Int) + (m:Int) * 1).toNat]?).toArray=((xs.toList.drop i).take k).toArray:=by
 have e:(λ(m:Nat)=>xs[((i:Int) + (m:Int) * 1).toNat]?)=λm=>xs[i + m]?:=by
  funext m
  have:((i:Int) + (m:Int) * 1).toNat=i + m:=by omega
  rw [this]
 rw [e]
 have:=pick_run xs i k
 rw [List.filterMap_map] at this
 have e2:((λx=>xs[x]?) ∘ λx=>i + x)=λm=>xs[i + m]?:=rfl
 rw [e2] at this
 rw [this]
def getItem_tuple_cut {t sl:Addr} {items:Array Value} {vl vu:Value} {lo hi:Option Int} {Q:Value->Shared->Prop} (ht:IsTup s.heap t items) (hs:s.heap.IsSliceOf sl vl vu .none) (pl:IsPart vl lo) (pu:IsPart vu hi)
  (hw:¬ (sIx items.size 0 lo=0 /\ sIx items.size items.size hi=items.size))
  (h:Q (.ref s.heap.objs.size) { s with heap:=s.heap.push { cls:=.type "tuple", data:=.seq ((items.toList.drop (sIx items.size 0 lo)).take (sIx items.size items.size hi - sIx items.size 0 lo)).toArray } })
  (hsz:items.size <= sizeLine):wpAny (model prog w) A (getItem (.ref t) (.ref sl)) Q E s:=by
 have htake:sizeOk (.seq ((items.toList.drop (sIx items.size 0 lo)).take (sIx items.size items.size hi - sIx items.size 0 lo)).toArray):=by
  show ((items.toList.drop (sIx items.size 0 lo)).take (sIx items.size items.size hi - sIx items.size 0 lo)).toArray.size <= sizeLine
  rw [zap,List.length_take,List.length_drop,Array.length_toList]
  omega
 have hj:sIx items.size items.size hi <= items.size:=Hx _ _ (zaj _) hi
 obtain ⟨os,hos,hcs,hds⟩:=id hs
 have hTs:s.TypeIs (.ref sl) "slice":=⟨os,hos,hcs⟩
 unfold getItem
 try with_reducible refine wpAny_holding ?_
 first | refine zaa (zab ?_) | skip
 refine zaa (wpAny_sequenceKey ht.typeIs (by decide) ?_)
 refine zaa (wpAny_callSpecial?_slot (name:=Str.ofString "__getitem__") ht.typeIs PyProof.Rows.slot_tuple_getitem
  (wpAny_call_entry PyProof.Rows.slot_tuple_getitem ht.typeIs entry_tuple_getitem ?_ (args_tuple_getitem _ _)))
 show wpAny _ _ (Builtin.Tuple.tupleItemsOf (.ref t) >>= _) _ _ s
 refine zaa (tupleItemsOf_ ht ?_)
 refine zaa (wpAny_typeOf hTs ?_)
 rw [if_pos (by decide)]
 refine zaa (wn hs pl pu ?_)
 have hno:¬ ((((sIx items.size 0 lo:Nat):Int) == 0 && (1:Int) == 1 && (sIx items.size items.size hi - sIx items.size 0 lo) == items.size)=true):=by
  intro q
  rw [Bool.and_eq_true,Bool.and_eq_true] at q
  have q1:((sIx items.size 0 lo:Nat):Int)=0:=eq_of_beq q.1.1
  have q2:sIx items.size items.size hi - sIx items.size 0 lo=items.size:=eq_of_beq q.2
  exact hw ⟨by omega,by omega⟩
 show wpAny _ _ (if (((sIx items.size 0 lo:Nat):Int) == 0 && (1:Int) == 1 && (sIx items.size items.size hi - sIx items.size 0 lo) == items.size)=true then _ else _) _ _ s
 rw [if_neg hno,Pd]
 first
  | exact zaa (m:=Builtin.Tuple.tupleExact _) (wpAny_newObj_type (zab ⟨_,rfl,zab h⟩) htake)
  | exact zaa (m:=Builtin.Tuple.tupleExact _) (wpAny_newObj_type (zaa (zab (zab ⟨_,rfl,zab h⟩))) htake)
  | exact zaa (zaa (m:=Builtin.Tuple.tupleExact _) (wpAny_newObj_type (zab (zab ⟨_,rfl,zab h⟩)) htake))
  | exact zaa (zaa (m:=Builtin.Tuple.tupleExact _) (wpAny_newObj_type (zab ⟨_,rfl,zab h⟩) htake))
end
end HT
namespace L2
open PySem PySem.Spec PyProof.Rows
abbrev TO:=St->Hp->(Option Int->Hp->Prop)->Prop
def PO (X:Cx) (e:Option Expr) (t:TO):Prop :=
 ∀ (pn:List (Addr × Obj)) (s:Shared) (σ:St) (H:Hp) (Q:Option Int->Hp->Prop),Inv X pn σ H s->t σ H Q ->
  wpAny (model X.prog X.w) X.A (evalPart e X.env) (λu s'=>∃ o H',Inv X pn σ H' s' /\ IsPart u o /\ Q o H') X.xe s
def L0:TO:=λ_ H Q=>Q none H
def Ey (t:TE):TO:=λσ H Q=>t σ H λx H1=>∃ i,x=.int i /\ Q (some i) H1
section
variable {X:Cx} {e:Expr} {te:TE} {lo hi:Option Expr} {tl th:TO} {pos p2:Pos}
def Lx:PO X none L0:=by
 intro pn s σ H Q I h
 rw [evalPart_none]
 exact zab ⟨none,H,I,.none,h⟩
def Lw (h:PE X e te):PO X (some e) (Ey te):=by
 intro pn s σ H Q I hw
 rw [evalPart_some]
 refine thn (h pn s σ H _ I hw) λu s1 ⟨x,H1,I1,r1,q1⟩=>?_
 obtain ⟨i,rfl,q⟩:=q1
 obtain ⟨t,rfl⟩:=r1
 exact ⟨some i,H1,I1,.int i t,q⟩
def SlR (X:Cx) (r:V->Option Int->Option Int->Hp->VK->Prop):Prop :=
 ∀ (pn:List (Addr × Obj)) (s:Shared) (σ:St) (H:Hp) (x:V) (v vl vu:Value) (lo hi:Option Int) (sl:Addr) (Q:VK),Inv X pn σ H s->RelV x v->s.heap.IsSliceOf sl vl vu .none->IsPart vl lo->IsPart vu hi->r x lo hi H Q ->
  ∃ T id,typeLookup (.type T) "__getitem__" = pure (some (.builtin id)) /\ s.TypeIs v T /\ wpAny (model X.prog X.w) X.A (getItem v (.ref sl)) (EP X pn σ Q) X.xe s
def SlR.or {r r':V->Option Int->Option Int->Hp->VK->Prop} (h:SlR X r) (h':SlR X r'):SlR X (λx lo hi H Q=>r x lo hi H Q \/ r' x lo hi H Q):=by
 intro pn s σ H x v vl vu lo hi sl Q I rx hs pl pu q
 rcases q with q | q
 ·exact h pn s σ H x v vl vu lo hi sl Q I rx hs pl pu q
 ·exact h' pn s σ H x v vl vu lo hi sl Q I rx hs pl pu q
def tSl (r:V->Option Int->Option Int->Hp->VK->Prop) (te:TE) (tl th:TO):TE:=λσ H Q=>te σ H λx H1=>tl σ H1 λl H2=>th σ H2 λu H3=>r x l u H3 Q
def Wb {r:V->Option Int->Option Int->Hp->VK->Prop} (hr:SlR X r) (he:PE X e te) (hl:PO X lo tl) (hu:PO X hi th):PE X (.Subscript e (.Slice lo hi none p2) pos) (tSl r te tl th):=by
 intro pn s σ H Q I h
 refine Subscript_ (thn (he pn s σ H _ I h) λv s1 ⟨x,H1,I1,r1,q1⟩=>?_)
 refine wpAny_Slice (thn (hl pn s1 σ H1 _ I1 q1) λvl s2 ⟨l,H2,I2,pl,q2⟩=>thn (hu pn s2 σ H2 _ I2 q2) λvu s3 ⟨u,H3,I3,pu,q3⟩=>?_)
 rw [evalPart_none]
 refine zab ?_
 have I4:Inv X pn σ H3 { s3 with heap:=s3.heap.push { cls:=.type "slice", data:=.fields #[vl,vu,.none] } }:=I3.kept (t':=s3.toks) λb ob q=>zac _ q
 obtain ⟨T,id,hT,ht,hg⟩:=hr pn { s3 with heap:=s3.heap.push { cls:=.type "slice", data:=.fields #[vl,vu,.none] } } σ H3 x v vl vu l u s3.heap.objs.size Q I4 r1 (Heap.IsSliceOf.new ..) pl pu q3
 show wpAny (model X.prog X.w) X.A (subscriptTail e (.Slice lo hi none p2) v (.ref s3.heap.objs.size)) (EP X pn σ Q) X.xe { s3 with heap:=s3.heap.push { cls:=.type "slice", data:=.fields #[vl,vu,.none] } }
 exact tail_any (ops:=[.ref s3.heap.objs.size,v]) ht hT hg (by with_unfolding_all rfl)
def cutV (xs:List V) (lo hi:Option Int):List V:=(xs.drop (HT.sIx xs.length 0 lo)).take (HT.sIx xs.length xs.length hi - HT.sIx xs.length 0 lo)
def kh (xs:List V) (lo hi:Option Int):(cutV xs lo hi).length <= xs.length:=by
 unfold cutV
 rw [List.length_take,List.length_drop]
 omega
def rSlT (K:W.Frag):V->Option Int->Option Int->Hp->VK->Prop:=λx lo hi H Q=>∃ a xs,x=.ref a /\ SqT K H a xs /\
 ¬ (HT.sIx xs.length 0 lo=0 /\ HT.sIx xs.length xs.length hi=xs.length) /\ ∀ p,H p=none->Q (.ref p) (upd H p (.tup (cutV xs lo hi)))
def Ng:SlR X (rSlT X.K):=by
 intro pn s σ H x v vl vu lo hi sl Q I rx hs pl pu h
 obtain ⟨a,xs,rfl,hx,hw,q⟩:=h
 cases rx
 obtain ⟨its,r,ht,hz⟩:=I.tuple hx
 have hlen:its.toArray.size=xs.length:=by rw [zap]; exact r.length.symm
 refine ⟨"tuple", _,PyProof.Rows.slot_tuple_getitem.lookup,ht.typeIs,?_⟩
 refine HT.getItem_tuple_cut ht hs pl pu (by rw [hlen]; exact hw) ?_ (by rw [hlen]; exact hz)
 rw [hlen]
 refine ⟨.ref s.heap.objs.size,_,I.laid (t':=s.toks) (o:=.tup (cutV xs lo hi)) (λb ob q=>zac _ q) (zaj _) ?_,rfl,q _ (I.hok.fresh (zaj _))⟩
 exact ⟨zak (kh xs lo hi) hz,_,(r.drop (HT.sIx xs.length 0 lo)).take (HT.sIx xs.length xs.length hi - HT.sIx xs.length 0 lo),IsTup.new _ _,_,zad _ rfl,rfl⟩
def Gc (K:W.Frag):R2:=λx y H Q=>∃ a b xs ys,x=.ref a /\ y=.ref b /\ SqT K H a xs /\ SqT K H b ys /\ xs ≠ [] /\ xs.length + ys.length <= sizeLine /\
 (ys=[]->Q (.ref a) H) /\ (ys ≠ []->∀ p,H p=none->Q (.ref p) (upd H p (.tup (xs ++ ys))))
def Vals.nil_iff {xs:List V} {us:List Value} (r:Vals xs us):us=[] ↔ xs=[]:=by
 cases r with
 | nil=>simp
 | cons _ _=>simp
def Tv:OpR X (binaryOp .Add) (Gc X.K):=by
 intro pn s σ H x y v u Q I rx ry h
 obtain ⟨a,b,xs,ys,rfl,rfl,ha,hb,hx,hz,q1,q2⟩:=h
 cases rx
 cases ry
 obtain ⟨its,r1,p1,_⟩:=I.tuple ha
 obtain ⟨its2,r2,p2,_⟩:=I.tuple hb
 refine HT.cat_tup p1 p2 (λz=>hx (r1.nil_iff.mp z)) (λz=>⟨.ref a,H,I,rfl,q1 (r2.nil_iff.mp z)⟩) (λz=>?_) (by rw [<- r1.length,<- r2.length]; exact hz)
 refine ⟨.ref s.heap.objs.size,_,I.laid (t':=s.toks) (o:=.tup (xs ++ ys)) (λb ob q=>zac _ q) (zaj _) ?_,rfl,q2 (λw=>z (r2.nil_iff.mpr w)) _ (I.hok.fresh (zaj _))⟩
 exact ⟨by rw [zLa]; exact hz,_,r1.append r2,IsTup.new _ _,_,zad _ rfl,rfl⟩
end
def ixN (n:Nat) (i:Int):Option Nat:=if 0 <= i then (if i < n then some i.toNat else none) else if -(n:Int) <= i then some (i + n).toNat else none
def atI {α:Type} (xs:List α) (i:Int):Option α:=(ixN xs.length i).bind λj=>xs[j]?
def Sv {n:Nat} {i:Int} {j:Nat} (h:ixN n i=some j):seqIndex? i n=some j /\ j < n /\ -(n:Int) <= i /\ i < n:=by
 unfold ixN at h
 by_cases h0:0 <= i
 ·rw [if_pos h0] at h
  by_cases h1:i < n
  ·rw [if_pos h1] at h
   have e:i.toNat=j:=Option.some.inj h
   exact ⟨by rw [seqIndex_of h0 h1,e],by omega,by omega,h1⟩
  ·rw [if_neg h1] at h; cases h
 ·rw [if_neg h0] at h
  by_cases h1:-(n:Int) <= i
  ·rw [if_pos h1] at h
   have e:(i + n).toNat=j:=Option.some.inj h
   exact ⟨by rw [seqIndex_neg (by omega) h1,e],by omega,h1,by omega⟩
  ·rw [if_neg h1] at h; cases h
def Xj {α:Type} {xs:List α} {i:Int} {v:α} (h:atI xs i=some v):∃ j,seqIndex? i xs.length=some j /\ xs[j]?=some v /\ j < xs.length /\ -(xs.length:Int) <= i /\ i < xs.length:=by
 unfold atI at h
 cases e:ixN xs.length i with
 | none=>rw [e] at h; cases h
 | some j =>
  rw [e] at h
  obtain ⟨h1,h2,h3,h4⟩:=Sv e
  exact ⟨j,h1,h,h2,h3,h4⟩
def atI_nat {α:Type} {xs:List α} {j:Nat} {v:α} (h:xs[j]?=some v):atI xs (j:Int)=some v:=by
 have hj:j < xs.length:=(zag.mp h).1
 have e:ixN xs.length (j:Int)=some j:=by
  unfold ixN
  rw [if_pos (by omega),if_pos (by omega)]; simp
 unfold atI; rw [e]; exact h
def d9 (b:Expr):Prop:=∀ o i,subscripted b false o i=operate [o,i] (getItem o i)
def IxR (X:Cx) (r:R2):Prop :=
 ∀ (value slice:Expr) (pn:List (Addr × Obj)) (s:Shared) (σ:St) (H:Hp) (x y:V) (v u:Value) (Q:VK),Inv X pn σ H s->RelV x v->RelV y u->r x y H Q ->
  subscripted slice false v u=operate [v,u] (getItem v u)->wpAny (model X.prog X.w) X.A (subscriptTail value slice v u) (EP X pn σ Q) X.xe s
def MtR (X:Cx) (id:String) (r:V->List V->Hp->VK->Prop):Prop :=
 ∀ (pn:List (Addr × Obj)) (s:Shared) (σ:St) (H:Hp) (x:V) (xs:List V) (v:Value) (us:List Value) (Q:VK),Inv X pn σ H s->RelV x v->Vals xs us->r x xs H Q ->
  wpAny (model X.prog X.w) X.A (call (.builtin id) (v :: us)) (EP X pn σ Q) X.xe s
section
variable {X:Cx} {a b:Expr} {ta tb:TE} {pos:Pos}
def IxR.or {r r':R2} (h:IxR X r) (h':IxR X r'):IxR X (λx y H Q=>r x y H Q \/ r' x y H Q):=by
 intro value slice pn s σ H x y v u Q I rx ry q hs
 rcases q with q | q
 ·exact h value slice pn s σ H x y v u Q I rx ry q hs
 ·exact h' value slice pn s σ H x y v u Q I rx ry q hs
def K3 {r:R2} (hr:IxR X r) (ha:PE X a ta) (hb:PE X b tb) (hs:d9 b):PE X (.Subscript a b pos) (tOp r ta tb):=by
 intro pn s σ H Q I h
 exact Subscript_ (binT ha hb I h λv u s2 x y H2 I2 rx ry q=>hr a b pn s2 σ H2 x y v u Q I2 rx ry q (hs _ _))
def rIxL (K:W.Frag):R2:=λx y H Q=>∃ p xs i v,x=.ref p /\ y=.int i /\ SqL K H p xs /\ atI xs i=some v /\ Q v H
def rIxT (K:W.Frag):R2:=λx y H Q=>∃ p xs i v,x=.ref p /\ y=.int i /\ SqT K H p xs /\ atI xs i=some v /\ Q v H
def rIxS:R2:=λx y H Q=>∃ z i c,x=.str z /\ y=.int i /\ z.length <= sizeLine /\ atI z.cps.toList i=some c /\ Q (.str ⟨#[c]⟩) H
def Kq:IxR X (rIxL X.K):=by
 intro value slice pn s σ H x y v u Q I rx ry h hs
 obtain ⟨p,xs,i,z,rfl,rfl,hq,he,q⟩:=h
 cases rx
 obtain ⟨t,rfl⟩:=ry
 obtain ⟨its,r,pl,hz⟩:=I.list hq
 obtain ⟨j,h1,h2,h3,h4,h5⟩:=Xj he
 obtain ⟨w,ew,rw'⟩:=r.get h2
 have hl:=r.length
 have hn:=ql
 have fin:EP X pn σ Q w s:=⟨z,H,I,rw',q⟩
 by_cases h0:0 <= i
 ·have hj:i.toNat=j:=by
   rw [seqIndex_of h0 h5] at h1
   exact Option.some.inj h1
  exact item_listR pl.isList h0 (by omega) (by rw [hj]; simpa using ew) fin hs
 ·have hj:(i + (its.toArray.size:Int)).toNat=j:=by
   rw [seqIndex_neg (by omega) h4] at h1
   rw [zap,<- hl]
   exact Option.some.inj h1
  exact subscriptTail_builtinR (x:=w) pl.isList.typeIs slot_list_getitem.lookup
   (wpAny_getItem_list_neg (Q:=λr s'=>r=w /\ EP X pn σ Q r s') pl.isList (by omega) (by rw [zap] <;> omega) (by omega) (by rw [hj]; simpa using ew) ⟨rfl,fin⟩) hs
def E1:IxR X (rIxT X.K):=by
 intro value slice pn s σ H x y v u Q I rx ry h hs
 obtain ⟨p,xs,i,z,rfl,rfl,hq,he,q⟩:=h
 cases rx
 obtain ⟨t,rfl⟩:=ry
 obtain ⟨its,r,pl,hz⟩:=I.tuple hq
 obtain ⟨j,h1,h2,h3,h4,h5⟩:=Xj he
 obtain ⟨w,ew,rw'⟩:=r.get h2
 have hl:=r.length
 have hn:=ql
 have fin:EP X pn σ Q w s:=⟨z,H,I,rw',q⟩
 exact subscriptTail_builtinR (x:=w) pl.typeIs slot_tuple_getitem.lookup
  (getItem_tuple (j:=j) (Q:=λr s'=>r=w /\ EP X pn σ Q r s') pl (by omega) (by omega) (by rw [zap,<- hl]; exact h1) (by simpa using ew) ⟨rfl,fin⟩) hs
def E2:IxR X rIxS:=by
 intro value slice pn s σ H x y v u Q I rx ry h hs
 obtain ⟨z,i,c,rfl,rfl,hz,he,q⟩:=h
 obtain ⟨t,rfl⟩:=rx
 obtain ⟨t',rfl⟩:=ry
 obtain ⟨j,h1,h2,h3,h4,h5⟩:=Xj he
 have hl:z.cps.toList.length=z.length:=by simp [Str.length]
 rw [hl] at h1 h4 h5
 have hn:=ql
 exact tail_any (typeIs_str s z t) slot_str_getitem.lookup (getItem_str (c:=c) (by
  have e1:decide (i < -(2 ^ 63:Int))=false:=decide_eq_false (by omega)
  have e2:decide (i ≥ 2 ^ 63)=false:=decide_eq_false (by omega)
  rw [e1,e2,Bool.or_false]) (by rw [h1]; simpa using h2) ⟨.str ⟨#[c]⟩,H,I.tok _,⟨_,rfl⟩,q⟩) hs
def rIx (K:W.Frag):R2:=λx y H Q=>rIxL K x y H Q \/ rIxT K x y H Q \/ rIxS x y H Q
def Nv:IxR X (rIx X.K):=Kq.or (E1.or E2)
def Vg (its:List Value) (n j:Nat) (u:Value):Obj.mapSeq (·.setIfInBounds j u) { cls:=.type "list", data:=.seq its.toArray n }={ cls:=.type "list", data:=.seq (its.set j u).toArray n }:=by
 simp [Obj.mapSeq]
def Inv.lst {pn:List (Addr × Obj)} {σ:St} {H:Hp} {s:Shared} {p:Addr} {xs:List V} (I:Inv X pn σ H s) (h:H p=some (.lst xs)) :
  ∃ (its:List Value) (n:Nat),Vals xs its /\ s.heap.get? p=some { cls:=.type "list", data:=.seq its.toArray n } /\ xs.length <= sizeLine:=by
 obtain ⟨z,its,n,r,e⟩:=I.hok p _ h
 exact ⟨its,n,r,e,z⟩
def Inv.lstUpd {pn:List (Addr × Obj)} {σ:St} {H:Hp} {s:Shared} {p:Addr} {xs ys:List V} {its its':List Value} {n n':Nat} {f:Obj->Obj} (I:Inv X pn σ H s) (h:H p=some (.lst xs))
  (ho:s.heap.get? p=some { cls:=.type "list", data:=.seq its.toArray n }) (hf:f { cls:=.type "list", data:=.seq its.toArray n }={ cls:=.type "list", data:=.seq its'.toArray n' }) (r:Vals ys its') (hz:ys.length <= sizeLine) (t:Nat) :
  Inv X pn σ (upd H p (.lst ys)) { s with heap:=s.heap.update p f,toks:=t }:=by
 have e:(s.heap.update p f).get? p=some { cls:=.type "list", data:=.seq its'.toArray n' }:=by
  rw [Heap.get?_update_self f ho (by rw [hf] <;> rfl),hf]
 refine I.write (x:=p) (e:=p) (by rw [h]; trivial) (.inl rfl) (λb u hb q=>(Heap.get?_update_other _ _ (Ne.symm hb)).trans q) ⟨_,e⟩ ?_
 exact ⟨hz,its',n',r,e⟩
def D7:V->V->V->Hp->(Hp->Prop)->Prop:=λo i v H Q=>∃ p xs k j,o=.ref p /\ i=.int k /\ H p=some (.lst xs) /\ ixN xs.length k=some j /\ Q (upd H p (.lst (xs.set j v)))
def Qs:PSet X D7:=by
 intro pn s σ H o i v ov iv u Q I ro ri rv h
 obtain ⟨p,xs,k,j,rfl,rfl,hp,hj,q⟩:=h
 cases ro
 obtain ⟨t,rfl⟩:=ri
 obtain ⟨its,n,r,ho,hz⟩:=I.lst hp
 obtain ⟨h1,h2,h3,h4⟩:=Sv hj
 have hl:=r.length
 have hn:=ql
 have I':Inv X pn σ (upd H p (.lst (xs.set j v))) { s with heap:=s.heap.update p (Obj.mapSeq (·.setIfInBounds j u)) } :=
  I.lstUpd hp ho (Vg its n j u) (r.set rv j) (by rw [List.length_set]; exact hz) s.toks
 by_cases h0:0 <= k
 ·have hk:k.toNat=j:=by
   rw [seqIndex_of h0 h4] at h1
   exact Option.some.inj h1
  exact W.ki_setAt ho h0 (by omega) (by rw [zap,<- hl]; exact h4) (by rw [hk]; exact ⟨_,I',q⟩)
 ·have hk:(k + (its.toArray.size:Int)).toNat=j:=by
   rw [seqIndex_neg (by omega) h3] at h1
   rw [zap,<- hl]
   exact Option.some.inj h1
  exact W.ki_setBack ho (by omega) (by rw [zap,<- hl]; exact h3) (by omega) (by rw [hk]; exact ⟨_,I',q⟩)
def cg (lo hi:Option Int) (n:Nat):(sliceBounds lo hi none n).1=((HT.sIx n 0 lo:Nat):Int) /\ (sliceBounds lo hi none n).2.1=((HT.sIx n n hi:Nat):Int) /\ (sliceBounds lo hi none n).2.2=1:=by
 refine ⟨?_,?_,rfl⟩
 ·cases lo with
  | none=>simp [sliceBounds,HT.sIx]
  | some i =>
   simp only [sliceBounds,HT.sIx,Option.getD_none,show (1:Int) > 0 by decide,if_true]
   by_cases h:i < 0
   ·simp only [h,if_true] <;> omega
   ·simp only [h,if_false] <;> omega
 ·cases hi with
  | none=>simp [sliceBounds,HT.sIx]
  | some i =>
   simp only [sliceBounds,HT.sIx,Option.getD_none,show (1:Int) > 0 by decide,if_true]
   by_cases h:i < 0
   ·simp only [h,if_true] <;> omega
   ·simp only [h,if_false] <;> omega
def g9 (its:List Value) (lo hi:Option Int):slicePick its.toArray lo hi none=((its.drop (HT.sIx its.length 0 lo)).take (HT.sIx its.length its.length hi - HT.sIx its.length 0 lo)).toArray:=by
 obtain ⟨h1,h2,h3⟩:=cg lo hi its.toArray.size
 unfold slicePick
 rw [h1,h2,h3]
 simp only [sliceRange_one,pick_run,zap] <;> rfl
def rSlL (K:W.Frag):V->Option Int->Option Int->Hp->VK->Prop:=λx lo hi H Q=>∃ a xs,x=.ref a /\ SqL K H a xs /\ ∀ p,H p=none->Q (.ref p) (upd H p (.lst (cutV xs lo hi)))
def Lb:SlR X (rSlL X.K):=by
 intro pn s σ H x v vl vu lo hi sl Q I rx hs pl pu h
 obtain ⟨a,xs,rfl,hx,q⟩:=h
 cases rx
 obtain ⟨its,r,ht,hz⟩:=I.list hx
 have hlen:=r.length
 refine ⟨"list", _,slot_list_getitem.lookup,ht.isList.typeIs,?_⟩
 refine wpAny_getItem_list_slice ht.isList hs pl pu .none (by simp) ?_ (by rw [zap] <;> omega)
 rw [g9,<- hlen]
 refine ⟨.ref s.heap.objs.size,_,I.laid (t':=s.toks) (o:=.lst (cutV xs lo hi)) (λb ob q=>zac _ q) (zaj _) ?_,rfl,q _ (I.hok.fresh (zaj _))⟩
 exact ⟨zak (kh xs lo hi) hz,_,0,(r.drop (HT.sIx xs.length 0 lo)).take (HT.sIx xs.length xs.length hi - HT.sIx xs.length 0 lo),zad _ rfl⟩
def Zp:wg X (.builtin "len") (λxs H Q=>∃ p ys,xs=[.ref p] /\ (SqL X.K H p ys \/ SqT X.K H p ys) /\ Q (.int ys.length) H):=by
 intro pn s σ H xs us Q I r h
 obtain ⟨p,ys,rfl,hq,q⟩:=h
 obtain ⟨u,rfl,rx⟩:=vv r
 cases rx
 have hn:=ql
 rcases hq with hq | hq
 ·obtain ⟨its,r',pl,hz⟩:=I.list hq
  have hlen:=r'.length
  exact Calls.call_len_list pl.isList (by simp only [zap] <;> omega) ⟨.int ys.length,H,I.tok _,⟨s.toks + 1,by rw [zap,hlen]⟩,q⟩
 ·obtain ⟨its,r',pl,hz⟩:=I.tuple hq
  have hlen:=r'.length
  exact len_tuple pl (by simp only [zap] <;> omega) ⟨.int ys.length,H,I.tok _,⟨s.toks + 1,by rw [zap,hlen]⟩,q⟩
def Zo:wg X (.builtin "len") (λxs H Q=>∃ z,xs=[.str z] /\ z.length <= sizeLine /\ Q (.int z.length) H):=by
 intro pn s σ H xs us Q I r h
 obtain ⟨z,rfl,hz,q⟩:=h
 obtain ⟨u,rfl,t,rfl⟩:=vv r
 have hn:=ql
 exact len_str (by omega) ⟨.int z.length,H,I.tok _,⟨_,rfl⟩,q⟩
def wg.or {f:Value} {r r':List V->Hp->VK->Prop} (h:wg X f r) (h':wg X f r'):wg X f (λxs H Q=>r xs H Q \/ r' xs H Q):=by
 intro pn s σ H xs us Q I rs q
 rcases q with q | q
 ·exact h pn s σ H xs us Q I rs q
 ·exact h' pn s σ H xs us Q I rs q
def Zn:wg X (.type "list") (λxs H Q=>∃ p ys,xs=[.ref p] /\ (SqL X.K H p ys \/ SqT X.K H p ys) /\ ∀ l,H l=none->Q (.ref l) (upd H l (.lst ys))):=by
 intro pn s σ H xs us Q I r h
 obtain ⟨p,ys,rfl,hq,q⟩:=h
 obtain ⟨u,rfl,rx⟩:=vv r
 cases rx
 have fin:∀ (its:List Value),Vals ys its->ys.length <= sizeLine->∀ (h':Heap) (c':Nat),(∀ b o',s.heap.get? b=some o'->h'.get? b=some o') ->
   h'.get? s.heap.objs.size=some { cls:=.type "list", dict:=none,data:=.seq its.toArray c',slots:=#[] }->EP X pn σ Q (.ref s.heap.objs.size) { s with heap:=h' }:=λits r' hz h' c' kp e =>
  ⟨.ref s.heap.objs.size,_,I.laid (t':=s.toks) kp (zaj _) (show yf X.prog X.w _ h' _ (.lst ys) from ⟨hz,its,c',r',e⟩),rfl,q _ (I.hok.fresh (zaj _))⟩
 rcases hq with hq | hq
 ·obtain ⟨its,r',pl,hz⟩:=I.list hq
  have hlen:=r'.length
  obtain ⟨o,ho,hc,n,hd⟩:=pl.isList
  exact call_list_seq p (.inl rfl) ho hc hd (λh' c' kp e=>fin its r' hz h' c' kp e) (by simp only [zap] <;> omega)
 ·obtain ⟨its,r',pl,hz⟩:=I.tuple hq
  have hlen:=r'.length
  obtain ⟨o,ho,hc,n,hd⟩:=pl
  exact call_list_seq p (.inr rfl) ho hc hd (λh' c' kp e=>fin its r' hz h' c' kp e) (by simp only [zap] <;> omega)
def d7:wg X (.type "tuple") (λxs H Q=>∃ p ys,xs=[.ref p] /\ ((SqL X.K H p ys /\ ∀ l,H l=none->Q (.ref l) (upd H l (.tup ys))) \/ (SqT X.K H p ys /\ Q (.ref p) H))):=by
 intro pn s σ H xs us Q I r h
 obtain ⟨p,ys,rfl,h⟩:=h
 obtain ⟨u,rfl,rx⟩:=vv r
 cases rx
 rcases h with ⟨hq,q⟩ | ⟨hq,q⟩
 ·obtain ⟨its,r',pl,hz⟩:=I.list hq
  have hlen:=r'.length
  refine call_tuple_list pl.isList (λh' kp=>?_) (by simp only [zap] <;> omega)
  have I1:Inv X pn σ H { s with heap:=h' }:=I.kept (t':=s.toks) kp
  have I2:Inv X pn σ (upd H h'.objs.size (.tup ys)) { s with heap:=h'.push { cls:=.type "tuple", data:=.seq its.toArray } } :=
   I1.laid (t':=s.toks) (λb o e=>zac _ e) (zaj _) (show yf X.prog X.w _ _ _ (.tup ys) from ⟨hz,its,r',IsTup.new _ _,_,zad _ rfl,rfl⟩)
  exact ⟨.ref h'.objs.size,_,I2,rfl,q _ (I1.hok.fresh (zaj _))⟩
 ·obtain ⟨its,r',pl,hz⟩:=I.tuple hq
  exact call_tuple_same pl ⟨.ref p,H,I,rfl,q⟩
def tyV (K:W.Frag) (T:String) (x:V) (H:Hp):Prop:=match x with
 | .str _=>T = "str"
 | .int _=>T = "int"
 | .ref p=>(T = "list" /\ ∃ xs,SqL K H p xs) \/ (T = "tuple" /\ ∃ o,K.lookup p=some o /\ o.cls=.type "tuple" /\ o.dict=none) \/
   (T = "dict" /\ ((∃ kvs,H p=some (.dK kvs)) \/ ∃ kvs,H p=some (.dT kvs))) \/ (T = "set" /\ ∃ S n,H p=some (.set S n))
 | _=>False
def Hb {pn:List (Addr × Obj)} {σ:St} {H:Hp} {s:Shared} {T:String} {x:V} {v:Value} (I:Inv X pn σ H s) (r:RelV x v) (ty:tyV X.K T x H) :
  s.TypeIs v T /\ ∀ a,v=.ref a->∃ ob,s.heap.get? a=some ob /\ ob.dict=none:=by
 cases x with
 | str z =>
  obtain ⟨t,rfl⟩:=r
  cases (show T = "str" from ty)
  exact ⟨typeIs_str s z t,λ_ e=>nomatch e⟩
 | int i =>
  obtain ⟨t,rfl⟩:=r
  cases (show T = "int" from ty)
  exact ⟨typeIs_int s i t,λ_ e=>nomatch e⟩
 | ref p =>
  cases r
  rcases ty with ⟨rfl,xs,hq⟩ | ⟨rfl,o,hk,hc,hd⟩ | ⟨rfl,hk⟩ | ⟨rfl,S,n,hk⟩
  ·obtain ⟨its,_,pl,_⟩:=I.list hq
   refine ⟨pl.isList.typeIs,λa e=>?_⟩
   cases e
   obtain ⟨o,n,e,c,hd,_⟩:=pl
   exact ⟨o,e,hd⟩
  ·refine ⟨⟨o,I.kIn p o hk,hc⟩,λa e=>?_⟩
   cases e
   exact ⟨o,I.kIn _ o hk,hd⟩
  ·have z:∃ o,s.heap.get? p=some o /\ o.ExactDict:=by
    rcases hk with ⟨kvs,hk⟩ | ⟨kvs,hk⟩
    ·obtain ⟨_,_,_,_,o,_,_,e,ex,_⟩:=I.hok p _ hk
     exact ⟨o,e,ex⟩
    ·obtain ⟨_,_,_,_,o,_,_,e,ex,_⟩:=I.hok p _ hk
     exact ⟨o,e,ex⟩
   obtain ⟨o,e,ex⟩:=z
   refine ⟨⟨o,e,ex.1⟩,λa e2=>?_⟩
   cases e2
   exact ⟨o,e,ex.2.1⟩
  ·obtain ⟨o,_,_,_,e,ex,_⟩:=I.hok p _ hk
   refine ⟨⟨o,e,ex.1⟩,λa e2=>?_⟩
   cases e2
   exact ⟨o,e,ex.2.1⟩
 | _=>exact False.elim ty
def tBM (K:W.Frag) (T:String) (r:V->List V->Hp->VK->Prop) (to:TE) (t:TA):TE:=λσ H Q=>to σ H λx H1=>tyV K T x H1 /\ t σ H1 λxs H2=>r x xs H2 Q
variable {o e:Expr} {es:List Expr} {to:TE} {t:TA} {name:Str} {apos cpos:Pos} {T id:String} {r:V->List V->Hp->VK->Prop}
def Pj (pa:PlainAttrs T) (slot:Slot T name id) (hty:typeOf (.builtin id)=pure (.type "method_descriptor")) (hm:MtR X id r) (ho:PE X o to) (ha:PA X (e :: es) t)
  (hbase:attributeBase o name X.env (eval o X.env)=eval o X.env:=by rfl)
  (hfew:((backTo cpos (starEach (e :: es) X.env)).all (λx=>!x.1) && (backToKw cpos (keywordEach [] X.env)).all (λx=>x.1.isSome)
   && decide ((e :: es).length + ([]:List Keyword).length + (if ([]:List Keyword).isEmpty then 0 else 1) < 30))=true:=by rfl)
  (hline:(apos.endLine == cpos.line)=true:=by rfl) (hs:starEach (e :: es) X.env=(false,eval e X.env) :: starEach es X.env:=by rfl) (hplain:(backTo cpos (starEach es X.env)).any (·.1)=false:=by rfl) :
  PE X (.Call (.Attribute o name apos) (e :: es) [] cpos) (tBM X.K T r to t):=by
 intro pn s σ H Q I h
 refine wpAny_Call_method_late hbase hfew hline rfl (thn (ho pn s σ H _ I h) λv s1 ⟨x,H1,I1,r1,ty,q1⟩=>?_)
 obtain ⟨h1,h2⟩:=Hb I1 r1 ty
 refine ⟨T,id,pa,slot,hty,h1,h2,?_⟩
 have hA:=ha cpos pn s1 σ H1 _ I1 q1
 rw [hs] at hA ⊢
 refine Calls.callWith_builtin (by show (false || (backTo cpos (starEach es X.env)).any (·.1))=false; rw [hplain] <;> rfl) (Calls.evalArgs_plain ?_)
 exact thn hA λus s2 ⟨vs,H2,I2,r2,q2⟩=>hm pn s2 σ H2 x vs v us Q I2 r1 r2 q2
end
def MtM (X:Cx) (id:String) (r:V->List V->Hp->VK->Prop):Prop :=
 ∀ (pn:List (Addr × Obj)) (s:Shared) (σ:St) (H:Hp) (x:V) (xs:List V) (v:Value) (us:List Value) (Q:VK),Inv X pn σ H s->RelV x v->Vals xs us->r x xs H Q ->
  wpAny (model X.prog X.w) X.A (call (.builtin id) (v :: us)) (EP X pn σ Q) X.xe s
def Vals.one:∀ {x:V} {us:List Value},Vals [x] us->∃ u,us=[u] /\ RelV x u
 | _,_,.cons r .nil=>⟨_,rfl,r⟩
def Vals.eraseIdx:∀ {xs:List V} {us:List Value} (i:Nat),Vals xs us->Vals (xs.eraseIdx i) (us.eraseIdx i)
 | _,_,_,.nil=>.nil
 | _,_,0,.cons _ t=>t
 | _,_,i + 1,.cons r t=>.cons r (Vals.eraseIdx i t)
def Vals.rep {xs:List V} {us:List Value} (h:Vals xs us):∀ k:Nat,Vals (List.replicate k xs).flatten (List.replicate k us).flatten
 | 0=>.nil
 | k + 1=>by
  rw [List.replicate_succ,List.replicate_succ,List.flatten_cons,List.flatten_cons]
  exact Vals.append h (Vals.rep h k)
def b8 {α:Type}:∀ (l:List α) (i:Nat),(l.eraseIdx i).length <= l.length
 | [],_=>zaj _
 | _ :: _,0=>Nat.le_succ _
 | _ :: r,i + 1=>Nat.succ_le_succ (b8 r i)
def ue (its:List Value):∀ (k:Nat) (acc:List Value),
  List.foldl (λx1 x2=>x1 ++ x2) acc.toArray (List.replicate k its.toArray)=(acc ++ (List.replicate k its).flatten).toArray
 | 0,acc=>by simp
 | k + 1,acc=>by
  have e:acc.toArray ++ its.toArray=(acc ++ its).toArray:=by simp
  have e2:(acc ++ its) ++ (List.replicate k its).flatten=acc ++ (List.replicate (k + 1) its).flatten:=by
   rw [List.replicate_succ,List.flatten_cons,List.append_assoc]
  rw [<- e2,<- ue its k (acc ++ its),<- e,List.replicate_succ,List.foldl_cons]
section
variable {X:Cx} {pn:List (Addr × Obj)} {σ:St} {H:Hp} {s:Shared} {l b:Addr} {xs ys zs:List V}
def Inv.lset {its its':List Value} {n:Nat} {f:Array Value->Array Value} {t':Nat} (I:Inv X pn σ H s) (hH:H l=some (.lst xs))
  (e:s.heap.get? l=some { cls:=.type "list", data:=.seq its.toArray n }) (hf:f its.toArray=its'.toArray) (hv:Vals ys its') (hz:ys.length <= sizeLine) :
  Inv X pn σ (upd H l (.lst ys)) { s with heap:=s.heap.update l (Obj.mapSeq f),toks:=t' }:=by
 have q:=PySem.IsL.update e f
 rw [hf] at q
 refine I.write (x:=l) (e:=l) (by rw [hH]; exact trivial) (.inl rfl) (λb' u hb hu=>(Heap.get?_update_other s.heap (Obj.mapSeq f) (Ne.symm hb)).trans hu) ⟨_,q⟩ ?_
 exact ⟨hz,its',_,hv,q⟩
def Inv.lnew {its:List Value} {t':Nat} (I:Inv X pn σ H s) (hv:Vals ys its) (hz:ys.length <= sizeLine) :
  Inv X pn σ (upd H s.heap.objs.size (.lst ys)) { s with heap:=s.heap.push { cls:=.type "list", data:=.seq its.toArray },toks:=t' } :=
 I.laid (λ_ _ q=>zac _ q) (zaj _) ⟨hz,its,0,hv,zad _ rfl⟩
def Inv.fresh (I:Inv X pn σ H s):H s.heap.objs.size=none:=I.hok.fresh (zaj _)
def Inv.lstM (I:Inv X pn σ H s) (hH:H l=some (.lst xs)):xs.length <= sizeLine /\ ∃ (its:List Value) (n:Nat),Vals xs its /\ xs.length=its.length /\ s.heap.get? l=some { cls:=.type "list", data:=.seq its.toArray n }:=by
 obtain ⟨z,its,n,r,e⟩:=I.hok l _ hH
 exact ⟨z,its,n,r,r.length,e⟩
def Wd {n:Nat} (h:n <= sizeLine):Builtin.List.listTooLong n=false:=by
 unfold Builtin.List.listTooLong
 exact decide_eq_false (by omega)
end
section
variable {X:Cx}
def Yc:V->List V->Hp->VK->Prop:=λx vs H Q=>∃ l xs y,x=.ref l /\ vs=[y] /\ H l=some (.lst xs) /\ xs.length < sizeLine /\ Q .non (upd H l (.lst (xs ++ [y])))
def qk:MtM X "list.append" Yc:=by
 intro pn s σ H x vs v us Q I rx rv h
 obtain ⟨l,xs,y,rfl,rfl,hH,hz,q⟩:=h
 cases rx
 obtain ⟨u,rfl,ru⟩:=rv.one
 obtain ⟨z,its,n,r,hl,e⟩:=I.lstM hH
 refine call_meets F.slot_list_append ⟨_,e,rfl⟩ F.entry_list_append (F.args_list_append_2 _ _) (PySem.list_append l its.toArray n u (by rw [zap]; omega)) ⟨e,?_⟩
 refine ⟨.non,_,I.lset (its':=its ++ [u]) hH e (by simp) (r.append (.cons ru .nil)) ?_,rfl,q⟩
 rw [zLa,List.length_singleton]
 omega
def T7:V->List V->Hp->VK->Prop:=λx vs H Q=>∃ l b xs zs,x=.ref l /\ vs=[.ref b] /\ H l=some (.lst xs) /\ H b=some (.lst zs) /\ xs.length + zs.length <= sizeLine /\ Q .non (upd H l (.lst (xs ++ zs)))
def S7:MtM X "list.extend" T7:=by
 intro pn s σ H x vs v us Q I rx rv h
 obtain ⟨l,b,xs,zs,rfl,rfl,hH,hB,hz,q⟩:=h
 cases rx
 obtain ⟨u,rfl,ru⟩:=rv.one
 cases ru
 obtain ⟨z,its,n,r,hl,e⟩:=I.lstM hH
 obtain ⟨z2,its2,n2,r2,hl2,e2⟩:=I.lstM hB
 have hsz:its.toArray.size + its2.toArray.size <= sizeLine:=by rw [zap,zap]; omega
 have hlong:¬ (!its.toArray.isEmpty && Builtin.List.listTooLong (its.toArray.size + its2.toArray.size))=true:=by
  rw [Wd hsz,Bool.and_false]
  exact Bool.false_ne_true
 refine call_meets F.slot_list_extend ⟨_,e,rfl⟩ F.entry_list_extend (F.args_list_extend_2 _ _)
  (AutoSeq1.list_extend_list_list_0 l its.toArray n b its2.toArray n2 hlong (by rw [zap]; omega) (by omega)) ⟨e,e2,?_⟩
 refine ⟨.non,_,I.lset (its':=its ++ its2) hH e (by simp) (r.append r2) ?_,rfl,q⟩
 rw [zLa]
 omega
def Nj:V->List V->Hp->VK->Prop:=λx vs H Q=>∃ l xs i k y,x=.ref l /\ vs=[.int i] /\ H l=some (.lst xs) /\ -(2 ^ 63) <= i /\ i < 2 ^ 63 /\ seqIndex? i xs.length=some k /\ xs[k]?=some y /\ Q y (upd H l (.lst (xs.eraseIdx k)))
def Pq:MtM X "list.pop" Nj:=by
 intro pn s σ H x vs v us Q I rx rv h
 obtain ⟨l,xs,i,k,y,rfl,rfl,hH,h1,h2,hk,hy,q⟩:=h
 cases rx
 obtain ⟨u,rfl,ru⟩:=rv.one
 obtain ⟨t,rfl⟩:=ru
 obtain ⟨z,its,n,r,hl,e⟩:=I.lstM hH
 obtain ⟨w,hw,rw'⟩:=r.get hy
 refine call_meets F.slot_list_pop ⟨_,e,rfl⟩ F.entry_list_pop (F.args_list_pop_2 _ _)
  (MeetsSeq.list_pop_at l its.toArray n i t k w (fitsIndex_both h1 h2) (by rw [zap,<- hl]; exact hk) (by rw [<- Array.getElem?_toList]; exact hw) (by rw [zap]; omega)) ⟨e,?_⟩
 refine ⟨y,_,I.lset (its':=its.eraseIdx k) hH e ?_ (r.eraseIdx k) ?_,rw',q⟩
 ·show its.toArray.eraseIdxIfInBounds k=(its.eraseIdx k).toArray
  rw [List.eraseIdxIfInBounds_toArray]
 ·have:=b8 xs k
  omega
def rCat:R2:=λx y H Q=>∃ l b xs zs,x=.ref l /\ y=.ref b /\ H l=some (.lst xs) /\ H b=some (.lst zs) /\ xs.length + zs.length <= sizeLine /\ ∀ p,H p=none->Q (.ref p) (upd H p (.lst (xs ++ zs)))
def Ff:OpR X (binaryOp .Add) rCat:=by
 intro pn s σ H x y v u Q I rx ry h
 obtain ⟨l,b,xs,zs,rfl,rfl,hH,hB,hz,q⟩:=h
 cases rx
 cases ry
 obtain ⟨z,its,n,r,hl,e⟩:=I.lstM hH
 obtain ⟨z2,its2,n2,r2,hl2,e2⟩:=I.lstM hB
 refine PySem.P.add_list e e2 ?_ (by rw [zap,zap]; omega)
 have ea:its.toArray ++ its2.toArray=(its ++ its2).toArray:=by simp
 rw [ea]
 exact ⟨.ref _,_,I.lnew (t':=s.toks) (r.append r2) (by rw [zLa]; omega),rfl,q _ I.fresh⟩
def rRep:R2:=λx y H Q=>∃ l k xs,x=.ref l /\ y=.int k /\ H l=some (.lst xs) /\ -(2 ^ 63) <= k /\ k < 2 ^ 63 /\ xs.length * k.toNat <= sizeLine /\
 ∀ p,H p=none->Q (.ref p) (upd H p (.lst (List.replicate k.toNat xs).flatten))
def gw {α:Type} (xs:List α) (k:Nat):(List.replicate k xs).flatten.length=k * xs.length:=by
 induction k with
 | zero=>simp
 | succ k ih=>rw [List.replicate_succ,List.flatten_cons,zLa,ih,Nat.succ_mul,Nat.add_comm]
def Fc:OpR X (binaryOp .Mult) rRep:=by
 intro pn s σ H x y v u Q I rx ry h
 obtain ⟨l,k,xs,rfl,rfl,hH,h1,h2,hz,q⟩:=h
 cases rx
 obtain ⟨t,rfl⟩:=ry
 obtain ⟨z,its,n,r,hl,e⟩:=I.lstM hH
 have hlen:its.toArray.size * k.toNat <= sizeLine:=by rw [zap,<- hl]; exact hz
 have hcap:¬ its.toArray.size * k.toNat > (2 ^ 63 - 1) / 8:=by
  have:(sizeLine:Nat) <= (2 ^ 63 - 1) / 8:=by decide
  omega
 have hfit:¬ (!Builtin.List.listFitsIndex k)=true:=by
  rw [fitsIndex_both h1 h2]
  exact Bool.false_ne_true
 have hlong:¬ Builtin.List.listTooLong (its.toArray.size * k.toNat)=true:=by
  rw [Wd hlen]
  exact Bool.false_ne_true
 have hnew:List.foldl (λx1 x2=>x1 ++ x2) #[] (List.replicate (if its.toArray.isEmpty=true then 0 else k.toNat) its.toArray)=(List.replicate k.toNat its).flatten.toArray:=by
  have f0:∀ m:Nat,List.foldl (λx1 x2=>x1 ++ x2) #[] (List.replicate m its.toArray)=(List.replicate m its).flatten.toArray:=λm=>by
   have:=ue its m []
   rw [List.nil_append] at this
   exact this
  rw [f0]
  cases its with
  | nil=>simp
  | cons a r'=>rw [if_neg (by simp)]
 refine wpAny_binaryOp_repeat_ref (T:="list") (U:="int") (by decide) ⟨_,e,rfl⟩ (λs'=>typeIs_int s' k t) noFill_list_mul F.fills_int_mul F.slot_int_rmul repeat_list F.slot_int_index.lookup
  (call_meets F.slot_int_rmul (typeIs_int s k t) F.entry_int_rmul (F.args_int_rmul_2 _ _) (int___rmul___int_list k t l its.toArray n)
   ⟨e,rfl,⟨_,e,rfl⟩,call_meets F.slot_list_mul ⟨_,e,rfl⟩ F.entry_list_mul (F.args_list_mul_2 _ _) (AutoListH.list___mul___list_int_3 l its.toArray n k t hfit hcap hlong) ⟨e,?_⟩⟩)
 rw [hnew]
 exact ⟨.ref _,_,I.lnew (t':=s.toks) (r.rep k.toNat) (by rw [gw,Nat.mul_comm]; exact hz),rfl,q _ I.fresh⟩
end
end L2
namespace Att
open PySem PySem.W PySem.Calls PyProof.Rows
def qt {P:Params} {h:Heap}:∀ (ns:List Int) (vs:List Value),WellAll P h vs (ns.map WData.int)->IntsAre vs ns:=by
 intro ns
 induction ns with
 | nil =>
  intro vs w
  rw [List.map_nil] at w
  cases w
  exact .nil
 | cons n ns ih =>
  intro vs w
  rw [List.map_cons] at w
  cases w with
  | cons a b =>
   cases a
   exact .cons _ _ (ih _ b)
def Ux {l:OpenLaw} {n:Nat} (hn:l.most=some n) {P:Params} {h:Heap} {args:List WData} {vals:List Value}
  (hpre:l.row.toRowW.claim.pre args=true) (hwl:WellAll P h vals args) :
  ∃ a vs ns,vals=[Value.ref a] /\ args=[WData.list (ns.map WData.int)] /\ h.get? a=some { cls:=.type "list", data:=.seq vs.toArray } /\ IntsAre vs ns /\ ns.length <= n:=by
 have hsh:WShape.hasAll [] args [.list .int]=true:=(pre_splitW hpre).1
 have hc:l.pre.holds [] { args:=args }=true:=(pre_splitW hpre).2
 obtain ⟨d,r,rfl,h1,h2⟩:=hasAllW_cons hsh
 obtain rfl:=hasAllW_nil h2
 obtain ⟨xs,rfl,h3⟩:=hasW_list h1
 obtain ⟨ns,rfl⟩:=items_int h3
 have hlen:ns.length <= n:=by
  unfold OpenLaw.pre at hc
  have h4:(WTm.not (.lt (.lit (.int (n:Int))) (.len (.arg 0)))).holds [] { args:=[.list (ns.map .int)] }=true:=by
   have h4:=(holds_andW hc).1
   rw [hn] at h4
   exact h4
  have h5:=condW_of h4 (w_not (w_lt w_lit (w_len_list (w_arg rfl))))
  rw [zLm] at h5
  refine Nat.le_of_not_lt λq=>?_
  have q':(n:Int) < ((ns.length:Nat):Int):=by omega
  first
   | (rw [decide_eq_true q'] at h5; exact absurd h5 (by decide))
   | (simp at h5; omega)
 cases hwl with
 | cons w1 w2 =>
  cases w2
  cases w1 with
  | list ho hall=>exact ⟨_,_,ns,rfl,rfl,ho,qt ns _ hall,hlen⟩
def Tf (l:OpenLaw) (args:List WData):l.row.toRowW.claim.post args (.bool true) args=true :=
 postW_of (r:=l.row.toRowW) (X:=(true == true))
  (show WShape.has [] (.bool true) .bool=true by first | rfl | decide | simp [WShape.has,WShape.arms,WShape.armsAll])
  (show (WTm.eq .res (.lit (.bool true))).value [] { args:=args,res:=some (.bool true),after:=args }=some (.bool (true == true)) from w_eq_bool (w_res rfl) w_lit) rfl
def attach_call {l:OpenLaw} {n:Nat} {q:Program} {loose:List Str} {XP:(Str->Option Value)->Heap->Prop} {YP:World->Heap->Prop} {d:DefRec}
  (hn:l.most=some n) (hdf:d.params.defaults=[])
  (call:∀ (w:World) (s₀ s₁:Shared) (mg mb:Str->Option Value) (fa:Addr) (o:Obj) (pm cd doc:Value) (a:Addr) (vs:List Value) (ns:List Int),
   Ground q loose [] XP w s₀ mg mb s₁.heap->YP w s₁.heap ->
   s₁.heap.get? fa=some o->o.data=.func (docDef d.name d.params d.body d.scope pm cd doc)->s₁.heap.CodeRec cd d.name->mg d.name=some (.ref fa) ->
   s₁.heap.get? a=some { cls:=.type "list", data:=.seq vs.toArray }->IntsAre vs ns->ns.length <= n->s₁.gens=#[] ->
   codeAny (model l.prog w) callerA (.call (.ref fa) ⟨[.ref a],[]⟩) (λr s'=>r=.ok (.ret (.bool true)) /\ OldK s₁.heap s'.heap /\ s'.os=s₁.os /\ AllBare s'.gens) s₁) :
  WalkO q loose XP YP l.row.toRowW d [] (λf vs=>PySem.call f vs):=by
 intro w s₀ s₁ mg mb G Y fa o pm cd doc dV kV ho hd hcd hD hmg hg args vals as hpre hlay hrd hwl hlo
 obtain rfl:dV=.none:=Dflts.none hD hdf
 obtain rfl:kV=.none:=Dflts.noKw hD
 obtain ⟨a,vs,ns,rfl,rfl,hobj,hints,hlen⟩:=Ux hn hpre hwl
 refine enter_call (codeAny_mono (call w s₀ s₁ mg mb fa o pm cd doc a vs ns G Y ho (fd_plain hd) hcd hmg hobj hints hlen hg) λr s' hq=>?_)
 obtain ⟨rfl,h2,h3,h4⟩:=hq
 exact ⟨.inl ⟨.bool true,.bool true,[],rfl,λ_=>rfl,.bool true,Tf l _,λ_=>⟨List.Pairwise.nil,λ_ hm=>(nomatch hm)⟩⟩,h2,h3,h4⟩
end Att
namespace L2
open PySem PySem.Spec PyProof.Rows
def di:∀ {vs:List Value} {ns:List Int},IntsAre vs ns->Vals (ns.map V.int) vs
 | _,_,.nil=>.nil
 | _,_,.cons n t h=>.cons ⟨t,rfl⟩ (di h)
def Only (H:Hp):Prop:=∀ b,H b=none \/ ∃ o xs,H b=some (.frz o (.lst xs))
def O4 {P:Program} {w:World} {K:W.Frag} {mg mb:Str->Option Value} {CX:CXT} {k:Nat} {fa a:Addr} {fd:FuncData} {x:Str} {sp:Sp} {s₁:Shared} {vs:List Value} {ns:List Int}
  (KX:K.In s₁.heap) (hns:s₁.heap.Ns mainGlobals mg) (hb:s₁.heap.Ns builtinsNs mb) (hbb:∀ x:Str,x ≠ "__name__"->mb x=bootBuiltins x) (hlim:s₁.heap.NoLimit) (hg:s₁.gens=#[])
  (ha:s₁.heap.get? a=some { cls:=.type "list", data:=.seq vs.toArray }) (hi:IntsAre vs ns) (hl:ns.length <= sizeLine) (hr:Room k callerA)
  (F:∀ base:Heap,K.In base->base.Ns mainGlobals mg->FnOk P w K mg base CX k fa fd [x] sp) (hbind:∀ (s:Shared) (u:Value),BindsTo s fd ⟨[u],[]⟩ [(x,u)])
  (hsp:∀ H:Hp,Only H->SqL K H a (ns.map V.int)->sp [.ref a] H (λv _=>v=.bl true) λ_ _ _=>False)
  (hCX:∀ H e s',CX [] H s₁ (λ_ _ _=>False) e s'->False) :
  codeAny (model P w) callerA (.call (.ref fa) ⟨[.ref a],[]⟩) (λr s'=>r=.ok (.ret (.bool true)) /\ OldK s₁.heap s'.heap /\ s'.os=s₁.os /\ AllBare s'.gens) s₁:=by
 have rv:=di hi
 have lenV:=hi.length
 have core:∀ H:Hp,Only H->SqL K H a (ns.map V.int)->HOk P w H s₁.heap->(∀ b,H b ≠ none->b=a)->(H a ≠ none->K.lookup a=none) ->
   codeAny (model P w) callerA (.call (.ref fa) ⟨[.ref a],[]⟩) (λr s'=>r=.ok (.ret (.bool true)) /\ OldK s₁.heap s'.heap /\ s'.os=s₁.os /\ AllBare s'.gens) s₁:=by
  intro H hO hS hok hA hK
  have base_of:∀ {b:Addr} {o:Obj},s₁.heap.get? b=some o->H b=none->(hidT s₁.heap H).get? b=some o:=λe n=>Ob e n
  have noA:∀ {b:Addr} {o:Obj} {es:Array DictEntry} {ep:Nat},s₁.heap.get? b=some o->o.data=.dict es ep->H b=none:=λ{b o es ep} e d=>by
   cases q:H b with
   | none=>rfl
   | some u =>
    have e':b=a:=hA b (by rw [q]; simp)
    subst e'
    rw [ha] at e; cases e
    have d':Data.seq vs.toArray _=Data.dict es ep:=d
    cases d'
  have nsK:∀ {b:Addr} {m:Str->Option Value},s₁.heap.Ns b m->(hidT s₁.heap H).Ns b m:=λ{b m} ⟨o,es,ep,e,d,r⟩=>⟨o,es,ep,base_of e (noA e d),d,r⟩
  have hKb:K.In (hidT s₁.heap H):=λb o e=>base_of (KX b o e) (by
   cases q:H b with
   | none=>rfl
   | some u =>
    have e':b=a:=hA b (by rw [q]; simp)
    subst e'
    rw [hK (by rw [q]; simp)] at e; cases e)
  have hM:Mod K mg (hidT s₁.heap H):=⟨hKb,nsK hns,⟨mb,nsK hb,hbb⟩,let ⟨mc,h1,h2⟩:=hlim; ⟨mc,nsK h1,h2⟩⟩
  have e0:Env0 P w K mg (hidT s₁.heap H) callerA [] s₁ H:=⟨rfl,hM,λb o e=>Ki e,Nat.le_of_eq (R7 _ _),trivial,λb hb=>absurd (show b ∈ ([]:List Addr) from hb) (by simp),hok,.of_eq hg⟩
  refine codeAny_mono ((F _ hKb (nsK hns)).run callerA [] s₁ H ⟨[.ref a],[]⟩ [.ref a] [.ref a] _ _ hr e0 (hbind s₁ (.ref a)) (.cons rfl .nil) (hsp H hO hS)) λr s' h=>?_
  cases r with
  | error e=>exact (hCX H e s' h).elim
  | ok fl =>
   cases fl with
   | next=>exact False.elim h
   | brk=>exact False.elim h
   | cont=>exact False.elim h
   | ret u =>
    obtain ⟨v,H',os,bare,un,hok',r',q⟩:=h
    have q':v=.bl true:=q
    subst q'
    obtain rfl:u=Value.bool true:=r'
    refine ⟨rfl,OldK.of_keep λb o e=>?_,os,bare⟩
    cases q:H b with
    | none=>exact un.keep b o e q (by intro z; exact absurd (show b ∈ ([]:List Addr) from z) (by simp)) (by simp)
    | some u =>
     rcases hO b with z | ⟨ob,xs,z⟩
     ·rw [q] at z; cases z
     ·have z2:=un.frzs b ob _ z
      obtain ⟨e1,_⟩:=hok b _ z
      obtain ⟨e2,_⟩:=hok' b _ z2
      rw [e] at e1; cases e1
      exact e2
 cases hk:K.lookup a with
 | some o =>
  have e:=KX a o hk
  rw [ha] at e
  cases e
  refine core (λ_=>none) (λ_=>.inl rfl) (.inr ⟨_,vs.toArray,_,hk,rfl,rfl,rfl,by rw [zap,lenV]; exact hl,by simpa using rv⟩) (λb u z=>by have z':(none:Option HO)=some u:=z; cases z') (λb z=>absurd rfl z) λz=>absurd rfl z
 | none =>
  refine core (λb=>if b=a then some (.frz { cls:=.type "list", data:=.seq vs.toArray } (.lst (ns.map V.int))) else none) (λb=>?_) (.inl (.inr ⟨{ cls:=.type "list", data:=.seq vs.toArray },if_pos rfl⟩)) (λb u z=>?_) (λb z=>?_) λ_=>hk
  ·by_cases hb:b=a
   ·exact .inr ⟨_,_,if_pos hb⟩
   ·exact .inl (if_neg hb)
  ·by_cases hb:b=a
   ·have z':=(if_pos hb).symm.trans z
    cases z'
    subst hb
    exact ⟨ha,by rw [zLm]; exact hl,vs,_,rv,ha⟩
   ·have z':=(if_neg hb).symm.trans z
    cases z'
  ·by_cases hb:b=a
   ·exact hb
   ·exact absurd (if_neg hb) z
abbrev KOf {K:W.Frag} {h:Heap} (_:K.In h):W.Frag:=K
def walk_of {l:W.OpenLaw} {n k:Nat} {q:Program} {loose:List Str} {XP:(Str->Option Value)->Heap->Prop} {YP:World->Heap->Prop} {d:DefRec} {K:Params->W.Frag} {CX:World->CXT} {sp:World->Sp} {x:Str}
  (hn:l.most=some n) (hn2:n <= sizeLine) (hdf:d.params.defaults=[]) (hr:Room k callerA)
  (hY:∀ (w:World) (h:Heap),YP w h->(K w.params).In h)
  (F:∀ (w:World) (mg:Str->Option Value) (fa:Addr) (h:Heap),(K w.params).In h->h.Ns mainGlobals mg->mg d.name=some (.ref fa) ->
   ∃ fd:FuncData,(∀ (s:Shared) (u:Value),BindsTo s fd ⟨[u],[]⟩ [(x,u)]) /\
    ∀ base:Heap,(K w.params).In base->base.Ns mainGlobals mg->FnOk l.prog w (K w.params) mg base (CX w) k fa fd [x] (sp w))
  (hsp:∀ (w:World) (H:Hp) (a:Addr) (ns:List Int),ns.length <= n->Only H->SqL (K w.params) H a (ns.map V.int)->sp w [.ref a] H (λv _=>v=.bl true) λ_ _ _=>False)
  (hCX:∀ (w:World) (H:Hp) (s:Shared) (e:Value) (s':Shared),CX w [] H s (λ_ _ _=>False) e s'->False) :
  W.WalkO q loose XP YP l.row.toRowW d [] (λf vs=>PySem.call f vs):=by
 refine Att.attach_call hn hdf λw s₀ s₁ mg mb fa o pm cd doc a vs ns G Y ho hd hcd hmg hobj hints hlen hg=>?_
 have KX:=hY w _ Y
 obtain ⟨fd,hb,hF⟩:=F w mg fa _ KX G.T.g hmg
 exact O4 KX G.T.g G.T.b G.T.builtins G.T.nolimit hg hobj hints (zak hlen hn2) hr hF hb (λH hO hS=>hsp w H a ns hlen hO hS) λH e s'=>hCX w H s₁ e s'
end L2
namespace L2
open PySem PySem.Spec PyProof.Rows
abbrev CX0:CXT:=λ_ _ _ _ _ _=>False
abbrev E0:XK:=λ_ _ _=>False
def Gz {X:Cx}:Qb CX0 X E0:=λ_ _ _ _ _ _ _ h=>h.elim
structure Fun (K:W.Frag) (x qual:Str) (st:Stmt) (f:Addr) (fd:FuncData):Prop where
 ex:∃ (oc:Value) (od:Option Addr) (kV doc pm:Value) (an:Option Addr) (qZ ct:Value) (osl:Array (Option Value)),
  fd=W.fnOf x qual (zv st) (zp st) (za st) .none kV doc pm an qZ ct /\ K.lookup f=some ⟨oc,od,.func fd,osl⟩ /\ W.codeIn K qZ qual=true
 kp:W.keepIn K (.ref f)=true
section
variable {P:Program} {w:World} {K:W.Frag} {mg:Str->Option Value} {base:Heap}
def Fun.ok {x qual:Str} {st:Stmt} {f:Addr} {fd:FuncData} {N ps:List Str} {k:Nat} {sp:Sp} (F:Fun K x qual st f fd) (S:zw N ps (za st)) (len:∀ vs H Q E,sp vs H Q E->vs.length=ps.length)
  (qY:∀ (qZ:Value) (A:Around) (outer:List Env) (s:Shared) (H:Hp) (vs:List V) (Q:VK) (E:XK),Room k (A.deeper (envOfC qual (za st) s.heap.objs.size f qZ))->sp vs H Q E ->
   ∃ t,PSs (cxOf CX0 P w K mg base N qual (za st) f qZ A outer s H E).nox (zp st) t /\ t { nx:=λ_ H'=>Q .non H',rt:=Q } (start N vs) H):FnOk P w K mg base CX0 (k + 1) f fd ps sp:=by
 obtain ⟨oc,od,kV,doc,pm,an,qZ,ct,osl,rfl,lk,hcd⟩:=F.ex
 refine Dp lk hcd S len λA outer s H vs Q E hr hsp=>?_
 obtain ⟨t,h,q⟩:=qY qZ A outer s H vs Q E hr hsp
 exact ⟨t,h.nox,q⟩
def Fun.binds {x qual:Str} {st:Stmt} {f:Addr} {fd:FuncData} {ps:List Str} (F:Fun K x qual st f fd)
  (h:∀ (kV doc pm:Value) (an:Option Addr) (qZ ct:Value) (us:List Value),us.length=ps.length->bindArgs (W.fnOf x qual (zv st) (zp st) (za st) .none kV doc pm an qZ ct) ⟨us,[]⟩=pure (ps.zip us)):dg K fd ps []:=by
 obtain ⟨oc,od,kV,doc,pm,an,qZ,ct,osl,rfl,lk,hcd⟩:=F.ex
 exact .all (h kV doc pm an qZ ct)
def ya {x qual:Str} {st:Stmt} {f:Addr} {oc:Value} {od an:Option Addr} {osl:Array (Option Value)} {kV doc pm qZ ct:Value} (l:K.lookup f=some ⟨oc,od,.func (W.fnOf x qual (zv st) (zp st) (za st) .none kV doc pm an qZ ct),osl⟩)
  (c:W.codeIn K qZ qual=true) (k:W.keepIn K (.ref f)=true):Fun K x qual st f (W.fnOf x qual (zv st) (zp st) (za st) .none kV doc pm an qZ ct):=⟨⟨oc,od,kV,doc,pm,an,qZ,ct,osl,rfl,l,c⟩,k⟩
end
def iteF {A B:Prop} (h:B):if false=true then A else B:=by
 rw [if_neg Bool.false_ne_true]
 exact h
def iteT {A B:Prop} (h:A):if true=true then A else B:=by
 rw [if_pos rfl]
 exact h
def Same (H H':Hp):Prop:=∀ b o,H b=some o->H' b=some o
def Same.refl (H:Hp):Same H H:=λ_ _ h=>h
def Same.trans {H H1 H2:Hp} (a:Same H H1) (b:Same H1 H2):Same H H2:=λc o h=>b c o (a c o h)
def Same.free {H H':Hp} (e:Same H H') {l:Addr} (h:H' l=Option.none):H l=Option.none:=by
 cases q:H l with
 | none=>rfl
 | some o =>
  rw [e l o q] at h
  cases h
end L2
namespace L3
open PySem PySem.Spec L2
open PyProof.Rows hiding St
def Ra {α β:Type} {f:α->β->Sem (ForInStep β)} (R:List α->β->Prop) (h:∀ x l c,R (x :: l) c->∃ c',f x c=pure (.yield c') /\ R l c') :
  ∀ (l:List α) (c:β),R l c->∃ c',forIn l c f=pure c' /\ R [] c'
 | [],c,r=>⟨c,rfl,r⟩
 | x :: l,c,r=>by
  obtain ⟨c1,e,r1⟩:=h x l c r
  obtain ⟨c2,e2,r2⟩:=Ra R h l c1 r1
  exact ⟨c2,by rw [List.forIn_cons,e,pure_bind]; exact e2,r2⟩
def Xh {env:Env} {x:Str} {c:Addr} (h:env.cells.lookup x=some c):cellOf env x=pure c:=by
 unfold cellOf
 rw [h]
def jz {scope:Scope} {env:Env} (h:∀ y ∈ scope.names,y.2=.free->∃ c,env.cells.lookup y.1=some c) :
  ∃ cl,closureFor scope env=pure cl /\ (∀ x c,cl.lookup x=some c->env.cells.lookup x=some c) /\ ∀ y ∈ scope.names,y.2=.free->∃ c,cl.lookup y.1=some c:=by
 let f:Str × NameKind->List (Str × Addr)->Sem (ForInStep (List (Str × Addr))):=λx r=>match x with
  | (name,kind)=>if (kind == .free)=true then (do let a <- cellOf env name; pure (.yield ((name,a) :: r))) else pure (.yield r)
 have q:=Ra (f:=f) (λrem cs=>(∀ x c,cs.lookup x=some c->env.cells.lookup x=some c) /\ (∀ y ∈ scope.names,y.2=.free->(∃ c,cs.lookup y.1=some c) \/ y ∈ rem) /\ ∀ y ∈ rem,y ∈ scope.names) ?_ scope.names []
  ⟨λx c e=>(by cases e),λy hy _=>.inr hy,λ_ hy=>hy⟩
 ·obtain ⟨cl,e,p1,p2,_⟩:=q
  refine ⟨cl,?_,p1,λy hy hf=>(p2 y hy hf).elim (λz=>z) λz=>(by cases z)⟩
  have e1:closureFor scope env=(forIn scope.names [] f >>= λr=>pure r):=rfl
  rw [e1,e,pure_bind]
 ·rintro ⟨n,k⟩ l cs ⟨p1,p2,p3⟩
  have hm:=p3 _ (zao ..)
  by_cases hk:k=.free
  ·subst hk
   obtain ⟨c,hc⟩:=h _ hm rfl
   refine ⟨(n,c) :: cs,?_,λx c' e=>?_,λy hy hf=>?_,λy hy=>p3 y (zal _ hy)⟩
   ·show (if ((NameKind.free == NameKind.free)=true) then _ else _)=_
    rw [if_pos (by decide),Xh hc,pure_bind]
   ·rw [List.lookup_cons] at e
    cases hx:x == n with
    | true =>
     rw [hx] at e
     have ex:x=n:=eq_of_beq hx
     subst ex
     cases e
     exact hc
    | false =>
     rw [hx] at e
     exact p1 x c' e
   ·rcases p2 y hy hf with ⟨c',e⟩ | z
    ·refine .inl ?_
     rw [List.lookup_cons]
     cases hx:y.1 == n with
     | true=>exact ⟨c,rfl⟩
     | false=>exact ⟨c',e⟩
    ·rcases zam.mp z with rfl | z
     ·exact .inl ⟨c,by rw [List.lookup_cons]; simp⟩
     ·exact .inr z
  ·refine ⟨cs,?_,p1,λy hy hf=>?_,λy hy=>p3 y (zal _ hy)⟩
   ·show (if ((k == NameKind.free)=true) then _ else _)=_
    rw [if_neg (by simpa using hk)]
   ·rcases p2 y hy hf with z | z
    ·exact .inl z
    ·rcases zam.mp z with rfl | z
     ·exact absurd hf hk
     ·exact .inr z
def xr {env:Env}:∀ {names:List (Str × NameKind)} {x:Str},names.lookup x=some .free ->
  (names.map λ(n,k)=>if (k == NameKind.free && env.scope.kind == .function && env.kindOf n == some .cell) then (n,NameKind.cell) else (n,k)).lookup x=some .cell \/
  (names.map λ(n,k)=>if (k == NameKind.free && env.scope.kind == .function && env.kindOf n == some .cell) then (n,NameKind.cell) else (n,k)).lookup x=some .free
 | [],_,h=>by cases h
 | (n,k) :: r,x,h=>by
  have ih:=@xr env r x
  rw [List.map_cons]
  cases hx:x == n with
  | true =>
   rw [List.lookup_cons,hx] at h
   cases h
   by_cases hc:(NameKind.free == NameKind.free && env.scope.kind == .function && env.kindOf n == some .cell)=true
   ·refine .inl ?_
    show List.lookup x ((if (NameKind.free == NameKind.free && env.scope.kind == .function && env.kindOf n == some .cell)=true then (n,NameKind.cell) else (n,NameKind.free)) :: _)=_
    rw [if_pos hc,List.lookup_cons,hx]
   ·refine .inr ?_
    show List.lookup x ((if (NameKind.free == NameKind.free && env.scope.kind == .function && env.kindOf n == some .cell)=true then (n,NameKind.cell) else (n,NameKind.free)) :: _)=_
    rw [if_neg hc,List.lookup_cons,hx]
  | false =>
   rw [List.lookup_cons,hx] at h
   have e:∀ (b:Bool) (l:List (Str × NameKind)),List.lookup x ((if b=true then (n,NameKind.cell) else (n,k)) :: l)=l.lookup x:=λb l=>by
    cases b with
    | true=>rw [if_pos rfl,List.lookup_cons,hx]
    | false=>rw [if_neg Bool.false_ne_true,List.lookup_cons,hx]
   rcases ih h with q | q
   ·exact .inl ((e _ _).trans q)
   ·exact .inr ((e _ _).trans q)
def tj {scope:Scope} {env:Env} (hnc:∀ y ∈ scope.names,y.2 ≠ .cell) {x:Str} {k:NameKind} (h:(relabel scope env).names.lookup x=some k) (hk:k=.cell \/ k=.free) :
  ∃ y ∈ scope.names,y.1=x /\ y.2=.free:=by
 have hm:=PySem.mem_of_lookup h
 obtain ⟨⟨n,k0⟩,hy,e⟩:=zah.mp hm
 refine ⟨(n,k0),hy,?_⟩
 have e':(if (k0 == NameKind.free && env.scope.kind == .function && env.kindOf n == some .cell)=true then (n,NameKind.cell) else (n,k0))=(x,k):=e
 by_cases hc:(k0 == NameKind.free && env.scope.kind == .function && env.kindOf n == some .cell)=true
 ·rw [if_pos hc] at e'
  cases e'
  refine ⟨rfl,?_⟩
  rw [Bool.and_eq_true,Bool.and_eq_true] at hc
  exact eq_of_beq hc.1.1
 ·rw [if_neg hc] at e'
  cases e'
  rcases hk with rfl | rfl
  ·exact absurd rfl (hnc _ hy)
  ·exact ⟨rfl,rfl⟩
abbrev yd (X:Cx) (N':List Str) (scope:Scope) (cl:List (Str × Addr)) (C:Addr) (fp:List Addr) (s₀:Shared) (H₀:Hp):Cx :=
 { X with N:=N',s₀:=s₀,H₀:=H₀,env:=compEnvC scope cl C X.env,outer:=X.stack,ex:=fp,fn:=λ_=>false,pn:=[],xe:=λ_ _=>False }
structure zt (psc scope:Scope) (T F:List Str):Prop where
 kind:scope.kind=.function
 nocell:∀ y ∈ scope.names,y.2 ≠ .cell
 loc:∀ y ∈ scope.names,y.2=.local->scope.names.lookup y.1=some .local
 fr:∀ y ∈ scope.names,y.2=.free->psc.names.lookup y.1=some .cell \/ psc.names.lookup y.1=some .free
 nd:(T ++ F).Nodup
 ffree:∀ x ∈ F,scope.names.lookup x=some .free
section
variable {X:Cx} {pn:List (Addr × Obj)} {σ:St} {H H':Hp} {s s':Shared} {scope:Scope} {T F:List Str} {cl:List (Str × Addr)} {C:Addr} {fp:List Addr} {js:List Nat}
def ki (I:Inv X pn σ H s) (S:zt X.env.scope scope T F):∀ y ∈ scope.names,y.2=.free->∃ c,X.env.cells.lookup y.1=some c:=λy hy hf=>I.ok.has y.1 (S.fr y hy hf)
def Ke (I:Inv X pn σ H s) (S:zt X.env.scope scope T F) (p1:∀ x c,cl.lookup x=some c->X.env.cells.lookup x=some c)
  (p2:∀ y ∈ scope.names,y.2=.free->∃ c,cl.lookup y.1=some c) (hC:s.heap.objs.size <= C) (hf:∀ b ∈ fp,FpOk X pn H b) (hfl:∀ b ∈ fp,b < s.heap.objs.size) :
  (yd X (T ++ F) scope cl C fp s H).Ok where
 mod:=I.ok.mod
 kind:=S.kind
 glob:=I.ok.glob
 blt:=I.ok.blt
 above:=hC
 inj:=λx y c hx hy=>I.ok.inj x y c (p1 x c hx) (p1 y c hy)
 has:=λx hx=>by
  have q:∃ y ∈ scope.names,y.1=x /\ y.2=.free:=by
   rcases hx with hx | hx
   ·exact tj (env:=X.env) S.nocell (show (relabel scope X.env).names.lookup x=some .cell from hx) (.inl rfl)
   ·exact tj (env:=X.env) S.nocell (show (relabel scope X.env).names.lookup x=some .free from hx) (.inr rfl)
  obtain ⟨y,hy,rfl,hf⟩:=q
  exact p2 y hy hf
 cab:=λx c h=>by cases h
 hd:=I.ok.hd
 frames:=I.ok.frames
 stk:=.inl rfl
 exf:=λb hb=>⟨Nat.ne_of_lt (Nat.lt_of_lt_of_le (hfl b hb) hC),λx c e=>(hf b hb).2.2.2.2.1 x c (p1 x c e)⟩
 bs:=I.bs
 bsz:=zak I.ok.bsz I.sz
 noex:=λb o e hb=>by
  rcases (hf b hb).2.2.2.1 with z | z
  ·exact I.ok.noex b o e z
  ·exact absurd (Nat.lt_of_lt_of_le (zae (I.ok.bs b o e).1) z) (Nat.lt_irrefl _)
 exfs:=λb hb z=>by
  rcases zam.mp (I.stkSub b z) with q | q
  ·exact (hf b hb).2.1 q
  ·exact (hf b hb).2.2.1 q
 funs:=I.stack
 frf:=I.stkFree
def st0 (T:List Str) (js:List Nat) (σ:St):St:=List.replicate T.length none ++ js.map λj=>(σ[j]?).join
def ux {α β:Type} {R:α->β->Prop}:∀ {l:List α} {r:List β} {i:Nat} {b:β},Paired R l r->r[i]?=some b->∃ a,l[i]?=some a /\ R a b
 | _,_,_,_,.nil,e=>by simp at e
 | _,_,0,_,.cons h _,e=>by simp at e; subst e; exact ⟨_,rfl,h⟩
 | _,_,i + 1,b,.cons _ t,e=>by
  obtain ⟨a,q1,q2⟩:=ux (i:=i) (b:=b) t (by simpa using e)
  exact ⟨a,by simpa using q1,q2⟩
def O9 {h₁:Heap} {m:Str->Option Value} {t':Nat} (I:Inv X pn σ H s) (S:zt X.env.scope scope T F) (p1:∀ x c,cl.lookup x=some c->X.env.cells.lookup x=some c)
  (p2:∀ y ∈ scope.names,y.2=.free->∃ c,cl.lookup y.1=some c) (hjs:Paired (λx j=>X.N[j]?=some x) F js) (hC:s.heap.objs.size <= C) (hf:∀ b ∈ fp,FpOk X pn H b) (hfl:∀ b ∈ fp,b < s.heap.objs.size)
  (hn:h₁.Ns C m) (hk:∀ b o,s.heap.get? b=some o->h₁.get? b=some o):Inv (yd X (T ++ F) scope cl C fp s H) [] (st0 T js σ) H { s with heap:=h₁,toks:=t' }:=by
 refine ⟨Ke I S p1 p2 hC hf hfl,rfl,I.bare,Un.kept hk,⟨m,hn,λi x v h1 h2 h3=>?_⟩,λx c e=>?_,I.hok.fresh hC,λx c e=>I.freeC x c (p1 x c e),λp hp=>(by cases hp),I.hok.kept hk,?_⟩
 ·have hi:T.length <= i:=by
   rcases Nat.lt_or_ge i T.length with z | z
   ·exfalso
    unfold st0 at h2
    rw [List.getElem?_append_left (by simpa using z),List.getElem?_replicate] at h2
    split at h2 <;> cases h2
   ·exact z
  unfold st0 at h2
  rw [List.getElem?_append_right (by simpa using hi),zai,List.length_replicate] at h2
  cases ej:js[i - T.length]? with
  | none=>rw [ej] at h2; cases h2
  | some j =>
   rw [ej] at h2
   have hσ:(σ[j]?).join=some v:=Option.some.inj h2
   obtain ⟨x',hx',hX⟩:=ux hjs ej
   have h1':(T ++ F)[i]?=some x:=h1
   rw [List.getElem?_append_right hi,hx'] at h1'
   cases h1'
   have hσ':σ[j]?=some (some v):=by
    cases e:σ[j]? with
    | none=>rw [e] at hσ; cases hσ
    | some o=>rw [e] at hσ; cases hσ; rfl
   have hxF:x ∈ F:=zan hx'
   have hfree:=S.ffree x hxF
   have hpsc:=S.fr _ (PySem.mem_of_lookup hfree) rfl
   obtain ⟨m0,_,look⟩:=I.loc
   obtain ⟨u,ru,lk⟩:=look j x v hX hσ' (.inr hpsc)
   refine ⟨u,ru,?_⟩
   rcases lk with ⟨k,_⟩ | ⟨_,c,hc,hcell⟩
   ·exfalso
    have k':X.env.scope.names.lookup x=some .local:=k
    rcases hpsc with z | z
    ·rw [k'] at z; cases z
    ·rw [k'] at z; cases z
   ·obtain ⟨c',hc'⟩:=p2 _ (PySem.mem_of_lookup hfree) rfl
    have e2:=p1 x c' hc'
    rw [hc] at e2
    cases e2
    refine .inr ⟨?_,c,hc',hcell.keeps hk⟩
    exact xr (env:=X.env) hfree
 ·obtain ⟨v,q⟩:=I.cell x c (p1 x c e)
  exact ⟨v,q.keeps hk⟩
 ·show (st0 T js σ).length=(T ++ F).length
  unfold st0
  rw [zLa,zLa,List.length_replicate,zLm,(Paired.length hjs)]
def Oa {N':List Str} {σ':St} (I:Inv X pn σ H s) (J:Inv (yd X N' scope cl C fp s H) [] σ' H' s') (hf:∀ b ∈ fp,FpOk X pn H b):Inv X pn σ H' s' :=
 I.call' (ch:=fp) (show s'.os=s.os from J.os) J.base J.hok J.bare λb hb=>⟨(hf b hb).2.2.2.1,(hf b hb).2.1,(hf b hb).2.2.2.2.1,(hf b hb).2.2.2.2.2⟩
end
section
variable {prog:Program} {w:World} {A:Around} {R:Result->Shared->Prop} {s:Shared}
def Vv {elt target iter:Expr} {ifs:List Expr} {scope:Scope} {pos:Pos} {it acc:Value} {env:Env} (I:Nat->Shared->Prop)
  (turn:∀ n s,I n s->wpAny (model prog w) A (pyNext it) (λr s₁=>match r with
   | none=>R (.ok .next) s₁
   | some v=>wpAny (model prog w) A (letOwnedTupleGo target it v) (λ_ s₂=>wpAny (model prog w) A (assign target env v) (λ_ s₃ =>
     wpAny (model prog w) A (forIn ifs true λc r=>if r=true then do let ok <- isTrue c env (eval c env); pure (ForInStep.yield ok) else pure (ForInStep.yield r)) (λok s₄ =>
      if ok=true then wpAny (model prog w) A (eval elt env) (λx s₅=>wpAny (model prog w) A (call (.builtin "list.append") [acc,x]) (λ_ s₆=>∃ m,m < n /\ I m s₆) (λ_ _=>False) s₅) (λ_ _=>False) s₄
      else ∃ m,m < n /\ I m s₄) (λ_ _=>False) s₃) (λ_ _=>False) s₂) (λ_ _=>False) s₁) (λ_ _=>False) s)
  (n:Nat) (h:I n s):codeAny (model prog w) A (.compLoop (.ListComp elt [⟨target,iter,ifs,0⟩] scope pos) 0 it acc env) R s:=by
 refine codeAny_loop rfl I (λn s hI=>?_) n h
 show wpAny _ A ((compTurn (.ListComp elt [⟨target,iter,ifs,0⟩] scope pos) 0 it acc env).onRaise (λx=>do noteFrame x env; theTreesLotGoes x)) _ _ s
 refine wpAny_noted (wpAny_noRaise ?_)
 rw [compTurn_list]
 refine zaa (wpAny_standAt (zaa (thn (turn n s hI) λr s₁ h₁=>?_)))
 cases r with
 | none=>exact zab h₁
 | some v =>
  refine zaa (thn h₁ λ_ s₂ h₂=>zaa (thn h₂ λ_ s₃ h₃=>zaa (thn h₃ λok s₄ h₄=>?_)))
  cases ok with
  | false=>exact zab ⟨rfl,h₄⟩
  | true=>exact zaa (zaa (thn h₄ λx s₅ h₅=>zaa (thn h₅ λ_ s₆ h₆=>zab (zab ⟨rfl,h₆⟩))))
end
def PIf (X:Cx) (ifs:List Expr) (t:TT):Prop :=
 ∀ (pn:List (Addr × Obj)) (s:Shared) (σ:St) (H:Hp) (Q:Bool->Hp->Prop),Inv X pn σ H s->t σ H Q ->
  wpAny (model X.prog X.w) X.A (forIn ifs true λc r=>if r=true then do let ok <- isTrue c X.env (eval c X.env); pure (ForInStep.yield ok) else pure (ForInStep.yield r)) (TP X pn σ Q) X.xe s
def tYes:TT:=λ_ H Q=>Q true H
def Tg {X:Cx}:PIf X [] tYes:=λ_ _ _ H _ I h=>wpAny_tests_nil ⟨H,I,h⟩
def Ly {X:Cx} {c:Expr} {tc:TT} (h:PT X c tc):PIf X [c] tc:=λpn s σ H Q I q=>wpAny_tests_one (h pn s σ H Q I q)
def yx (n:Nat) (σ σ':St):Prop:=σ'.length=σ.length /\ ∀ i,n <= i->σ'[i]?=σ[i]?
def yx.refl (n:Nat) (σ:St):yx n σ σ:=⟨rfl,λ_ _=>rfl⟩
def yx.trans {n:Nat} {a b c:St} (x:yx n a b) (y:yx n b c):yx n a c:=⟨y.1.trans x.1,λi h=>(y.2 i h).trans (x.2 i h)⟩
def yx.set {n i:Nat} {σ:St} {v:V} (h:i < n):yx n σ (σ.set i (some v)):=⟨by simp,λj hj=>by rw [List.getElem?_set_ne (by omega)]⟩
def j8 (n:Nat) (g:TG):Prop:=∀ v σ H Q,g v σ H Q->g v σ H λσ' H'=>Q σ' H' /\ yx n σ σ'
def V1 (n:Nat) (g:TGs):Prop:=∀ vs σ H Q,g vs σ H Q->g vs σ H λσ' H'=>Q σ' H' /\ yx n σ σ'
def yh {n i:Nat} (h:i < n):j8 n (vo i):=λv σ H Q q=>⟨q,yx.set h⟩
def R9 {n:Nat}:V1 n gNil:=λvs σ H Q q=>⟨q.1,q.2,yx.refl n σ⟩
def t4 {n:Nat} {t:TG} {u:TGs} (mono:∀ v σ H Q Q',(∀ σ' H',Q σ' H'->Q' σ' H')->t v σ H Q->t v σ H Q') (monos:∀ v σ H Q Q',(∀ σ' H',Q σ' H'->Q' σ' H')->u v σ H Q->u v σ H Q') (h1:j8 n t) (h2:V1 n u):V1 n (Z5 t u):=λvs σ H Q q=>by
 obtain ⟨v,r,e,q⟩:=q
 refine ⟨v,r,e,mono _ _ _ _ _ (λσ' H' z=>?_) (h1 v σ H _ q)⟩
 exact monos _ _ _ _ _ (λσ2 H2 y=>⟨y.1,z.2.trans y.2⟩) (h2 r σ' H' Q z.1)
def R8 {K:W.Frag} {n k:Nat} {t:TGs} (h:V1 n t):j8 n (gTup K k t):=λv σ H Q q=>by
 obtain ⟨a,xs,e,hq,hl,q⟩:=q
 exact ⟨a,xs,e,hq,hl,h xs σ H Q q⟩
def wk {i:Nat}:∀ v σ H (Q Q':St->Hp->Prop),(∀ σ' H',Q σ' H'->Q' σ' H')->vo i v σ H Q->vo i v σ H Q':=λ_ _ _ _ _ f q=>f _ _ q
def jq:∀ v σ H (Q Q':St->Hp->Prop),(∀ σ' H',Q σ' H'->Q' σ' H')->gNil v σ H Q->gNil v σ H Q':=λ_ _ _ _ _ f q=>⟨q.1,f _ _ q.2⟩
def X2 {t:TG} {u:TGs} (mono:∀ v σ H Q Q',(∀ σ' H',Q σ' H'->Q' σ' H')->t v σ H Q->t v σ H Q') (monos:∀ v σ H Q Q',(∀ σ' H',Q σ' H'->Q' σ' H')->u v σ H Q->u v σ H Q') :
  ∀ v σ H (Q Q':St->Hp->Prop),(∀ σ' H',Q σ' H'->Q' σ' H')->Z5 t u v σ H Q->Z5 t u v σ H Q':=λvs σ H Q Q' f q=>by
 obtain ⟨v,r,e,q⟩:=q
 exact ⟨v,r,e,mono _ _ _ _ _ (λσ' H' z=>monos _ _ _ _ _ f z) q⟩
def Hk (J:It) (g:TG) (tc:TT) (te:TE) (σ0:St) (D:Addr) (Z:Hp->Prop) (H:Hp):Prop :=
 ∃ W:Nat->Nat->List V->Hp->Prop,(∃ m,W 0 m [] H) /\ ∀ i m ys H,W i m ys H->H D=some (.lst ys) /\ ((J.stop i H /\ Z H) \/ (J.go i H /\ ∃ N:List V->Hp->Prop,(∀ zs H',N zs H'->∃ m',m' < m /\ W (i + 1) m' zs H') /\ ∀ x H',J.yld i H x H' ->
  g x σ0 H' λσ2 H2=>tc σ2 H2 λb H3=>if b=true then te σ2 H3 λy H4=>H4 D=some (.lst ys) /\ ys.length < sizeLine /\ N (ys ++ [y]) (upd H4 D (.lst (ys ++ [y]))) else N ys H3))
def Uh (wi:TI) (T:List Str) (js:List Nat) (g:TG) (tc:TT) (te:TE):TE:=λσ H Q=>wi σ H λJ H1=>∀ D,H1 D=none->Hk J g tc te (st0 T js σ) D (Q (.ref D)) (upd H1 D (.lst []))
section
variable {X:Cx} {pn:List (Addr × Obj)} {σ:St} {H2:Hp} {s2:Shared} {scope:Scope} {T F:List Str} {cl:List (Str × Addr)} {fp:List Addr} {js:List Nat} {tg iter elt:Expr} {ifs:List Expr} {pos:Pos}
 {g:TG} {tc:TT} {te:TE} {J:It} {it:Addr} {tn:Nat->Heap->Prop} {E:Value->Shared->Prop} {RR:Value->Addr->Result->Shared->Prop}
def jy (hc:X.calm=true) (S:zt X.env.scope scope T F) (hjs:Paired (λx j=>X.N[j]?=some x) F js)
  (hg:∀ cl C fp s H,PG (yd X (T ++ F) scope cl C fp s H) tg g) (hk:j8 T.length g)
  (ht:∀ cl C fp s H,PIf (yd X (T ++ F) scope cl C fp s H) ifs tc) (he:∀ cl C fp s H,PE (yd X (T ++ F) scope cl C fp s H) elt te)
  (p1:∀ x c,cl.lookup x=some c->X.env.cells.lookup x=some c) (p2:∀ y ∈ scope.names,y.2=.free->∃ c,cl.lookup y.1=some c)
  (I2:Inv X pn σ H2 s2) (Tn:Turn X.prog X.w X.K tg J fp it tn) (st2:tn 0 s2.heap) (f2:∀ b ∈ fp,FpOk X pn H2 b) (Z:Addr->Hp->Prop)
  (loop:∀ D,H2 D=none->Hk J g tc te (st0 T js σ) D (Z D) (upd H2 D (.lst [])))
  (hRR:∀ D C H' s' m',s'.heap.Ns C m'->FpOk X pn H' C->Inv X pn σ H' s'->Z D H'->RR (.ref D) C (.ok .next) s') :
  wpAny (model X.prog X.w) X.A (newList []) (λacc s₃=>wpAny (model X.prog X.w) X.A (newFunctionEnv scope X.env.globals cl [] X.env.qual none .none (some X.env)) (λcenv s₄ =>
   codeAny (model X.prog X.w) X.A (.compStart (.ListComp elt [⟨tg,iter,ifs,0⟩] scope pos) 0 (.ref it) acc { cenv with scope:=relabel scope X.env }) (RR acc cenv.locals) s₄) E s₃) E s2:=by
 refine wpAny_newObj_type (wpAny_newFunctionEnv S.nocell (by intro y hy; cases hy) (λh₁ hns hsb=>?_) S.kind)
 dsimp only at hns hsb ⊢
 have I3:Inv X pn σ (upd H2 s2.heap.objs.size (.lst [])) { s2 with heap:=s2.heap.push { cls:=.type "list", data:=.seq ([]:List Value).toArray } }:=I2.lnew (its:=[]) (t':=s2.toks) .nil (Nat.zero_le _)
 have hobj:∀ b ∈ fp,b < s2.heap.objs.size:=λb hb=>by
  obtain ⟨o,e,_⟩:=Tn.obj _ _ st2 b hb
  exact zae e
 have f3:∀ b ∈ fp,FpOk X pn (upd H2 s2.heap.objs.size (.lst [])) b:=λb hb=>⟨by rw [zg (Nat.ne_of_lt (hobj b hb))]; exact (f2 b hb).1,(f2 b hb).2⟩
 obtain ⟨W,⟨m0,w0⟩,turn⟩:=loop s2.heap.objs.size I2.fresh
 generalize hs3:({ s2 with heap:=s2.heap.push { cls:=.type "list", data:=.seq ([]:List Value).toArray } }:Shared)=s3 at I3
 have e3:s2.heap.push { cls:=.type "list", dict:=none,data:=.seq ([]:List Value).toArray }=s3.heap:=by rw [<- hs3]
 rw [e3] at hns hsb ⊢
 have sz3:s3.heap.objs.size=s2.heap.objs.size + 1:=by rw [<- e3,Heap.size_push]
 have hold:∀ b o,s3.heap.get? b=some o->h₁.get? b=some o:=λb o e=>hsb.extBut b o (Nat.ne_of_lt (zae e)) (zac _ e)
 have hobj3:∀ b ∈ fp,b < s3.heap.objs.size:=λb hb=>by rw [sz3]; exact Nat.lt_succ_of_lt (hobj b hb)
 have J0:Inv (yd X (T ++ F) scope cl s3.heap.objs.size fp s3 (upd H2 s2.heap.objs.size (.lst []))) [] (st0 T js σ) (upd H2 s2.heap.objs.size (.lst [])) { s3 with heap:=h₁,toks:=s2.toks + ([]:List (Str × Value)).length } :=
  O9 I3 S p1 p2 hjs (zaj _) f3 hobj3 hns hold
 have stL:tn 0 h₁:=Tn.keep _ _ _ st2 λb _ o e=>hold b o (by rw [<- e3]; exact zac _ e)
 have es:({ s2 with heap:=h₁,toks:=s2.toks + ([]:List (Str × Value)).length }:Shared)={ s3 with heap:=h₁,toks:=s2.toks + ([]:List (Str × Value)).length }:=by rw [<- hs3]
 have main:codeAny (model X.prog X.w) X.A (.compLoop (.ListComp elt [⟨tg,iter,ifs,0⟩] scope pos) 0 (.ref it) (.ref s2.heap.objs.size) (compEnvC scope cl s3.heap.objs.size X.env)) (RR (.ref s2.heap.objs.size) s3.heap.objs.size)
   { s3 with heap:=h₁,toks:=s2.toks + ([]:List (Str × Value)).length }:=by
  have stat:∀ {H':Hp},(∀ b ∈ fp,H' b=none)->∀ b ∈ fp,FpOk (yd X (T ++ F) scope cl s3.heap.objs.size fp s3 (upd H2 s2.heap.objs.size (.lst []))) [] H' b:=λhn b hb =>
   ⟨hn b hb,Nat.ne_of_lt (hobj3 b hb),J0.ok.exfs b hb,.inl hb,(J0.ok.exf b hb).2,λp hp=>(by cases hp)⟩
  refine Vv (λn s'=>∃ i ys H',Inv (yd X (T ++ F) scope cl s3.heap.objs.size fp s3 (upd H2 s2.heap.objs.size (.lst []))) [] (st0 T js σ) H' s' /\ tn i s'.heap /\ (∀ b ∈ fp,H' b=none) /\ W i n ys H') ?_ m0
   ⟨0,[],_,J0,stL,λb hb=>(f3 b hb).1,w0⟩
  rintro n s4 ⟨i,ys,H4,I4,st4,fr4,w4⟩
  obtain ⟨hD,alt⟩:=turn i n ys H4 w4
  rcases alt with ⟨stop,z⟩ | ⟨go,N,hN,step⟩
  ·refine thn (Tn.done (yd X (T ++ F) scope cl s3.heap.objs.size fp s3 (upd H2 s2.heap.objs.size (.lst []))) rfl rfl rfl hc i [] s4 _ H4 (λ_ _=>False) I4 (stat fr4) st4 stop) λr s5 ⟨hr,I5⟩=>?_
   subst hr
   obtain ⟨m5,n5,_⟩:=I5.loc
   have fC:FpOk X pn H4 s3.heap.objs.size:=I2.fpOk (by rw [sz3]; exact Nat.le_succ _) I5.free
   exact hRR _ _ H4 s5 m5 n5 fC ((Oa I3 I5 f3)) z
  ·refine thn (Tn.item (yd X (T ++ F) scope cl s3.heap.objs.size fp s3 (upd H2 s2.heap.objs.size (.lst []))) rfl rfl rfl hc i [] s4 _ H4 (λ_ _=>False) I4 (stat fr4) st4 go) λr s5 ⟨u,hr,h5⟩=>?_
   subst hr
   refine thn h5 λ_ s6 ⟨x,H6,I6,r6,y6,st6,fr6⟩=>?_
   have I6':=I6.pinned (stat fr6) (Tn.obj _ _ st6)
   refine thn (hg _ _ _ _ _ _ s6 _ H6 x u _ I6' r6 (hk x _ H6 _ (step x H6 y6))) λ_ s7 ⟨σ7,H7,I7,q7,kp⟩=>?_
   refine thn (ht _ _ _ _ _ _ s7 σ7 H7 _ I7 q7) λok s8 ⟨H8,I8,q8⟩=>?_
   have again:∀ {s9:Shared} {H9:Hp},Inv (yd X (T ++ F) scope cl s3.heap.objs.size fp s3 (upd H2 s2.heap.objs.size (.lst []))) ([] ++ cv fp s6.heap) σ7 H9 s9->∀ {zs:List V},(∃ m',m' < n /\ W (i + 1) m' zs H9) ->
     ∃ m,m < n /\ ∃ i ys H',Inv (yd X (T ++ F) scope cl s3.heap.objs.size fp s3 (upd H2 s2.heap.objs.size (.lst []))) [] (st0 T js σ) H' s9 /\ tn i s9.heap /\ (∀ b ∈ fp,H' b=none) /\ W i m ys H':=λ{s9 H9} I9 {zs} q9=>by
    obtain ⟨m',hm,w9⟩:=q9
    have I9':=I9.unpinned
    refine ⟨m',hm,i + 1,zs,H9,I9'.weak kp.1.symm (λa v ea=>?_),Tn.keep _ _ _ st6 λb hb o e=>(I9.pin (b,o) (List.mem_append_right _ (List.mem_append_right _ (v5 hb e)))).1,λb hb=>?_,w9⟩
    ·have ha:T.length <= a:=by
      rcases Nat.lt_or_ge a T.length with z | z
      ·exfalso
       unfold st0 at ea
       rw [List.getElem?_append_left (by simpa using z),List.getElem?_replicate] at ea
       split at ea <;> cases ea
      ·exact z
     rw [kp.2 a ha]
     exact ea
    ·obtain ⟨o,e,d⟩:=Tn.obj _ _ st6 b hb
     exact (I9.pin (b,o) (List.mem_append_right _ (List.mem_append_right _ (v5 hb e)))).2.1
   cases ok with
   | false =>
    rw [if_neg Bool.false_ne_true] at q8 ⊢
    exact again I8 (hN _ _ q8)
   | true =>
    rw [if_pos rfl] at q8 ⊢
    refine thn (he _ _ _ _ _ _ s8 σ7 H8 _ I8 q8) λy s9 ⟨v9,H9,I9,r9,hD9,hl9,q9⟩=>?_
    refine thn (qk _ s9 σ7 H9 (.ref s2.heap.objs.size) [v9] (.ref s2.heap.objs.size) [y] (λ_ H10=>H10=upd H9 s2.heap.objs.size (.lst (ys ++ [v9]))) I9 rfl (.cons r9 .nil) ⟨_,_,_,rfl,rfl,hD9,hl9,rfl⟩) λ_ s10 ⟨_,H10,I10,_,e10⟩=>?_
    subst e10
    exact again I10 (hN _ _ q9)
 show codeAny _ _ _ _ ({ s2 with heap:=h₁,toks:=s2.toks + ([]:List (Str × Value)).length }:Shared)
 rw [es]
 exact codeAny_compStart_list main (Tn.self _ 0 _ _ _ stL main)
def Tp {wi:TI} (hc:X.calm=true) (hi:PI X tg iter wi) (S:zt X.env.scope scope T F) (hjs:Paired (λx j=>X.N[j]?=some x) F js)
  (hg:∀ cl C fp s H,PG (yd X (T ++ F) scope cl C fp s H) tg g) (hk:j8 T.length g)
  (ht:∀ cl C fp s H,PIf (yd X (T ++ F) scope cl C fp s H) ifs tc) (he:∀ cl C fp s H,PE (yd X (T ++ F) scope cl C fp s H) elt te)
  (hs:∀ x,foldedSetIterable iter X.env x=pure x:=by intro _; rfl):PE X (.ListComp elt [⟨tg,iter,ifs,0⟩] scope pos) (Uh wi T js g tc te):=by
 intro pn s σ H Q I h
 obtain ⟨cl,hcl,p1,p2⟩:=jz (ki I S)
 rw [eval_ListComp]
 refine wpAny_comprehension_free (use:=none) rfl hs hcl S.kind S.loc (thn (hi pn s σ H _ I h) λv s1 h1=>thn h1 λitv s2 h2=>?_)
 obtain ⟨it,fp,tn,J,H2,e,I2,Tn,st2,f2,loop⟩:=h2
 subst e
 refine jy (RR:=λacc C=>compPost (model X.prog X.w) X.A X.xe none (EP X pn σ Q) acc C) hc S hjs hg hk ht he p1 p2 I2 Tn st2 f2 (λD H'=>Q (.ref D) H') loop ?_
 intro D C H' s' m' hn fC I' z
 obtain ⟨f0,f1,f2,f3,f4,f5⟩:=fC
 exact ⟨m',hn,λh' sb=>⟨.ref D,H',I'.turned (t':=s'.toks) (λb o hb e=>(sb.2 b hb).trans e) f0 f1 f3 f4 f5,rfl,z⟩⟩
def jj {wi:TI} {i:Nat} {y:Str} {py spos:Pos} (hc:X.calm=true) (hN:X.N.Nodup) (hy:X.N[i]?=some y) (hl:X.env.scope.names.lookup y=some .local \/ X.env.scope.names.lookup y=some .cell) (hi:PI X tg iter wi) (S:zt X.env.scope scope T F) (hjs:Paired (λx j=>X.N[j]?=some x) F js)
  (hg:∀ cl C fp s H,PG (yd X (T ++ F) scope cl C fp s H) tg g) (hk:j8 T.length g)
  (ht:∀ cl C fp s H,PIf (yd X (T ++ F) scope cl C fp s H) ifs tc) (he:∀ cl C fp s H,PE (yd X (T ++ F) scope cl C fp s H) elt te)
  (hsw:swapsWith (.ListComp elt [⟨tg,iter,ifs,0⟩] scope pos) (some (.Name y py)) spos.line X.env=pure true:=by rfl)
  (hs:∀ x,foldedSetIterable iter X.env x=pure x:=by intro _; rfl) (hfn:X.fn y=true \/ X.env.scope.names.lookup y=some .local:=by first | exact .inl rfl | exact .inr rfl | assumption) :
  PS X (.Assign [.Name y py] (.ListComp elt [⟨tg,iter,ifs,0⟩] scope pos) spos) (λD σ H=>Uh wi T js g tc te σ H λv H1=>D.nx (σ.set i (some v)) H1):=by
 intro pn s σ H D I h
 obtain ⟨cl,hcl,p1,p2⟩:=jz (ki I S)
 rw [exec_Assign_Name_used _ _ _ _ hsw]
 refine zaa (wpAny_standAt (zaa ?_))
 show wpAny _ X.A (do let _ <- comprehension (.ListComp elt [⟨tg,iter,ifs,0⟩] scope pos) scope X.env _ (newList []) false (eval iter X.env) (some (assign (.Name y py) X.env))) _ _ s
 refine zaa (thn (wpAny_comprehension_free (use:=some (assign (.Name y py) X.env)) (Q:=λ_ s'=>SP X pn D .next s') rfl hs hcl S.kind S.loc (thn (hi pn s σ H _ I h) λv s1 h1=>thn h1 λitv s2 h2=>?_)) λ_ s' hq=>zab (zab hq))
 obtain ⟨it,fp,tn,J,H2,e,I2,Tn,st2,f2,loop⟩:=h2
 subst e
 refine jy (RR:=λacc C=>compPost (model X.prog X.w) X.A X.xe (some (assign (.Name y py) X.env)) (λ_ s'=>SP X pn D .next s') acc C) hc S hjs hg hk ht he p1 p2 I2 Tn st2 f2 (λD0 H'=>D.nx (σ.set i (some (.ref D0))) H') loop ?_
 intro D0 C H' s' m' hn fC I' z
 obtain ⟨f0,f1,f2,f3,f4,f5⟩:=fC
 show wpAny _ X.A (assign (.Name y py) X.env (.ref D0)) _ _ s'
 refine wpAny_assign_Name (dw (v:=.ref D0) I' hN hy hl rfl (λs'' I'' ch=>?_) hfn)
 obtain ⟨a,sb,ha⟩:=ch
 have hCa:C ≠ a:=by
  rcases ha with rfl | ha
  ·exact f1
  ·exact λz=>f4 y a ha z.symm
 exact ⟨m',hn.sameBut sb hCa,λh' sb'=>⟨_,H',I''.turned (t':=s''.toks) (λb o hb e=>(sb'.2 b hb).trans e) f0 f1 f3 f4 f5,z⟩⟩
end
def Itv (n:Nat) (val:Nat->V->Prop):It:=⟨λi _=>i < n,λi H x H'=>H'=H /\ val i x,λi _=>i=n⟩
def Jt (x:Str) (i:Nat) (v:V):Prop:=∃ c,x.cps[i]?=some c /\ v=.str ⟨#[c]⟩
def Ql {P:Program} {w:World} {K:W.Frag} {tg:Expr} {it:Addr} {x:Str} {t:Tok} {T:String}
  (W:∀ A:Around,A.handled=none->Walks P w A it [it] [it] x.cps.size (SignAt x) (λi h=>h.IsStrIter it T x t i))
  (hs:∀ (A:Around) (i:Nat) (s:Shared) (Q:Value->Shared->Prop) (E:Value->Shared->Prop),s.heap.IsStrIter it T x t i->Q (.ref it) s->wpAny (model P w) A (pyIter (.ref it)) Q E s)
  (hT:["enumerate", "zip", "dict_itemiterator", "dict_reverseitemiterator", "odict_iterator", "itertools.zip_longest", "itertools.pairwise"].contains T=false) :
  Turn P w K tg (Itv x.cps.size (Jt x)) [it] it (λi h=>h.IsStrIter it T x t i) where
 mem:=by simp
 obj:=λi h st b hb=>by
  have e:b=it:=by simpa using hb
  subst e
  obtain ⟨o,e,c,d⟩:=st
  exact ⟨o,e,λv z=>by rw [d] at z; cases z⟩
 keep:=λi h h' st k=>let ⟨o,e,r⟩:=st; ⟨o,k it (by simp) o e,r⟩
 item:=by
  intro X hP hw hK hc i pn s σ H E I hf st hg
  subst hP hw hK
  obtain ⟨f0,f1,f2,f3,f4,f5⟩:=hf it (by simp)
  refine (W X.A (I.ok.hd hc)).item i s _ _ hg st λv h' tk hv st' kk=>?_
  obtain ⟨c,u,hx,rfl⟩:=hv
  have I1:Inv X pn σ H { s with heap:=h',toks:=tk }:=I.turned (λb o hb e=>kk b o (by simpa using hb) e) f0 f1 f3 f4 f5
  obtain ⟨o,e,c',d⟩:=id st'
  exact ⟨_,rfl,Od (s:={ s with heap:=h',toks:=tk }) e c' d hT ⟨.str ⟨#[c]⟩,H,I1,⟨u,rfl⟩,⟨rfl,c,hx,rfl⟩,st',λb hb=>(hf b hb).1⟩⟩
 done:=by
  intro X hP hw hK hc i pn s σ H E I hf st hg
  subst hP hw hK
  obtain ⟨f0,f1,f2,f3,f4,f5⟩:=hf it (by simp)
  have e:i=x.cps.size:=hg
  subst e
  exact (W X.A (I.ok.hd hc)).done s _ _ st λh' tk kk=>⟨rfl,I.turned (λb o hb e=>kk b o (by simpa using hb) e) f0 f1 f3 f4 f5⟩
 self:=λA i s Q E st h=>hs A i s Q E st h
def V5:V->Option Bool
 | .bl b=>some b
 | .int i=>some (i != 0)
 | .non=>some false
 | _=>none
def Y0 (ys:List V) (d:Bool) (i:Nat):Bool:=((ys[i]?).bind V5).getD d
def Zv (ys:List V) (h:∀ y ∈ ys,(V5 y).isSome=true):(List.range ys.length).all (Y0 ys true)=ys.all λy=>V5 y == some true:=by
 rw [Bool.eq_iff_iff,List.all_eq_true,List.all_eq_true]
 constructor
 ·intro q y hy
  obtain ⟨i,hi,e⟩:=List.getElem_of_mem hy
  have z:=q i (List.mem_range.mpr hi)
  unfold Y0 at z
  rw [zaf hi,Option.bind_some,e] at z
  obtain ⟨b,hb⟩:=Option.isSome_iff_exists.mp (h y hy)
  rw [hb] at z ⊢
  simpa using z
 ·intro q i hi
  have hi':=List.mem_range.mp hi
  have z:=q _ (List.getElem_mem hi')
  unfold Y0
  rw [zaf hi',Option.bind_some,eq_of_beq z]
  rfl
def Xo {P:Program} {w:World} {A:Around} {ys:List V} {its:List Value} (d:Bool) (r:Vals ys its) (h:∀ y ∈ ys,(V5 y).isSome=true):TruthOf P w A (λi v=>its.toArray[i]?=some v) (Y0 ys d):=by
 intro i v s Q E hP hQ
 obtain ⟨y,hy,ry⟩:=ux r (show its[i]?=some v by simpa using hP)
 unfold Y0 at hQ
 rw [hy,Option.bind_some] at hQ
 have hs:=h y (zan hy)
 cases y with
 | bl b=>cases ry; exact wpAny_truthy_bool hQ
 | int k=>obtain ⟨t,rfl⟩:=ry; exact PySem.P.truthy_int hQ
 | non=>cases ry; exact truthy_none hQ
 | _=>cases hs
section
variable {X:Cx}
def bh {s:Shared} {h':Heap} {o:Obj} (hk:∀ b x,b ∉ [s.heap.objs.size]->(s.heap.push o).get? b=some x->h'.get? b=some x):∀ b x,s.heap.get? b=some x->h'.get? b=some x :=
 λb x e=>hk b x (by simpa using Nat.ne_of_lt (zae e)) (zac _ e)
def rAll (K:W.Frag) (f:List V->Bool):List V->Hp->VK->Prop:=λxs H Q=>∃ p ys,xs=[.ref p] /\ (SqL K H p ys \/ SqT K H p ys) /\ (∀ y ∈ ys,(V5 y).isSome=true) /\ Q (.bl (f ys)) H
def Zq (hc:X.calm=true):wg X (.builtin "all") (rAll X.K λys=>ys.all λy=>V5 y == some true):=by
 intro pn s σ H xs us Q I r h
 obtain ⟨p,ys,rfl,hq,ht,q⟩:=h
 obtain ⟨u,rfl,rx⟩:=vv r
 cases rx
 rcases hq with hq | hq
 ·obtain ⟨its,rv,pl,hz⟩:=I.list hq
  have hlt:p < s.heap.objs.size:=by obtain ⟨_,e,_⟩:=pl.isList; exact zae e
  refine call_all_walk (wpAny_pyIter_list pl.isList ⟨s.heap.objs.size,[s.heap.objs.size,p],[s.heap.objs.size],its.toArray.size,_,_,Y0 ys true,rfl,Walks.list (A:=X.A.in1) (I.ok.hd hc) _ p (Nat.ne_of_lt hlt) its.toArray,
   ⟨⟨_,zad _ rfl,rfl,rfl⟩,pl.isList.push _⟩,Xo true rv ht,λh' tk hk=>?_⟩)
  rw [zap,<- rv.length,Zv ys ht]
  exact ⟨.bl _,H,I.kept (bh hk),rfl,q⟩
 ·obtain ⟨its,rv,pl,hz⟩:=I.tuple hq
  have hlt:p < s.heap.objs.size:=by obtain ⟨_,e,_⟩:=pl; exact zae e
  have pl':s.heap.IsTuple p its.toArray:=pl
  refine call_all_walk (wpAny_pyIter_tuple pl' ⟨s.heap.objs.size,[s.heap.objs.size,p],[s.heap.objs.size],its.toArray.size,_,_,Y0 ys true,rfl,Walks.tuple (A:=X.A.in1) (I.ok.hd hc) _ p (Nat.ne_of_lt hlt) its.toArray,
   ⟨⟨_,zad _ rfl,rfl,rfl⟩,pl'.at λo e=>zac _ e⟩,Xo true rv ht,λh' tk hk=>?_⟩)
  rw [zap,<- rv.length,Zv ys ht]
  exact ⟨.bl _,H,I.kept (bh hk),rfl,q⟩
end
end L3
local macro_rules | `(tactic| walk_at "o")=>`(tactic| first | exact Or.inl rfl | exact Or.inr rfl)
namespace DL
open PySem PySem.Spec L2 L3
open PyProof.Rows hiding St
inductive Cst where
 | int (i:Int) | str (x:Str) | tup (cs:List Cst)
mutual
def CRep (K:W.Frag):Cst->V->Prop
 | .int i,v=>v=.int i
 | .str x,v=>v=.str x
 | .tup cs,v=>∃ (a:Addr) (o:Obj) (its:Array Value) (n:Nat) (xs:List V),v=.ref a /\ K.lookup a=some o /\ o.cls=.type "tuple" /\ o.data=.seq its n /\ its.size <= sizeLine /\ Vals xs its.toList /\ Eu K cs xs
def Eu (K:W.Frag):List Cst->List V->Prop
 | [],xs=>xs=[]
 | c :: cs,xs=>∃ v r,xs=v :: r /\ CRep K c v /\ Eu K cs r
end
inductive D where
 | non | bl (b:Bool) | int (i:Int) | str (x:Str) | ty (n:String)
 | tup (ds:List D) | lst (ds:List D) | dk (ks:List Key) (ds:List D) | dt (ks:List (List Key)) (ds:List D)
  | scr (ns:List Int)
  | exc (C:Addr)
  | fd (m:Int)
  | dp (rs:List ((List Int × List Int) × (Int × Int)))
  | dz (rs:List (List Int × Int))
 | cn (c:Cst)
  | ob (C:Addr) (ns:List Str) (ds:List D)
def Scr (K:W.Frag) (H:Hp) (a:Addr) (ns:List Int):Prop :=
 (∃ o,H a=some (.frz o (.lst (ns.map V.int)))) \/
  ∃ (o:Obj) (its:Array Value) (n:Nat),K.lookup a=some o /\ o.cls=.type "list" /\ o.dict=none /\ o.data=.seq its n /\ its.size <= sizeLine /\ Vals (ns.map V.int) its.toList
def Scr.seq {K:W.Frag} {H:Hp} {a:Addr} {ns:List Int} (h:Scr K H a ns):SqL K H a (ns.map V.int):=by
 rcases h with ⟨o,h⟩ | h
 ·exact .inl (.inr ⟨o,h⟩)
 ·exact .inr h
def dzV (rs:List (List Int × Int)):List (List Key × V):=rs.map λp=>(p.1.map Sum.inl,V.int p.2)
def Dz (H:Hp) (a:Addr) (rs:List (List Int × Int)):Prop:=(∃ o,H a=some (.frz o (.dT (dzV rs)))) /\ (rs.map Prod.fst).Nodup
def SqR (K:W.Frag) (H:Hp) (a:Addr) (xs:List V):Prop:=SqT K H a xs /\ H a=some (.tup xs)
def ExcO (a C:Addr):HO:=.ext λh=>∃ o,h.get? a=some o /\ o.cls=.ref C /\ W.notCls o=true
def Qd (a:Addr) (m:Int):HO:=.ext λh=>(0 <= m /\ ∃ (its:Array Value) (n:Nat),h.get? a=some { cls:=.type "list", dict:=none,data:=.seq its n,slots:=#[] } /\ its.size <= 1000 /\ (m <= 0->1 <= its.size) /\ ∀ v ∈ its,∃ (i:Int) (t:Tok),v=.int i t /\ (0 < m->0 <= i /\ i < m)) \/
 (m < 0 /\ (a == sysModules)=false /\ ∃ (o:Obj) (es:Array DictEntry) (ep:Nat),h.get? a=some o /\ o.ExactDict /\ o.data=.dict es ep /\ (es.size:Int) = - m - 1)
def DpO (a:Addr) (o:Obj):HO:=.ext λh=>h.get? a=some o
def rowR (H:Hp) (r:(List Int × List Int) × (Int × Int)) (e:DictEntry):Prop:=∃ ka p1 p2 va,e.key=.ref ka /\ e.val=.ref va /\ H ka=some (.tup [.ref p1,.ref p2]) /\ H p1=some (.tup (r.1.1.map V.int)) /\ H p2=some (.tup (r.1.2.map V.int)) /\ H va=some (.tup [.int r.2.1,.int r.2.2])
def DpR (H:Hp) (a:Addr) (o:Obj) (rs:List ((List Int × List Int) × (Int × Int))):Prop:=(a == sysModules)=false /\ o.ExactDict /\ (rs.map Prod.fst).Nodup /\ rs.length <= 10000 /\ ∃ es ep,o.data=.dict es ep /\ Paired (rowR H) rs es.toList
def rowR.gt {H H':Hp} {r:(List Int × List Int) × (Int × Int)} {e:DictEntry} (g:∀ b xs,H b=some (.tup xs)->H' b=some (.tup xs)) (h:rowR H r e):rowR H' r e:=by
 obtain ⟨ka,p1,p2,va,h1,h2,h3,h4,h5,h6⟩:=h
 exact ⟨ka,p1,p2,va,h1,h2,g _ _ h3,g _ _ h4,g _ _ h5,g _ _ h6⟩
def DpR.gt {H H':Hp} {a:Addr} {o:Obj} {rs:List ((List Int × List Int) × (Int × Int))} (h:DpR H a o rs) (g:∀ b xs,H b=some (.tup xs)->H' b=some (.tup xs)):DpR H' a o rs:=by
 obtain ⟨h1,h2,h3,h4,es,ep,h5,h6⟩:=h
 exact ⟨h1,h2,h3,h4,es,ep,h5,Paired.mapP h6 λ_ _ z=>z.gt g⟩
mutual
def Rep (K:W.Frag) (H:Hp) (O:List Addr):D->V->Prop
 | .non,v=>v=.non
 | .bl b,v=>v=.bl b
 | .int i,v=>v=.int i
 | .str x,v=>v=.str x
 | .ty n,v=>v=.ty n
 | .cn c,v=>CRep K c v
 | .tup ds,v=>∃ a xs,v=.ref a /\ SqR K H a xs /\ Reps K H O ds xs
 | .lst ds,v=>∃ a xs,v=.ref a /\ H a=some (.lst xs) /\ a ∉ O /\ Reps K H O ds xs
 | .scr ns,v=>∃ a,v=.ref a /\ Scr K H a ns
 | .dz rs,v=>∃ a,v=.ref a /\ Dz H a rs
 | .exc C,v=>∃ a,v=.ref a /\ H a=some (ExcO a C) /\ a ∉ O
 | .fd m,v=>∃ a,v=.ref a /\ H a=some (Qd a m) /\ a ∉ O
 | .dp rs,v=>∃ a o,v=.ref a /\ H a=some (DpO a o) /\ a ∉ O /\ DpR H a o rs
 | .dk ks ds,v=>∃ a xs,v=.ref a /\ H a=some (.dK (ks.zip xs)) /\ a ∉ O /\ ks.length=ds.length /\ ks.Nodup /\ Reps K H O ds xs
 | .dt ks ds,v=>∃ a xs,v=.ref a /\ H a=some (.dT (ks.zip xs)) /\ a ∉ O /\ ks.length=ds.length /\ ks.Nodup /\ Reps K H O ds xs
 | .ob C ns ds,v=>∃ a dx xs,v=.ref a /\ H a=some (.ins C dx (ns.zip xs)) /\ a ∉ O /\ ns.length=ds.length /\ ns.Nodup /\ Reps K H O ds xs
def Reps (K:W.Frag) (H:Hp) (O:List Addr):List D->List V->Prop
 | [],xs=>xs=[]
 | d :: ds,xs=>∃ v r,xs=v :: r /\ Rep K H O d v /\ Reps K H O ds r
end
structure Grow (O O':List Addr) (H H':Hp):Prop where
 keep:∀ b u,H b=some u->b ∉ O->H' b=some u /\ b ∉ O'
 tups:∀ b xs,H b=some (.tup xs)->H' b=some (.tup xs)
 frzs:∀ b o u,H b=some (.frz o u)->H' b=some (.frz o u)
def Grow.same {O:List Addr} {H H':Hp} (s:Same H H'):Grow O O H H':=⟨λb u h n=>⟨s b u h,n⟩,λb xs h=>s b _ h,λb o u h=>s b _ h⟩
def Grow.refl {O:List Addr} {H:Hp}:Grow O O H H:=Grow.same (Same.refl H)
def Grow.trans {O O' O'':List Addr} {H H' H'':Hp} (a:Grow O O' H H') (b:Grow O' O'' H' H''):Grow O O'' H H'' :=
 ⟨λc u h n=>let ⟨h',n'⟩:=a.keep c u h n; b.keep c u h' n',λc xs h=>b.tups c xs (a.tups c xs h),λc o u h=>b.frzs c o u (a.frzs c o u h)⟩
def g6 {K:W.Frag} {O O':List Addr} {H H':Hp} {a:Addr} {xs:List V} (g:Grow O O' H H') (h:SqT K H a xs):SqT K H' a xs:=by
 rcases h with (h | ⟨o,h⟩) | h
 ·exact .inl (.inl (g.tups _ _ h))
 ·exact .inl (.inr ⟨o,g.frzs _ _ _ h⟩)
 ·exact .inr h
def Xw {K:W.Frag} {O O':List Addr} {H H':Hp} {a:Addr} {xs:List V} (g:Grow O O' H H') (h:SqR K H a xs):SqR K H' a xs:=⟨g6 g h.1,g.tups _ _ h.2⟩
def re {K:W.Frag} {O O':List Addr} {H H':Hp} {a:Addr} {ns:List Int} (g:Grow O O' H H') (h:Scr K H a ns):Scr K H' a ns:=by
 rcases h with ⟨o,h⟩ | h
 ·exact .inl ⟨o,g.frzs _ _ _ h⟩
 ·exact .inr h
def Ro {O O':List Addr} {H H':Hp} {a:Addr} {rs:List (List Int × Int)} (g:Grow O O' H H') (h:Dz H a rs):Dz H' a rs:=⟨let ⟨o,q⟩:=h.1; ⟨o,g.frzs _ _ _ q⟩,h.2⟩
mutual
def Rep.grow {K:W.Frag} {O O':List Addr} {H H':Hp} (g:Grow O O' H H'):∀ (d:D) (v:V),Rep K H O d v->Rep K H' O' d v
 | .non,_,h=>h
 | .bl _,_,h=>h
 | .int _,_,h=>h
 | .str _,_,h=>h
 | .ty _,_,h=>h
 | .cn _,_,h=>h
 | .tup ds,v,h=>by
  obtain ⟨a,xs,e,q,r⟩:=h
  exact ⟨a,xs,e,Xw g q,Reps.grow g ds xs r⟩
 | .lst ds,v,h=>by
  obtain ⟨a,xs,e,q,n,r⟩:=h
  exact ⟨a,xs,e,(g.keep _ _ q n).1,(g.keep _ _ q n).2,Reps.grow g ds xs r⟩
 | .scr ns,v,h=>by
  obtain ⟨a,e,q⟩:=h
  exact ⟨a,e,re g q⟩
 | .dz rs,v,h=>by
  obtain ⟨a,e,q⟩:=h
  exact ⟨a,e,Ro g q⟩
 | .exc C,v,h=>by
  obtain ⟨a,e,q,n⟩:=h
  exact ⟨a,e,(g.keep _ _ q n).1,(g.keep _ _ q n).2⟩
 | .fd m,v,h=>by
  obtain ⟨a,e,q,n⟩:=h
  exact ⟨a,e,(g.keep _ _ q n).1,(g.keep _ _ q n).2⟩
 | .dp rs,v,h=>by
  obtain ⟨a,o,e,q,n,r⟩:=h
  exact ⟨a,o,e,(g.keep _ _ q n).1,(g.keep _ _ q n).2,r.gt g.tups⟩
 | .dk ks ds,v,h=>by
  obtain ⟨a,xs,e,q,n,l,nd,r⟩:=h
  exact ⟨a,xs,e,(g.keep _ _ q n).1,(g.keep _ _ q n).2,l,nd,Reps.grow g ds xs r⟩
 | .dt ks ds,v,h=>by
  obtain ⟨a,xs,e,q,n,l,nd,r⟩:=h
  exact ⟨a,xs,e,(g.keep _ _ q n).1,(g.keep _ _ q n).2,l,nd,Reps.grow g ds xs r⟩
 | .ob C ns ds,v,h=>by
  obtain ⟨a,dx,xs,e,q,n,l,nd,r⟩:=h
  exact ⟨a,dx,xs,e,(g.keep _ _ q n).1,(g.keep _ _ q n).2,l,nd,Reps.grow g ds xs r⟩
def Reps.grow {K:W.Frag} {O O':List Addr} {H H':Hp} (g:Grow O O' H H'):∀ (ds:List D) (xs:List V),Reps K H O ds xs->Reps K H' O' ds xs
 | [],_,h=>h
 | d :: ds,xs,h=>by
  obtain ⟨v,r,e,q,t⟩:=h
  exact ⟨v,r,e,Rep.grow g d v q,Reps.grow g ds r t⟩
end
mutual
def Rep.sub {K:W.Frag} {O O':List Addr} {H:Hp} (g:∀ a ∈ O',a ∈ O):∀ (d:D) (v:V),Rep K H O d v->Rep K H O' d v
 | .non,_,h=>h
 | .bl _,_,h=>h
 | .int _,_,h=>h
 | .str _,_,h=>h
 | .ty _,_,h=>h
 | .cn _,_,h=>h
 | .tup ds,v,h=>by
  obtain ⟨a,xs,e,q,r⟩:=h
  exact ⟨a,xs,e,q,Reps.sub g ds xs r⟩
 | .lst ds,v,h=>by
  obtain ⟨a,xs,e,q,n,r⟩:=h
  exact ⟨a,xs,e,q,λz=>n (g a z),Reps.sub g ds xs r⟩
 | .scr _,_,h=>h
 | .dz _,_,h=>h
 | .exc _,_,h=>by
  obtain ⟨a,e,q,n⟩:=h
  exact ⟨a,e,q,λz=>n (g a z)⟩
 | .fd _,_,h=>by
  obtain ⟨a,e,q,n⟩:=h
  exact ⟨a,e,q,λz=>n (g a z)⟩
 | .dp _,_,h=>by
  obtain ⟨a,o,e,q,n,r⟩:=h
  exact ⟨a,o,e,q,λz=>n (g a z),r⟩
 | .dk ks ds,v,h=>by
  obtain ⟨a,xs,e,q,n,l,nd,r⟩:=h
  exact ⟨a,xs,e,q,λz=>n (g a z),l,nd,Reps.sub g ds xs r⟩
 | .dt ks ds,v,h=>by
  obtain ⟨a,xs,e,q,n,l,nd,r⟩:=h
  exact ⟨a,xs,e,q,λz=>n (g a z),l,nd,Reps.sub g ds xs r⟩
 | .ob C ns ds,v,h=>by
  obtain ⟨a,dx,xs,e,q,n,l,nd,r⟩:=h
  exact ⟨a,dx,xs,e,q,λz=>n (g a z),l,nd,Reps.sub g ds xs r⟩
def Reps.sub {K:W.Frag} {O O':List Addr} {H:Hp} (g:∀ a ∈ O',a ∈ O):∀ (ds:List D) (xs:List V),Reps K H O ds xs->Reps K H O' ds xs
 | [],_,h=>h
 | d :: ds,xs,h=>by
  obtain ⟨v,r,e,q,t⟩:=h
  exact ⟨v,r,e,Rep.sub g d v q,Reps.sub g ds r t⟩
end
mutual
def cu:D->Prop
 | .tup ds=>x5 ds
 | .lst _=>False
 | .dk _ _=>False
 | .dt _ _=>False
 | .ob _ _ _=>False
 | .scr _=>True
 | .dz _=>True
 | .exc _=>False
 | .fd _=>False
 | .dp _=>False
 | .non=>True
 | .bl _=>True
 | .int _=>True
 | .str _=>True
 | .ty _=>True
 | .cn _=>True
def x5:List D->Prop
 | []=>True
 | d :: ds=>cu d /\ x5 ds
end
def yt:∀ {ds:List D},x5 ds ↔ ∀ d ∈ ds,cu d
 | []=>by simp [x5]
 | d :: ds=>by
  rw [x5,yt]
  simp
mutual
def Rep.pure {K:W.Frag} {O O':List Addr} {H:Hp}:∀ (d:D) (v:V),cu d->Rep K H O d v->Rep K H O' d v
 | .non,_,_,h=>h
 | .bl _,_,_,h=>h
 | .int _,_,_,h=>h
 | .str _,_,_,h=>h
 | .ty _,_,_,h=>h
 | .cn _,_,_,h=>h
 | .tup ds,v,p,h=>by
  obtain ⟨a,xs,e,q,r⟩:=h
  exact ⟨a,xs,e,q,Reps.pure ds xs p r⟩
 | .scr _,_,_,h=>h
 | .dz _,_,_,h=>h
 | .exc _,_,p,_=>p.elim
 | .fd _,_,p,_=>p.elim
 | .dp _,_,p,_=>p.elim
 | .lst ds,v,p,h=>p.elim
 | .dk ks ds,v,p,h=>p.elim
 | .dt ks ds,v,p,h=>p.elim
 | .ob C ns ds,v,p,h=>p.elim
def Reps.pure {K:W.Frag} {O O':List Addr} {H:Hp}:∀ (ds:List D) (xs:List V),x5 ds->Reps K H O ds xs->Reps K H O' ds xs
 | [],_,_,h=>h
 | d :: ds,xs,p,h=>by
  obtain ⟨v,r,e,q,t⟩:=h
  exact ⟨v,r,e,Rep.pure d v p.1 q,Reps.pure ds r p.2 t⟩
end
mutual
def RepN (K:W.Frag) (H:Hp) (P:Addr->Prop):D->V->Prop
 | .non,v=>v=.non
 | .bl b,v=>v=.bl b
 | .int i,v=>v=.int i
 | .str x,v=>v=.str x
 | .ty n,v=>v=.ty n
 | .cn c,v=>CRep K c v
 | .tup ds,v=>∃ a xs,v=.ref a /\ SqR K H a xs /\ y4 K H P ds xs
 | .lst ds,v=>∃ a xs,v=.ref a /\ H a=some (.lst xs) /\ P a /\ y4 K H P ds xs
 | .scr ns,v=>∃ a,v=.ref a /\ Scr K H a ns
 | .dz rs,v=>∃ a,v=.ref a /\ Dz H a rs
 | .exc C,v=>∃ a,v=.ref a /\ H a=some (ExcO a C) /\ P a
 | .fd m,v=>∃ a,v=.ref a /\ H a=some (Qd a m) /\ P a
 | .dp rs,v=>∃ a o,v=.ref a /\ H a=some (DpO a o) /\ P a /\ DpR H a o rs
 | .dk ks ds,v=>∃ a xs,v=.ref a /\ H a=some (.dK (ks.zip xs)) /\ P a /\ ks.length=ds.length /\ ks.Nodup /\ y4 K H P ds xs
 | .dt ks ds,v=>∃ a xs,v=.ref a /\ H a=some (.dT (ks.zip xs)) /\ P a /\ ks.length=ds.length /\ ks.Nodup /\ y4 K H P ds xs
 | .ob C ns ds,v=>∃ a dx xs,v=.ref a /\ H a=some (.ins C dx (ns.zip xs)) /\ P a /\ ns.length=ds.length /\ ns.Nodup /\ y4 K H P ds xs
def y4 (K:W.Frag) (H:Hp) (P:Addr->Prop):List D->List V->Prop
 | [],xs=>xs=[]
 | d :: ds,xs=>∃ v r,xs=v :: r /\ RepN K H P d v /\ y4 K H P ds r
end
mutual
def RepN.to {K:W.Frag} {P P':Addr->Prop} {H H':Hp} (s:Same H H') (g:∀ a,P a->P' a):∀ (d:D) (v:V),RepN K H P d v->RepN K H' P' d v
 | .non,_,h=>h
 | .bl _,_,h=>h
 | .int _,_,h=>h
 | .str _,_,h=>h
 | .ty _,_,h=>h
 | .cn _,_,h=>h
 | .tup ds,v,h=>by
  obtain ⟨a,xs,e,q,r⟩:=h
  exact ⟨a,xs,e,Xw (Grow.same (O:=[]) s) q,y4.to s g ds xs r⟩
 | .lst ds,v,h=>by
  obtain ⟨a,xs,e,q,n,r⟩:=h
  exact ⟨a,xs,e,s _ _ q,g a n,y4.to s g ds xs r⟩
 | .scr ns,v,h=>by
  obtain ⟨a,e,q⟩:=h
  exact ⟨a,e,re (Grow.same (O:=[]) s) q⟩
 | .dz rs,v,h=>by
  obtain ⟨a,e,q⟩:=h
  exact ⟨a,e,Ro (Grow.same (O:=[]) s) q⟩
 | .exc C,v,h=>by
  obtain ⟨a,e,q,n⟩:=h
  exact ⟨a,e,s _ _ q,g a n⟩
 | .fd m,v,h=>by
  obtain ⟨a,e,q,n⟩:=h
  exact ⟨a,e,s _ _ q,g a n⟩
 | .dp rs,v,h=>by
  obtain ⟨a,o,e,q,n,r⟩:=h
  exact ⟨a,o,e,s _ _ q,g a n,r.gt λb xs z=>s b _ z⟩
 | .dk ks ds,v,h=>by
  obtain ⟨a,xs,e,q,n,l,nd,r⟩:=h
  exact ⟨a,xs,e,s _ _ q,g a n,l,nd,y4.to s g ds xs r⟩
 | .dt ks ds,v,h=>by
  obtain ⟨a,xs,e,q,n,l,nd,r⟩:=h
  exact ⟨a,xs,e,s _ _ q,g a n,l,nd,y4.to s g ds xs r⟩
 | .ob C ns ds,v,h=>by
  obtain ⟨a,dx,xs,e,q,n,l,nd,r⟩:=h
  exact ⟨a,dx,xs,e,s _ _ q,g a n,l,nd,y4.to s g ds xs r⟩
def y4.to {K:W.Frag} {P P':Addr->Prop} {H H':Hp} (s:Same H H') (g:∀ a,P a->P' a):∀ (ds:List D) (xs:List V),y4 K H P ds xs->y4 K H' P' ds xs
 | [],_,h=>h
 | d :: ds,xs,h=>by
  obtain ⟨v,r,e,q,t⟩:=h
  exact ⟨v,r,e,RepN.to s g d v q,y4.to s g ds r t⟩
end
mutual
def RepN.rep {K:W.Frag} {P:Addr->Prop} {H:Hp} {O:List Addr} (g:∀ a,P a->a ∉ O):∀ (d:D) (v:V),RepN K H P d v->Rep K H O d v
 | .non,_,h=>h
 | .bl _,_,h=>h
 | .int _,_,h=>h
 | .str _,_,h=>h
 | .ty _,_,h=>h
 | .cn _,_,h=>h
 | .tup ds,v,h=>by
  obtain ⟨a,xs,e,q,r⟩:=h
  exact ⟨a,xs,e,q,y4.reps g ds xs r⟩
 | .lst ds,v,h=>by
  obtain ⟨a,xs,e,q,n,r⟩:=h
  exact ⟨a,xs,e,q,g a n,y4.reps g ds xs r⟩
 | .scr _,_,h=>h
 | .dz _,_,h=>h
 | .exc C,v,h=>by
  obtain ⟨a,e,q,n⟩:=h
  exact ⟨a,e,q,g a n⟩
 | .fd m,v,h=>by
  obtain ⟨a,e,q,n⟩:=h
  exact ⟨a,e,q,g a n⟩
 | .dp rs,v,h=>by
  obtain ⟨a,o,e,q,n,r⟩:=h
  exact ⟨a,o,e,q,g a n,r⟩
 | .dk ks ds,v,h=>by
  obtain ⟨a,xs,e,q,n,l,nd,r⟩:=h
  exact ⟨a,xs,e,q,g a n,l,nd,y4.reps g ds xs r⟩
 | .dt ks ds,v,h=>by
  obtain ⟨a,xs,e,q,n,l,nd,r⟩:=h
  exact ⟨a,xs,e,q,g a n,l,nd,y4.reps g ds xs r⟩
 | .ob C ns ds,v,h=>by
  obtain ⟨a,dx,xs,e,q,n,l,nd,r⟩:=h
  exact ⟨a,dx,xs,e,q,g a n,l,nd,y4.reps g ds xs r⟩
def y4.reps {K:W.Frag} {P:Addr->Prop} {H:Hp} {O:List Addr} (g:∀ a,P a->a ∉ O):∀ (ds:List D) (xs:List V),y4 K H P ds xs->Reps K H O ds xs
 | [],_,h=>h
 | d :: ds,xs,h=>by
  obtain ⟨v,r,e,q,t⟩:=h
  exact ⟨v,r,e,RepN.rep g d v q,y4.reps g ds r t⟩
end
mutual
def Rep.toN {K:W.Frag} {P:Addr->Prop} {O:List Addr} {H:Hp}:∀ (d:D) (v:V),cu d->Rep K H O d v->RepN K H P d v
 | .non,_,_,h=>h
 | .bl _,_,_,h=>h
 | .int _,_,_,h=>h
 | .str _,_,_,h=>h
 | .ty _,_,_,h=>h
 | .cn _,_,_,h=>h
 | .tup ds,v,p,h=>by
  obtain ⟨a,xs,e,q,r⟩:=h
  exact ⟨a,xs,e,q,Reps.toN ds xs p r⟩
 | .scr _,_,_,h=>h
 | .dz _,_,_,h=>h
 | .exc _,_,p,_=>p.elim
 | .fd _,_,p,_=>p.elim
 | .dp _,_,p,_=>p.elim
 | .lst ds,v,p,h=>p.elim
 | .dk ks ds,v,p,h=>p.elim
 | .dt ks ds,v,p,h=>p.elim
 | .ob C ns ds,v,p,h=>p.elim
def Reps.toN {K:W.Frag} {P:Addr->Prop} {O:List Addr} {H:Hp}:∀ (ds:List D) (xs:List V),x5 ds->Reps K H O ds xs->y4 K H P ds xs
 | [],_,_,h=>h
 | d :: ds,xs,p,h=>by
  obtain ⟨v,r,e,q,t⟩:=h
  exact ⟨v,r,e,Rep.toN d v p.1 q,Reps.toN ds r p.2 t⟩
end
def y4.append {K:W.Frag} {P:Addr->Prop} {H:Hp}:∀ {ds es:List D} {xs ys:List V},y4 K H P ds xs->y4 K H P es ys->y4 K H P (ds ++ es) (xs ++ ys)
 | [],es,xs,ys,h,h'=>by cases h; exact h'
 | d :: ds,es,xs,ys,h,h'=>by
  obtain ⟨v,r,rfl,q,t⟩:=h
  exact ⟨v,r ++ ys,rfl,q,y4.append t h'⟩
def y4.length {K:W.Frag} {P:Addr->Prop} {H:Hp} {ds:List D} {xs:List V} (h:y4 K H P ds xs):xs.length=ds.length:=by
 induction ds generalizing xs with
 | nil=>cases (show xs=[] from h); rfl
 | cons d ds ih =>
  obtain ⟨v,r,rfl,_,t⟩:=h
  simp [ih t]
section
variable {K:W.Frag} {H:Hp} {O:List Addr}
def Reps.length:∀ {ds:List D} {xs:List V},Reps K H O ds xs->xs.length=ds.length
 | [],_,h=>by cases h; rfl
 | d :: ds,xs,h=>by
  obtain ⟨v,r,e,_,t⟩:=h
  subst e
  simp [Reps.length t]
def Reps.get:∀ {ds:List D} {xs:List V} {i:Nat} {d:D},Reps K H O ds xs->ds[i]?=some d->∃ v,xs[i]?=some v /\ Rep K H O d v
 | [],_,_,_,_,e=>by simp at e
 | d :: ds,xs,0,d',h,e=>by
  obtain ⟨v,r,rfl,q,_⟩:=h
  simp at e
  subst e
  exact ⟨v,rfl,q⟩
 | d :: ds,xs,i + 1,d',h,e=>by
  obtain ⟨v,r,rfl,_,t⟩:=h
  obtain ⟨v',e',q'⟩:=Reps.get (i:=i) t (by simpa using e)
  exact ⟨v',by simpa using e',q'⟩
def Reps.append:∀ {ds es:List D} {xs ys:List V},Reps K H O ds xs->Reps K H O es ys->Reps K H O (ds ++ es) (xs ++ ys)
 | [],es,xs,ys,h,h'=>by cases h; exact h'
 | d :: ds,es,xs,ys,h,h'=>by
  obtain ⟨v,r,rfl,q,t⟩:=h
  exact ⟨v,r ++ ys,rfl,q,Reps.append t h'⟩
def Reps.one {d:D} {v:V} (h:Rep K H O d v):Reps K H O [d] [v]:=⟨v,[],rfl,h,rfl⟩
def Reps.take:∀ {ds:List D} {xs:List V} (n:Nat),Reps K H O ds xs->Reps K H O (ds.take n) (xs.take n)
 | _,_,0,_=>rfl
 | [],_,n + 1,h=>by cases h; rfl
 | d :: ds,xs,n + 1,h=>by
  obtain ⟨v,r,rfl,q,t⟩:=h
  exact ⟨v,r.take n,rfl,q,Reps.take n t⟩
def Reps.drop:∀ {ds:List D} {xs:List V} (n:Nat),Reps K H O ds xs->Reps K H O (ds.drop n) (xs.drop n)
 | _,_,0,h=>h
 | [],_,n + 1,h=>by cases h; rfl
 | d :: ds,xs,n + 1,h=>by
  obtain ⟨v,r,rfl,q,t⟩:=h
  exact Reps.drop n t
def Reps.set:∀ {ds:List D} {xs:List V} (n:Nat) {d:D} {v:V},Rep K H O d v->Reps K H O ds xs->Reps K H O (ds.set n d) (xs.set n v)
 | [],_,_,_,_,_,h=>by cases h; rfl
 | d :: ds,xs,0,d',v',q',h=>by
  obtain ⟨v,r,rfl,q,t⟩:=h
  exact ⟨v',r,rfl,q',t⟩
 | d :: ds,xs,n + 1,d',v',q',h=>by
  obtain ⟨v,r,rfl,q,t⟩:=h
  exact ⟨v,r.set n v',rfl,q,Reps.set n q' t⟩
def Reps.ints:∀ (ns:List Int),Reps K H O (ns.map D.int) (ns.map V.int)
 | []=>rfl
 | n :: ns=>⟨_,_,rfl,rfl,Reps.ints ns⟩
def Reps.rep {ds:List D} {xs:List V} (h:Reps K H O ds xs):∀ k:Nat,Reps K H O (List.replicate k ds).flatten (List.replicate k xs).flatten
 | 0=>rfl
 | k + 1=>by
  rw [List.replicate_succ,List.replicate_succ,List.flatten_cons,List.flatten_cons]
  exact h.append (Reps.rep h k)
end
def View (K:W.Frag) (H:Hp) (O:List Addr) (d:D) (v:V):Prop:=match d with
 | .lst ds=>∃ a xs,v=.ref a /\ H a=some (.lst xs) /\ Reps K H O ds xs
 | .dk ks ds=>∃ a xs,v=.ref a /\ H a=some (.dK (ks.zip xs)) /\ ks.length=ds.length /\ ks.Nodup /\ Reps K H O ds xs
 | .dt ks ds=>∃ a xs,v=.ref a /\ H a=some (.dT (ks.zip xs)) /\ ks.length=ds.length /\ ks.Nodup /\ Reps K H O ds xs
 | .fd m=>∃ a,v=.ref a /\ H a=some (Qd a m)
 | .dp rs=>∃ a o,v=.ref a /\ H a=some (DpO a o) /\ DpR H a o rs
 | d=>Rep K H O d v
def Con (K:W.Frag) (H:Hp) (O:List Addr) (d:D) (a:Addr):Prop:=match d with
 | .lst ds=>∃ xs,H a=some (.lst xs) /\ Reps K H O ds xs
 | .dk ks ds=>∃ xs,H a=some (.dK (ks.zip xs)) /\ ks.length=ds.length /\ ks.Nodup /\ Reps K H O ds xs
 | .dt ks ds=>∃ xs,H a=some (.dT (ks.zip xs)) /\ ks.length=ds.length /\ ks.Nodup /\ Reps K H O ds xs
 | .fd m=>H a=some (Qd a m)
 | .dp rs=>∃ o,H a=some (DpO a o) /\ DpR H a o rs
 | _=>False
def Rep.view {K:W.Frag} {H:Hp} {O:List Addr} {d:D} {v:V} (h:Rep K H O d v):View K H O d v:=by
 cases d with
 | lst ds=>obtain ⟨a,xs,e,q,_,r⟩:=h; exact ⟨a,xs,e,q,r⟩
 | dk ks ds=>obtain ⟨a,xs,e,q,_,r⟩:=h; exact ⟨a,xs,e,q,r⟩
 | dt ks ds=>obtain ⟨a,xs,e,q,_,r⟩:=h; exact ⟨a,xs,e,q,r⟩
 | fd m=>obtain ⟨a,e,q,_⟩:=h; exact ⟨a,e,q⟩
 | dp rs=>obtain ⟨a,o,e,q,_,r⟩:=h; exact ⟨a,o,e,q,r⟩
 | _=>exact h
def Con.view {K:W.Frag} {H:Hp} {O:List Addr} {d:D} {a:Addr} (h:Con K H O d a):View K H O d (.ref a):=by
 cases d with
 | lst ds=>obtain ⟨xs,q,r⟩:=h; exact ⟨a,xs,rfl,q,r⟩
 | dk ks ds=>obtain ⟨xs,q,r⟩:=h; exact ⟨a,xs,rfl,q,r⟩
 | dt ks ds=>obtain ⟨xs,q,r⟩:=h; exact ⟨a,xs,rfl,q,r⟩
 | fd m=>exact ⟨a,rfl,h⟩
 | dp rs=>obtain ⟨o,q,r⟩:=h; exact ⟨a,o,rfl,q,r⟩
 | _=>exact h.elim
def Con.rep {K:W.Frag} {H:Hp} {O:List Addr} {d:D} {a:Addr} (h:Con K H O d a) (n:a ∉ O):Rep K H O d (.ref a):=by
 cases d with
 | lst ds=>obtain ⟨xs,q,r⟩:=h; exact ⟨a,xs,rfl,q,n,r⟩
 | dk ks ds=>obtain ⟨xs,q,r⟩:=h; exact ⟨a,xs,rfl,q,n,r⟩
 | dt ks ds=>obtain ⟨xs,q,r⟩:=h; exact ⟨a,xs,rfl,q,n,r⟩
 | fd m=>exact ⟨a,rfl,h,n⟩
 | dp rs=>obtain ⟨o,q,r⟩:=h; exact ⟨a,o,rfl,q,n,r⟩
 | _=>exact h.elim
def Con.same {K:W.Frag} {H H':Hp} {O:List Addr} {d:D} {a:Addr} (h:Con K H O d a) (s:Same H H'):Con K H' O d a:=by
 cases d with
 | lst ds=>obtain ⟨xs,q,r⟩:=h; exact ⟨xs,s _ _ q,Reps.grow (Grow.same s) _ _ r⟩
 | dk ks ds=>obtain ⟨xs,q,l,n,r⟩:=h; exact ⟨xs,s _ _ q,l,n,Reps.grow (Grow.same s) _ _ r⟩
 | dt ks ds=>obtain ⟨xs,q,l,n,r⟩:=h; exact ⟨xs,s _ _ q,l,n,Reps.grow (Grow.same s) _ _ r⟩
 | fd m=>exact s _ _ h
 | dp rs=>obtain ⟨o,q,r⟩:=h; exact ⟨o,s _ _ q,r.gt λb xs z=>s b _ z⟩
 | _=>exact h.elim
def Con.sub {K:W.Frag} {H:Hp} {O O':List Addr} {d:D} {a:Addr} (h:Con K H O d a) (g:∀ a ∈ O',a ∈ O):Con K H O' d a:=by
 cases d with
 | lst ds=>obtain ⟨xs,q,r⟩:=h; exact ⟨xs,q,Reps.sub g _ _ r⟩
 | dk ks ds=>obtain ⟨xs,q,l,n,r⟩:=h; exact ⟨xs,q,l,n,Reps.sub g _ _ r⟩
 | dt ks ds=>obtain ⟨xs,q,l,n,r⟩:=h; exact ⟨xs,q,l,n,Reps.sub g _ _ r⟩
 | fd m=>exact h
 | dp rs=>exact h
 | _=>exact h.elim
def View.sub {K:W.Frag} {H:Hp} {O O':List Addr} {d:D} {v:V} (h:View K H O d v) (g:∀ a ∈ O',a ∈ O):View K H O' d v:=by
 cases d with
 | lst ds=>obtain ⟨a,xs,e,q,r⟩:=h; exact ⟨a,xs,e,q,Reps.sub g _ _ r⟩
 | dk ks ds=>obtain ⟨a,xs,e,q,l,n,r⟩:=h; exact ⟨a,xs,e,q,l,n,Reps.sub g _ _ r⟩
 | dt ks ds=>obtain ⟨a,xs,e,q,l,n,r⟩:=h; exact ⟨a,xs,e,q,l,n,Reps.sub g _ _ r⟩
 | fd m=>exact h
 | dp rs=>exact h
 | _=>exact Rep.sub g _ _ h
def View.rep0 {K:W.Frag} {H:Hp} {O:List Addr} {d:D} {v:V} (h:View K H O d v):Rep K H [] d v:=by
 have h:=h.sub (O':=[]) (λ_ z=>nomatch z)
 cases d with
 | lst ds=>obtain ⟨a,xs,e,q,r⟩:=h; exact ⟨a,xs,e,q,by simp,r⟩
 | dk ks ds=>obtain ⟨a,xs,e,q,l,n,r⟩:=h; exact ⟨a,xs,e,q,by simp,l,n,r⟩
 | dt ks ds=>obtain ⟨a,xs,e,q,l,n,r⟩:=h; exact ⟨a,xs,e,q,by simp,l,n,r⟩
 | fd m=>obtain ⟨a,e,q⟩:=h; exact ⟨a,e,q,by simp⟩
 | dp rs=>obtain ⟨a,o,e,q,r⟩:=h; exact ⟨a,o,e,q,by simp,r⟩
 | _=>exact h
inductive Kd where | val | own | fre | new
 deriving DecidableEq
structure EV where
 k:Kd
 d:D
abbrev DE:=List (Option EV)
abbrev dv (d:D):EV:=⟨.val,d⟩
abbrev df (d:D):EV:=⟨.fre,d⟩
abbrev dO (d:D):EV:=⟨.own,d⟩
def RV (K:W.Frag) (H0 H:Hp) (O:List Addr) (r:EV) (v:V):Prop:=match r.k with
 | .val=>Rep K H O r.d v
 | .own=>∃ a,v=.ref a /\ a ∈ O /\ Con K H O r.d a
 | .fre=>∃ a,v=.ref a /\ H0 a=none /\ a ∉ O /\ Con K H (a :: O) r.d a
 | .new=>RepN K H (λa=>a ∉ O /\ H0 a=none) r.d v
section
variable {K:W.Frag} {H0 H1 H H':Hp} {O:List Addr} {r:EV} {v:V}
def RV.val {d:D} (h:Rep K H O d v):RV K H0 H O (dv d) v:=h
def RV.same (h:RV K H0 H O r v) (s:Same H H'):RV K H0 H' O r v:=by
 obtain ⟨k,d⟩:=r
 cases k with
 | val=>exact Rep.grow (Grow.same s) _ _ h
 | own=>obtain ⟨a,e,m,c⟩:=h; exact ⟨a,e,m,c.same s⟩
 | fre=>obtain ⟨a,e,m,n,c⟩:=h; exact ⟨a,e,m,n,c.same s⟩
 | new=>exact RepN.to s (λ_ z=>z) _ _ h
def RV.start (h:RV K H0 H O r v) (s:Same H1 H0):RV K H1 H O r v:=by
 obtain ⟨k,d⟩:=r
 cases k with
 | val=>exact h
 | own=>exact h
 | fre=>obtain ⟨a,e,m,n,c⟩:=h; exact ⟨a,e,s.free m,n,c⟩
 | new=>exact RepN.to (Same.refl H) (λa z=>⟨z.1,s.free z.2⟩) _ _ h
def RV.view (h:RV K H0 H O r v):View K H O r.d v:=by
 obtain ⟨k,d⟩:=r
 cases k with
 | val=>exact Rep.view h
 | own=>obtain ⟨a,e,m,c⟩:=h; subst e; exact c.view
 | fre=>obtain ⟨a,e,m,n,c⟩:=h; subst e; exact (c.sub λb hb=>zal _ hb).view
 | new=>exact (RepN.rep (λa z=>z.1) _ _ h).view
def RV.solid (h:RV K H0 H O r v) (hk:r.k ≠ .own):Rep K H O r.d v:=by
 obtain ⟨k,d⟩:=r
 cases k with
 | val=>exact h
 | own=>exact absurd rfl hk
 | fre=>obtain ⟨a,e,m,n,c⟩:=h; subst e; exact (c.sub λb hb=>zal _ hb).rep n
 | new=>exact RepN.rep (λa z=>z.1) _ _ h
end
structure REnv (K:W.Frag) (H₀ H:Hp) (σ:St) (ρ:DE) (o:List (Nat × Addr)):Prop where
 same:Same H₀ H
 fresh:∀ p ∈ o,H₀ p.2=none
 trk:∀ p ∈ o,∃ u,H p.2=some u
 mtb:∀ p ∈ o,(∀ xs,H p.2 ≠ some (.tup xs)) /\ ∀ ob u,H p.2 ≠ some (.frz ob u)
 nda:(o.map Prod.snd).Nodup
 slots:∀ i r,ρ[i]?=some (some r)->∃ v,σ[i]?=some (some v) /\ ((r.k=.val /\ Rep K H (o.map Prod.snd) r.d v) \/ (r.k=.own /\ ∃ a,v=.ref a /\ (i,a) ∈ o /\ Con K H (o.map Prod.snd) r.d a))
 len:σ.length=ρ.length
section
variable {K:W.Frag} {H₀ H H':Hp} {σ:St} {ρ:DE} {o:List (Nat × Addr)}
def REnv.to (R:REnv K H₀ H σ ρ o) (s:Same H H'):REnv K H₀ H' σ ρ o where
 same:=R.same.trans s
 fresh:=R.fresh
 trk:=λp hp=>let ⟨u,e⟩:=R.trk p hp; ⟨u,s _ _ e⟩
 mtb:=λp hp=>by
  obtain ⟨u,e⟩:=R.trk p hp
  obtain ⟨m1,m2⟩:=R.mtb p hp
  refine ⟨λxs z=>?_,λob w z=>?_⟩
  ·rw [s _ _ e] at z; rw [<- e] at z; exact m1 xs z
  ·rw [s _ _ e] at z; rw [<- e] at z; exact m2 ob w z
 nda:=R.nda
 slots:=λi r e=>by
  obtain ⟨v,ev,h⟩:=R.slots i r e
  refine ⟨v,ev,?_⟩
  rcases h with ⟨k,h⟩ | ⟨k,a,e1,m,c⟩
  ·exact .inl ⟨k,Rep.grow (Grow.same s) _ _ h⟩
  ·exact .inr ⟨k,a,e1,m,c.same s⟩
 len:=R.len
def REnv.ofree (R:REnv K H₀ H σ ρ o) {a:Addr} (h:H a=none):a ∉ o.map Prod.snd:=λz=>by
 obtain ⟨p,hp,e⟩:=zah.mp z
 obtain ⟨u,q⟩:=R.trk p hp
 rw [e,h] at q
 cases q
end
abbrev TD:=DE->(EV->Prop)->Prop
abbrev TDb:=DE->(Bool->Prop)->Prop
abbrev TDs:=DE->(List EV->Prop)->Prop
structure DZ where
 nx:DE->Prop
 rt:EV->Prop
 bk:DE->Prop:=λ_=>False
 ct:DE->Prop:=λ_=>False
abbrev TDS:=DE->DZ->Prop
def RVs (K:W.Frag) (H0 H:Hp) (O:List Addr):List EV->List V->Prop
 | [],vs=>vs=[]
 | r :: rs,vs=>∃ v ws,vs=v :: ws /\ RV K H0 H O r v /\ RVs K H0 H O rs ws
def RVs.same {K:W.Frag} {H0 H H':Hp} {O:List Addr} (s:Same H H'):∀ {rs:List EV} {vs:List V},RVs K H0 H O rs vs->RVs K H0 H' O rs vs
 | [],_,h=>h
 | r :: rs,vs,h=>by
  obtain ⟨v,ws,e,q,t⟩:=h
  exact ⟨v,ws,e,q.same s,t.same s⟩
def RVs.start {K:W.Frag} {H0 H1 H:Hp} {O:List Addr} (s:Same H1 H0):∀ {rs:List EV} {vs:List V},RVs K H0 H O rs vs->RVs K H1 H O rs vs
 | [],_,h=>h
 | r :: rs,vs,h=>by
  obtain ⟨v,ws,e,q,t⟩:=h
  exact ⟨v,ws,e,q.start s,t.start s⟩
def RVs.reps {K:W.Frag} {H0 H:Hp} {O:List Addr}:∀ {rs:List EV} {vs:List V},RVs K H0 H O rs vs->(∀ r ∈ rs,r.k ≠ .own)->Reps K H O (rs.map EV.d) vs
 | [],_,h,_=>h
 | r :: rs,vs,h,n=>by
  obtain ⟨v,ws,e,q,t⟩:=h
  exact ⟨v,ws,e,q.solid (n r (zao ..)),t.reps λr' h'=>n r' (zal _ h')⟩
def RVs.reps0 {K:W.Frag} {H0 H:Hp} {O:List Addr}:∀ {rs:List EV} {vs:List V},RVs K H0 H O rs vs->Reps K H [] (rs.map EV.d) vs
 | [],_,h=>h
 | r :: rs,vs,h=>by
  obtain ⟨v,ws,e,q,t⟩:=h
  exact ⟨v,ws,e,q.view.rep0,t.reps0⟩
def uz (K:W.Frag) (H₀:Hp) (t:TD):TE:=λσ H Q=>∃ ρ o,REnv K H₀ H σ ρ o /\ ∃ φ,t ρ φ /\ ∀ v r H',Same H H'->RV K H H' (o.map Prod.snd) r v->φ r->Q v H'
def b5 (K:W.Frag) (H₀:Hp) (t:TDb):TT:=λσ H Q=>∃ ρ o,REnv K H₀ H σ ρ o /\ ∃ φ,t ρ φ /\ ∀ b H',Same H H'->φ b->Q b H'
def Km (K:W.Frag) (H₀:Hp) (t:TDs):TA:=λσ H Q=>∃ ρ o,REnv K H₀ H σ ρ o /\ ∃ φ,t ρ φ /\ ∀ vs rs H',Same H H'->RVs K H H' (o.map Prod.snd) rs vs->φ rs->Q vs H'
def O1 (K:W.Frag) (H₀:Hp) (t:TDS):TS:=λD σ H=>∃ ρ o,REnv K H₀ H σ ρ o /\ ∃ Z,t ρ Z /\
 (∀ ρ' σ' H' o',Grow (o.map Prod.snd) (o'.map Prod.snd) H H'->REnv K H₀ H' σ' ρ' o'->Z.nx ρ'->D.nx σ' H') /\
 (∀ ρ' σ' H' o',Grow (o.map Prod.snd) (o'.map Prod.snd) H H'->REnv K H₀ H' σ' ρ' o'->Z.bk ρ'->D.bk σ' H') /\
 (∀ ρ' σ' H' o',Grow (o.map Prod.snd) (o'.map Prod.snd) H H'->REnv K H₀ H' σ' ρ' o'->Z.ct ρ'->D.ct σ' H') /\
 (∀ v r H',Same H₀ H'->RV K H₀ H' [] r v->Z.rt r->D.rt v H')
def ED (G:Hp->Prop) (X:Cx) (e:Expr) (t:TD):Prop:=∀ H₀:{H:Hp // G H},PE X e (uz X.K H₀.1 t)
def ET (G:Hp->Prop) (X:Cx) (e:Expr) (t:TDb):Prop:=∀ H₀:{H:Hp // G H},PT X e (b5 X.K H₀.1 t)
def EW (G:Hp->Prop) (X:Cx) (e:Expr) (t:TDb):Prop:=∀ H₀:{H:Hp // G H},PW X e (b5 X.K H₀.1 t)
def EA (G:Hp->Prop) (X:Cx) (es:List Expr) (t:TDs):Prop:=∀ H₀:{H:Hp // G H},PA X es (Km X.K H₀.1 t)
def SD (G:Hp->Prop) (X:Cx) (st:Stmt) (t:TDS):Prop:=∀ H₀:{H:Hp // G H},PS X st (O1 X.K H₀.1 t)
def SDs (G:Hp->Prop) (X:Cx) (st:List Stmt) (t:TDS):Prop:=∀ H₀:{H:Hp // G H},PSs X st (O1 X.K H₀.1 t)
def impE {X:Cx} {e:Expr} {t t':TE} (h:PE X e t) (i:∀ σ H Q,t' σ H Q->t σ H Q):PE X e t':=λpn s σ H Q I q=>h pn s σ H Q I (i σ H Q q)
def impT {X:Cx} {e:Expr} {t t':TT} (h:PT X e t) (i:∀ σ H Q,t' σ H Q->t σ H Q):PT X e t':=λpn s σ H Q I q=>h pn s σ H Q I (i σ H Q q)
def impW {X:Cx} {e:Expr} {t t':TT} (h:PW X e t) (i:∀ σ H Q,t' σ H Q->t σ H Q):PW X e t':=λwh pn s σ H Q I q=>h wh pn s σ H Q I (i σ H Q q)
def impA {X:Cx} {es:List Expr} {t t':TA} (h:PA X es t) (i:∀ σ H Q,t' σ H Q->t σ H Q):PA X es t':=λpos pn s σ H Q I q=>h pos pn s σ H Q I (i σ H Q q)
def impS {X:Cx} {st:Stmt} {t t':TS} (h:PS X st t) (i:∀ D σ H,t' D σ H->t D σ H):PS X st t':=λpn s σ H D I q=>h pn s σ H D I (i D σ H q)
def Sy {X:Cx} {st:List Stmt} {t t':TS} (h:PSs X st t) (i:∀ D σ H,t' D σ H->t D σ H):PSs X st t':=λpn s σ H D I q=>h pn s σ H D I (i D σ H q)
end DL
namespace DL
open PySem PySem.Spec L2 L3
open PyProof.Rows hiding St
variable {Γ:Hp->Prop}
def slot:DE->Nat->Option EV
 | [],_=>none
 | x :: _,0=>x
 | _ :: r,i + 1=>slot r i
def yi:∀ {ρ:DE} {i:Nat} {r:EV},slot ρ i=some r->ρ[i]?=some (some r)
 | [],_,_,h=>by cases h
 | x :: _,0,_,h=>by cases h; rfl
 | _ :: l,i + 1,r,h=>by rw [List.getElem?_cons_succ]; exact yi (ρ:=l) h
def xi (i:Nat):TD:=λρ φ=>match slot ρ i with
 | some r=>φ r
 | none=>False
def dC (d:D):TD:=λ_ φ=>φ (dv d)
section
variable {X:Cx} {a b c e:Expr} {ta tb tc te:TD} {pos:Pos}
def z0 (i:Nat) {x:Str} (hN:X.N[i]?=some x:=by rfl) (hv:Vis X.env.scope x:=by first | exact Or.inl rfl | exact Or.inr (Or.inl rfl) | exact Or.inr (Or.inr rfl)) (hd:(x == ("__debug__" : Str))=false:=by decide)
  (hcd:(x == ("__classdict__" : Str))=false:=by decide):ED Γ X (.Name x pos) (xi i):=λH₀=>impE (wa hN hv hd hcd) λσ H Q h=>by
 obtain ⟨ρ,o,R,φ,hφ,k⟩:=h
 cases e:slot ρ i with
 | none =>
  simp only [xi,e] at hφ
 | some r =>
  simp only [xi,e] at hφ
  obtain ⟨v,ev,h⟩:=R.slots i r (yi e)
  refine ⟨v,ev,k v r H (Same.refl H) ?_ hφ⟩
  obtain ⟨kd,d⟩:=r
  rcases h with ⟨rfl,h⟩ | ⟨rfl,a,e1,m,c⟩
  ·exact h
  ·exact ⟨a,e1,zah.mpr ⟨_,m,rfl⟩,c⟩
def ed_c {x:Expr} {v:V} {d:D} (h:PE X x (tC v)) (hr:∀ H O,Rep X.K H O d v):ED Γ X x (dC d):=λH₀=>impE h λσ H Q h=>by
 obtain ⟨ρ,o,R,φ,hφ,k⟩:=h
 exact k v (dv d) H (Same.refl H) (hr H _) hφ
def zc {i:Int} {j pos}:ED Γ X (.Constant (.int i) j pos) (dC (.int i)):=ed_c Gx λ_ _=>rfl
def Ov {b:Bool} {j pos}:ED Γ X (.Constant (.bool b) j pos) (dC (.bl b)):=ed_c De λ_ _=>rfl
def Xe {x:Str} {n:String} (hm:X.mg x=none) (hv:bootBuiltins x=some (.type n)) (hg:Gl X x:=by rfl) (hn:x ≠ "__name__":=by decide) (hd:(x == ("__debug__" : Str))=false:=by decide):ED Γ X (.Name x pos) (dC (.ty n)) :=
 ed_c (K8 hg hm hv (v:=.ty n) rfl hn hd) λ_ _=>rfl
def sv (K:W.Frag) (rr:R2) (s:D->D->(EV->Prop)->Prop):Prop :=
 ∀ (H:Hp) (O:List Addr) (x y:D) (vx vy:V) (φ:EV->Prop) (Q:VK),(∀ a,H a=none->a ∉ O)->View K H O x vx->View K H O y vy->s x y φ ->
  (∀ v r H',Same H H'->RV K H H' O r v->φ r->Q v H')->rr vx vy H Q
def d2 (s:D->D->(EV->Prop)->Prop) (ta tb:TD):TD:=λρ φ=>ta ρ λx=>tb ρ λy=>s x.d y.d φ
def Si {rr:R2} {s:D->D->(EV->Prop)->Prop} {H₀:Hp} (hl:sv X.K rr s):∀ σ H Q,uz X.K H₀ (d2 s ta tb) σ H Q->tOp rr (uz X.K H₀ ta) (uz X.K H₀ tb) σ H Q:=λσ H Q h=>by
 obtain ⟨ρ,o,R,φ,hφ,k⟩:=h
 refine ⟨ρ,o,R,_,hφ,λv1 r1 H1 s1 rv1 h1=>⟨ρ,o,R.to s1,_,h1,λv2 r2 H2 s2 rv2 h2=>?_⟩⟩
 exact hl H2 _ r1.d r2.d v1 v2 φ Q (λa e=>R.ofree ((s1.trans s2).free e)) (rv1.same s2).view rv2.view h2 λv r H' s3 rv h=>k v r H' (s1.trans (s2.trans s3)) (rv.start (s1.trans s2)) h
def qy {op:Operator} {rr:R2} {s:D->D->(EV->Prop)->Prop} (ho:OpR X (binaryOp op) rr) (hl:sv X.K rr s) (ha:ED Γ X a ta) (hb:ED Γ X b tb):ED Γ X (.BinOp a op b pos) (d2 s ta tb):=λH₀ =>
 impE (Gs ho (ha H₀) (hb H₀)) (Si hl)
def Ej {op:CmpOp} {rr:R2} {s:D->D->(EV->Prop)->Prop} (ho:OpR X (compareOp op) rr) (hl:sv X.K rr s) (ha:ED Γ X a ta) (hb:ED Γ X b tb) (hm:behindInMarks op b=false):ED Γ X (.Compare a [op] [b] pos) (d2 s ta tb):=λH₀ =>
 impE (K7 ho (ha H₀) (hb H₀) hm) (Si hl)
def Ka:OpR X (binaryOp .Mult) (rI IntMulOk λi j=>.int (i * j)):=opI λ_ _ _ _ _ _ _ hc q=>PyProof.Rows.mul_int q hc
def FdOk (i j:Int):Prop:=j ≠ 0 /\ j.natAbs.log2 < 9000
def Pm:OpR X (binaryOp .FloorDiv) (rI FdOk λi j=>.int (i.fdiv j)):=opI λ_ _ _ _ _ _ _ hc q=>floordiv_int hc.1 q (.inl (PyProof.noPylong_of_log2 hc.2))
def sI (C:Int->Int->Prop) (g:Int->Int->D):D->D->(EV->Prop)->Prop:=λx y φ=>match x,y with
 | .int i,.int j=>C i j /\ φ (dv (g i j))
 | _,_=>False
def Se {K:W.Frag} {C:Int->Int->Prop} {g:Int->Int->D} {gv:Int->Int->V} (hg:∀ i j H O,Rep K H O (g i j) (gv i j)):sv K (rI C gv) (sI C g):=by
 intro H O x y vx vy φ Q ho hx hy h k
 unfold sI at h
 split at h
 ·exact ⟨_,_,hx,hy,h.1,k _ _ H (Same.refl H) (by exact hg _ _ H O) h.2⟩
 ·exact h.elim
def sI0 (g:Int->Int->D):D->D->(EV->Prop)->Prop:=λx y φ=>match x,y with
 | .int i,.int j=>φ (dv (g i j))
 | _,_=>False
def gq {K:W.Frag} {g:Int->Int->D} {gv:Int->Int->V} (hg:∀ i j H O,Rep K H O (g i j) (gv i j)):sv K (rI0 gv) (sI0 g):=by
 intro H O x y vx vy φ Q ho hx hy h k
 unfold sI0 at h
 split at h
 ·exact ⟨_,_,hx,hy,k _ _ H (Same.refl H) (by exact hg _ _ H O) h⟩
 ·exact h.elim
abbrev sSub:=sI0 λi j=>.int (i - j)
abbrev sFd:=sI FdOk λi j=>.int (i.fdiv j)
abbrev sMod:=sI (λ_ j=>j ≠ 0) λi j=>.int (i.fmod j)
abbrev sPow:=sI CPow λi j=>.int (i ^ j.toNat)
abbrev sLt:=sI0 λi j=>.bl (decide (i < j))
abbrev sGt:=sI0 λi j=>.bl (decide (j < i))
abbrev sGe:=sI0 λi j=>.bl (decide (j <= i))
def ui (ha:ED Γ X a ta) (hb:ED Γ X b tb):ED Γ X (.BinOp a .Sub b pos) (d2 sSub ta tb):=qy Fb (gq λ_ _ _ _=>rfl) ha hb
def vq (ha:ED Γ X a ta) (hb:ED Γ X b tb):ED Γ X (.BinOp a .FloorDiv b pos) (d2 sFd ta tb):=qy Pm (Se λ_ _ _ _=>rfl) ha hb
def x8 (ha:ED Γ X a ta) (hb:ED Γ X b tb):ED Γ X (.BinOp a .Mod b pos) (d2 sMod ta tb):=qy Kb (Se λ_ _ _ _=>rfl) ha hb
def Ri (ha:ED Γ X a ta) (hb:ED Γ X b tb):ED Γ X (.BinOp a .Pow b pos) (d2 sPow ta tb):=qy Fd (Se λ_ _ _ _=>rfl) ha hb
def sAdd:D->D->(EV->Prop)->Prop:=λx y φ=>match x,y with
 | .int i,.int j=>φ (dv (.int (i + j)))
 | .str p,.str q=>p.length + q.length <= sizeLine /\ φ (dv (.str (p ++ q)))
 | .lst p,.lst q=>p.length + q.length <= sizeLine /\ φ (df (.lst (p ++ q)))
 | .tup p,.tup q=>p ≠ [] /\ q ≠ [] /\ p.length + q.length <= sizeLine /\ φ (dv (.tup (p ++ q)))
 | _,_=>False
def zr {H:Hp} {p:Addr} (h:H p=none) (o:HO):Same H (upd H p o):=λb u q=>by rw [zg (zb q h)]; exact q
def P4 {K:W.Frag} {H:Hp} {O:List Addr} {p:Addr} {o:HO} {ds:List D} {xs:List V} (hp:H p=none) (r:Reps K H O ds xs):Reps K (upd H p o) O ds xs:=Reps.grow (Grow.same (zr hp o)) _ _ r
def Oc {H:Hp} {O:List Addr} {p:Addr} {o:HO} (hp:H p=none):Grow O (p :: O) H (upd H p o) :=
 ⟨λb u h n=>⟨zr hp o b u h,λz=>(zam.mp z).elim (λe=>zb h hp e) n⟩,λb xs h=>zr hp o b _ h,λb ob u h=>zr hp o b _ h⟩
def vd {K:W.Frag} {H:Hp} {O:List Addr} {p:Addr} {ds:List D} {xs:List V} (ho:∀ a,H a=none->a ∉ O) (hp:H p=none) (r:Reps K H O ds xs):RV K H (upd H p (.lst xs)) O (df (.lst ds)) (.ref p) :=
 ⟨p,rfl,hp,ho p hp,xs,zh,Reps.grow (Oc hp) _ _ r⟩
def qe {K:W.Frag} {H:Hp} {O:List Addr} {p:Addr} {ds:List D} {xs:List V} (hp:H p=none) (r:Reps K H O ds xs):RV K H (upd H p (.tup xs)) O (dv (.tup ds)) (.ref p) :=
 ⟨p,xs,rfl,⟨SqT.of zh,zh⟩,P4 hp r⟩
def O0:sv X.K (λx y H Q=>rI0 (λi j=>.int (i + j)) x y H Q \/ (∃ i j,x=.str i /\ y=.str j /\ i.length + j.length <= sizeLine /\ Q (.str (i ++ j)) H) \/ rCat x y H Q \/ Gc X.K x y H Q) sAdd:=by
 intro H O x y vx vy φ Q ho hx hy h k
 unfold sAdd at h
 split at h
 ·exact .inl ⟨_,_,hx,hy,k _ _ H (Same.refl H) (by exact rfl) h⟩
 ·exact .inr (.inl ⟨_,_,hx,hy,h.1,k _ _ H (Same.refl H) (by exact rfl) h.2⟩)
 ·obtain ⟨a1,xs,rfl,q1,r1⟩:=hx
  obtain ⟨a2,ys,rfl,q2,r2⟩:=hy
  refine .inr (.inr (.inl ⟨a1,a2,xs,ys,rfl,rfl,q1,q2,by rw [r1.length,r2.length]; exact h.1,λp hp=>?_⟩))
  exact k _ _ _ (zr hp _) (vd ho hp (r1.append r2)) h.2
 ·obtain ⟨n1,n2,hz,hp⟩:=h
  obtain ⟨a1,xs,rfl,q1,r1⟩:=hx
  obtain ⟨a2,ys,rfl,q2,r2⟩:=hy
  refine .inr (.inr (.inr ⟨a1,a2,xs,ys,rfl,rfl,q1.1,q2.1,?_,by rw [r1.length,r2.length]; exact hz,λz=>?_,λ_ p hpn=>?_⟩))
  ·intro z
   have e:=r1.length
   rw [z] at e
   exact n1 (List.eq_nil_of_length_eq_zero e.symm)
  ·exfalso
   have e:=r2.length
   rw [z] at e
   exact n2 (List.eq_nil_of_length_eq_zero e.symm)
  ·exact k _ _ _ (zr hpn _) (qe hpn (r1.append r2)) hp
 ·exact h.elim
def y8 (ha:ED Γ X a ta) (hb:ED Γ X b tb):ED Γ X (.BinOp a .Add b pos) (d2 sAdd ta tb):=qy (Fg.or (Vd.or (Ff.or Tv))) O0 ha hb
def sMul:D->D->(EV->Prop)->Prop:=λx y φ=>match x,y with
 | .int i,.int j=>IntMulOk i j /\ φ (dv (.int (i * j)))
 | .lst p,.int k=>-(2 ^ 63) <= k /\ k < 2 ^ 63 /\ p.length * k.toNat <= sizeLine /\ φ (df (.lst (List.replicate k.toNat p).flatten))
 | _,_=>False
end
mutual
def eqD:D->D->Bool
 | .non,.non=>true
 | .bl a,.bl b=>a == b
 | .bl a,.int b=>(if a then 1 else 0) == b
 | .int a,.bl b=>a == (if b then 1 else 0)
 | .int a,.int b=>a == b
 | .str a,.str b=>a == b
 | .tup a,.tup b=>eqDs a b
 | .lst a,.lst b=>eqDs a b
 | _,_=>false
def eqDs:List D->List D->Bool
 | [],[]=>true
 | a :: as,b :: bs=>eqD a b && eqDs as bs
 | _,_=>false
end
def okD:Nat->D->Prop
 | 0,d=>match d with
  | .non=>True
  | .bl _=>True
  | .int _=>True
  | .str _=>True
  | _=>False
 | n + 1,d=>match d with
  | .non=>True
  | .bl _=>True
  | .int _=>True
  | .str _=>True
  | .tup ds=>∀ x ∈ ds,okD n x
  | .lst ds=>∀ x ∈ ds,okD n x
  | _=>False
def ug:∀ {ds es:List D},eqDs ds es=true ↔ ds.length=es.length /\ ∀ (j:Nat) (x y:D),ds[j]?=some x->es[j]?=some y->eqD x y=true
 | [],[]=>by simp [eqDs]
 | [],y :: es=>by simp [eqDs]
 | x :: ds,[]=>by simp [eqDs]
 | x :: ds,y :: es=>by
  rw [eqDs,Bool.and_eq_true,ug]
  constructor
  ·rintro ⟨h,hl,q⟩
   refine ⟨by simp [hl],λj a b ha hb=>?_⟩
   cases j with
   | zero=>simp at ha hb; subst ha hb; exact h
   | succ j=>exact q j a b (by simpa using ha) (by simpa using hb)
  ·rintro ⟨hl,q⟩
   exact ⟨q 0 x y rfl rfl,by simpa using hl,λj a b ha hb=>q (j + 1) a b (by simpa using ha) (by simpa using hb)⟩
def t5 (ds es:List D):eqDs ds es=((List.range (min ds.length es.length)).all (λj=>eqD (ds.getD j .non) (es.getD j .non)) && ds.length == es.length):=by
 rw [Bool.eq_iff_iff,ug,Bool.and_eq_true,List.all_eq_true]
 constructor
 ·rintro ⟨hl,q⟩
  refine ⟨λj hj=>?_,by simp [hl]⟩
  have hj':=List.mem_range.mp hj
  have h1:j < ds.length:=by omega
  have h2:j < es.length:=by omega
  have e1:ds[j]?=some ds[j]:=by simp [h1]
  have e2:es[j]?=some es[j]:=by simp [h2]
  have:=q j _ _ e1 e2
  simpa [List.getD,e1,e2] using this
 ·rintro ⟨q,hl⟩
  have hl':ds.length=es.length:=by simpa using hl
  refine ⟨hl',λj x y hx hy=>?_⟩
  have h1:=(zag.mp hx).1
  have:=q j (List.mem_range.mpr (by omega))
  simpa [List.getD,hx,hy] using this
def Om:∀ (n:Nat) (d:D),okD n d->eqD d d=true:=by
 intro n
 induction n with
 | zero=>intro d h; cases d <;> first | exact h.elim | simp [eqD]
 | succ n ih =>
  intro d h
  cases d with
  | tup ds =>
   show eqDs ds ds=true
   refine ug.mpr ⟨rfl,λj x y hx hy=>?_⟩
   rw [hx] at hy
   cases hy
   exact ih x (h x (zan hx))
  | lst ds =>
   show eqDs ds ds=true
   refine ug.mpr ⟨rfl,λj x y hx hy=>?_⟩
   rw [hx] at hy
   cases hy
   exact ih x (h x (zan hx))
  | dk _ _=>exact h.elim
  | dt _ _=>exact h.elim
  | ty _=>exact h.elim
  | cn _=>exact h.elim
  | scr _=>exact h.elim
  | dz _=>exact h.elim
  | exc _=>exact h.elim
  | fd _=>exact h.elim
  | dp _=>exact h.elim
  | ob _ _ _=>exact h.elim
  | _=>simp [eqD]
section
variable {X:Cx} {pn:List (Addr × Obj)} {σ:St} {H:Hp} {s:Shared}
def Rep.inj (I:Inv X pn σ H s):∀ (n:Nat) (d e:D) (v:V),okD n d->okD n e->Rep X.K H [] d v->Rep X.K H [] e v->d=e:=by
 intro n
 induction n with
 | zero =>
  intro d e v hd he h1 h2
  cases d <;> first | exact hd.elim | (cases e <;> first | exact he.elim | (have z:=(show v=_ from h1).symm.trans (show v=_ from h2); first | rfl | (injection z with z; rw [z]) | cases z))
 | succ n ih =>
  have lists:∀ (ds es:List D) (xs:List V),(∀ x ∈ ds,okD n x)->(∀ x ∈ es,okD n x)->Reps X.K H [] ds xs->Reps X.K H [] es xs->ds=es:=by
   intro ds
   induction ds with
   | nil =>
    intro es xs _ _ r1 r2
    have:=r1.length
    have h2:=r2.length
    rw [this] at h2
    exact (List.eq_nil_of_length_eq_zero h2.symm).symm
   | cons d ds ih2 =>
    intro es xs h1 h2 r1 r2
    obtain ⟨v,r,rfl,q,t⟩:=r1
    cases es with
    | nil=>cases r2
    | cons e es =>
     obtain ⟨v',r',e1,q',t'⟩:=r2
     cases e1
     rw [ih d e v (h1 d (zao ..)) (h2 e (zao ..)) q q',ih2 es r (λx hx=>h1 x (zal _ hx)) (λx hx=>h2 x (zal _ hx)) t t']
  intro d e v hd he h1 h2
  have noTL:∀ (a:Addr) (xs ys:List V),SqT X.K H a xs->H a=some (.lst ys)->False:=λa xs ys q1 q2=>by
   obtain ⟨its,_,p1,_⟩:=I.tuple q1
   obtain ⟨its2,_,p2,_⟩:=I.list (SqL.of q2)
   exact SeqAt.ne_of_list_tuple p2.isList (show s.heap.IsTuple a its.toArray from p1) rfl
  cases d with
  | tup ds =>
   obtain ⟨a,xs,rfl,q1,r1⟩:=h1
   cases e with
   | tup es =>
    obtain ⟨a',ys,e1,q2,r2⟩:=h2
    cases e1
    have:=I.tuple_inj q1.1 q2.1
    subst this
    rw [lists ds es xs hd he r1 r2]
   | lst es =>
    obtain ⟨a',ys,e1,q2,_,r2⟩:=h2
    cases e1
    exact (noTL _ _ _ q1.1 q2).elim
   | dk _ _=>exact he.elim
   | dt _ _=>exact he.elim
   | scr _=>exact he.elim
   | dz _=>exact he.elim
   | exc _=>exact he.elim
   | fd _=>exact he.elim
   | dp _=>exact he.elim
   | ob _ _ _=>exact he.elim
   | ty _=>exact he.elim
   | cn _=>exact he.elim
   | _=>cases (show V.ref a=_ from h2)
  | lst ds =>
   obtain ⟨a,xs,rfl,q1,_,r1⟩:=h1
   cases e with
   | tup es =>
    obtain ⟨a',ys,e1,q2,r2⟩:=h2
    cases e1
    exact (noTL _ _ _ q2.1 q1).elim
   | lst es =>
    obtain ⟨a',ys,e1,q2,_,r2⟩:=h2
    cases e1
    have:=I.list_inj (SqL.of q1) (SqL.of q2)
    subst this
    rw [lists ds es xs hd he r1 r2]
   | dk _ _=>exact he.elim
   | dt _ _=>exact he.elim
   | scr _=>exact he.elim
   | dz _=>exact he.elim
   | exc _=>exact he.elim
   | fd _=>exact he.elim
   | dp _=>exact he.elim
   | ob _ _ _=>exact he.elim
   | ty _=>exact he.elim
   | cn _=>exact he.elim
   | _=>cases (show V.ref a=_ from h2)
  | dk _ _=>exact hd.elim
  | dt _ _=>exact hd.elim
  | scr _=>exact hd.elim
  | dz _=>exact hd.elim
  | exc _=>exact hd.elim
  | fd _=>exact hd.elim
  | dp _=>exact hd.elim
  | ob _ _ _=>exact hd.elim
  | ty _=>exact hd.elim
  | cn _=>exact hd.elim
  | non =>
   cases e with
   | tup es=>obtain ⟨a',ys,e1,_⟩:=h2; cases (show v=_ from h1); cases e1
   | lst es=>obtain ⟨a',ys,e1,_⟩:=h2; cases (show v=_ from h1); cases e1
   | dk _ _=>exact he.elim
   | dt _ _=>exact he.elim
   | scr _=>exact he.elim
   | dz _=>exact he.elim
   | exc _=>exact he.elim
   | fd _=>exact he.elim
   | dp _=>exact he.elim
   | ob _ _ _=>exact he.elim
   | ty _=>exact he.elim
   | cn _=>exact he.elim
   | non=>rfl
   | _=>cases (show v=_ from h1); cases (show V.non=_ from h2)
  | bl b =>
   cases e with
   | tup es=>obtain ⟨a',ys,e1,_⟩:=h2; cases (show v=_ from h1); cases e1
   | lst es=>obtain ⟨a',ys,e1,_⟩:=h2; cases (show v=_ from h1); cases e1
   | dk _ _=>exact he.elim
   | dt _ _=>exact he.elim
   | scr _=>exact he.elim
   | dz _=>exact he.elim
   | exc _=>exact he.elim
   | fd _=>exact he.elim
   | dp _=>exact he.elim
   | ob _ _ _=>exact he.elim
   | ty _=>exact he.elim
   | cn _=>exact he.elim
   | _=>cases (show v=_ from h1); cases (show V.bl b=_ from h2) <;> rfl
  | int b =>
   cases e with
   | tup es=>obtain ⟨a',ys,e1,_⟩:=h2; cases (show v=_ from h1); cases e1
   | lst es=>obtain ⟨a',ys,e1,_⟩:=h2; cases (show v=_ from h1); cases e1
   | dk _ _=>exact he.elim
   | dt _ _=>exact he.elim
   | scr _=>exact he.elim
   | dz _=>exact he.elim
   | exc _=>exact he.elim
   | fd _=>exact he.elim
   | dp _=>exact he.elim
   | ob _ _ _=>exact he.elim
   | ty _=>exact he.elim
   | cn _=>exact he.elim
   | _=>cases (show v=_ from h1); cases (show V.int b=_ from h2) <;> rfl
  | str b =>
   cases e with
   | tup es=>obtain ⟨a',ys,e1,_⟩:=h2; cases (show v=_ from h1); cases e1
   | lst es=>obtain ⟨a',ys,e1,_⟩:=h2; cases (show v=_ from h1); cases e1
   | dk _ _=>exact he.elim
   | dt _ _=>exact he.elim
   | scr _=>exact he.elim
   | dz _=>exact he.elim
   | exc _=>exact he.elim
   | fd _=>exact he.elim
   | dp _=>exact he.elim
   | ob _ _ _=>exact he.elim
   | ty _=>exact he.elim
   | cn _=>exact he.elim
   | _=>cases (show v=_ from h1); cases (show V.str b=_ from h2) <;> rfl
inductive Sh (K:W.Frag) (H:Hp) (s:Shared):D->Value->Prop where
 | non:Sh K H s .non .none
 | bl (b:Bool):Sh K H s (.bl b) (.bool b)
 | int (i:Int) (t:Tok):Sh K H s (.int i) (.int i t)
 | str (x:Str) (t:Tok):Sh K H s (.str x) (.str x t)
 | tup {a:Addr} {ds:List D} {xs:List V} {its:List Value} (p:s.heap.IsTuple a its.toArray) (r:Vals xs its) (q:Reps K H [] ds xs):Sh K H s (.tup ds) (.ref a)
 | lst {a:Addr} {ds:List D} {xs:List V} {its:List Value} (p:s.heap.IsList a its.toArray) (r:Vals xs its) (q:Reps K H [] ds xs):Sh K H s (.lst ds) (.ref a)
def sh (I:Inv X pn σ H s) {n:Nat} {d:D} {x:V} {u:Value} (hd:okD n d) (h:Rep X.K H [] d x) (r:RelV x u):Sh X.K H s d u:=by
 cases d with
 | non=>cases (show x=_ from h); cases r; exact .non
 | bl b=>cases (show x=_ from h); cases r; exact .bl b
 | int b=>cases (show x=_ from h); obtain ⟨t,rfl⟩:=r; exact .int b t
 | str b=>cases (show x=_ from h); obtain ⟨t,rfl⟩:=r; exact .str b t
 | ty _=>cases n <;> exact hd.elim
 | cn _=>cases n <;> exact hd.elim
 | dk _ _=>cases n <;> exact hd.elim
 | dt _ _=>cases n <;> exact hd.elim
 | scr _=>cases n <;> exact hd.elim
 | dz _=>cases n <;> exact hd.elim
 | exc _=>cases n <;> exact hd.elim
 | fd _=>cases n <;> exact hd.elim
 | dp _=>cases n <;> exact hd.elim
 | ob _ _ _=>cases n <;> exact hd.elim
 | tup ds =>
  obtain ⟨a,xs,rfl,q,t⟩:=h
  cases r
  obtain ⟨its,rv,p,_⟩:=I.tuple q.1
  exact .tup (show s.heap.IsTuple a its.toArray from p) rv t
 | lst ds =>
  obtain ⟨a,xs,rfl,q,_,t⟩:=h
  cases r
  obtain ⟨its,rv,p,_⟩:=I.list (SqL.of q)
  exact .lst p.isList rv t
def Xc (I:Inv X pn σ H s):∀ (n:Nat) (d e:D) (x y:V) (u v:Value) (A:Around),okD n d->okD n e->Rep X.K H [] d x->Rep X.K H [] e y->RelV x u->RelV y v->A.units + n < cLine ->
  SeqAt.RcAt A s u v (eqD d e) /\ SeqAt.RcNeAt A s u v (!eqD d e) /\ SeqAt.EqAt A s u v (eqD d e):=by
 intro n
 induction n with
 | zero =>
  intro d e x y u v A hd he h1 h2 r1 r2 hu
  have hu':A.units < cLine:=by omega
  cases sh I hd h1 r1 with
  | tup=>exact hd.elim
  | lst=>exact hd.elim
  | non =>
   cases sh I he h2 r2 with
   | non=>exact ⟨SeqAt.RcAt.none_none,SeqAt.RcNeAt.none_none,SeqAt.EqAt.same _⟩
   | bl b=>exact ⟨SeqAt.RcAt.none_bool b,SeqAt.RcNeAt.none_bool b,SeqAt.EqAt.none_bool b⟩
   | int i t=>exact ⟨SeqAt.RcAt.none_int i t,SeqAt.RcNeAt.none_int i t,SeqAt.EqAt.none_int i t⟩
   | str i t=>exact ⟨SeqAt.RcAt.none_str i t,SeqAt.RcNeAt.none_str i t,SeqAt.EqAt.none_str i t⟩
   | tup=>exact he.elim
   | lst=>exact he.elim
  | bl a =>
   cases sh I he h2 r2 with
   | non=>exact ⟨SeqAt.RcAt.bool_none a,SeqAt.RcNeAt.bool_none a,SeqAt.EqAt.bool_none a⟩
   | bl b=>exact ⟨SeqAt.RcAt.bool_bool a b,SeqAt.RcNeAt.bool_bool a b,SeqAt.EqAt.bool_bool a b⟩
   | int i t=>exact ⟨SeqAt.RcAt.bool_int a i t,SeqAt.RcNeAt.bool_int a i t,SeqAt.EqAt.bool_int a i t⟩
   | str i t=>exact ⟨SeqAt.RcAt.bool_str a i t,SeqAt.RcNeAt.bool_str a i t,SeqAt.EqAt.bool_str a i t⟩
   | tup=>exact he.elim
   | lst=>exact he.elim
  | int a t =>
   cases sh I he h2 r2 with
   | non=>exact ⟨SeqAt.RcAt.int_none a t,SeqAt.RcNeAt.int_none a t,SeqAt.EqAt.int_none a t⟩
   | bl b=>exact ⟨SeqAt.RcAt.int_bool a t b,SeqAt.RcNeAt.int_bool a t b,SeqAt.EqAt.int_bool a t b⟩
   | int i t'=>exact ⟨SeqAt.RcAt.int_int a t i t',SeqAt.RcNeAt.int_int a t i t',SeqAt.EqAt.int_int a t i t'⟩
   | str i t'=>exact ⟨SeqAt.RcAt.int_str a t i t',SeqAt.RcNeAt.int_str a t i t',SeqAt.EqAt.int_str a t i t'⟩
   | tup=>exact he.elim
   | lst=>exact he.elim
  | str a t =>
   cases sh I he h2 r2 with
   | non=>exact ⟨SeqAt.RcAt.str_none a t,SeqAt.RcNeAt.str_none a t,SeqAt.EqAt.str_none a t⟩
   | bl b=>exact ⟨SeqAt.RcAt.str_bool a t b,SeqAt.RcNeAt.str_bool a t b,SeqAt.EqAt.str_bool a t b⟩
   | int i t'=>exact ⟨SeqAt.RcAt.str_int a t i t',SeqAt.RcNeAt.str_int a t i t',SeqAt.EqAt.str_int a t i t'⟩
   | str i t'=>exact ⟨SeqAt.RcAt.str_str a t i t',SeqAt.RcNeAt.str_str a t i t',SeqAt.EqAt.str_str a t i t'⟩
   | tup=>exact he.elim
   | lst=>exact he.elim
 | succ n ih =>
  intro d e x y u v A hd he h1 h2 r1 r2 hu
  have hu':A.units < cLine:=by omega
  have hin:A.in1.units + n < cLine:=by
   have:A.in1.units=A.units + 1:=rfl
   omega
  have refs:∀ {l b:Addr} {k:Bool},u=.ref l->v=.ref b->k=eqD d e->SeqAt.RcAt A s (.ref l) (.ref b) k->SeqAt.EqAt A s (.ref l) (.ref b) k:=λ{l b k} e1 e2 ek h=>by
   by_cases hlb:l=b
   ·subst hlb
    have hv:x=y:=by
     have z1:x=.ref l:=by
      cases x <;> subst e1 <;> first | (have:=(show Value.ref l=Value.ref _ from r1); cases this; rfl) | (obtain ⟨t,z⟩:=r1; cases z) | cases r1
     have z2:y=.ref l:=by
      cases y <;> subst e2 <;> first | (have:=(show Value.ref l=Value.ref _ from r2); cases this; rfl) | (obtain ⟨t,z⟩:=r2; cases z) | cases r2
     rw [z1,z2]
    subst hv
    have hde:=Rep.inj I (n + 1) d e x hd he h1 h2
    subst hde
    rw [ek,Om (n + 1) d hd]
    exact SeqAt.EqAt.same _
   ·exact SeqAt.EqAt.of_refs hlb h
  have items:∀ {ds es:List D} {xs ys:List V} {its its2:List Value},(∀ z ∈ ds,okD n z)->(∀ z ∈ es,okD n z)->Reps X.K H [] ds xs->Reps X.K H [] es ys->Vals xs its->Vals ys its2 ->
    ∀ j (h1:j < its.toArray.size) (h2:j < its2.toArray.size),SeqAt.EqAt A.in1 s its.toArray[j] its2.toArray[j] (eqD (ds.getD j .non) (es.getD j .non)):=λ{ds es xs ys its its2} o1 o2 q1 q2 w1 w2 j h1 h2=>by
   have l1:=w1.length
   have l2:=w2.length
   have k1:=q1.length
   have k2:=q2.length
   have g1:j < ds.length:=by simp at h1; omega
   have g2:j < es.length:=by simp at h2; omega
   have e1:ds[j]?=some ds[j]:=by simp [g1]
   have e2:es[j]?=some es[j]:=by simp [g2]
   obtain ⟨x',ex,rx⟩:=q1.get e1
   obtain ⟨y',ey,ry⟩:=q2.get e2
   obtain ⟨u',eu,ru⟩:=w1.get ex
   obtain ⟨v',ev,rv⟩:=w2.get ey
   have f1:its.toArray[j]=u':=by
    have:=(zag.mp eu).2
    simpa using this
   have f2:its2.toArray[j]=v':=by
    have:=(zag.mp ev).2
    simpa using this
   rw [f1,f2,show ds.getD j .non=ds[j] by simp [List.getD,e1],show es.getD j .non=es[j] by simp [List.getD,e2]]
   exact (ih ds[j] es[j] x' y' u' v' A.in1 (o1 _ (List.getElem_mem g1)) (o2 _ (List.getElem_mem g2)) rx ry ru rv hin).2.2
  cases sh I hd h1 r1 with
  | non =>
   cases sh I he h2 r2 with
   | non=>exact ⟨SeqAt.RcAt.none_none,SeqAt.RcNeAt.none_none,SeqAt.EqAt.same _⟩
   | bl b=>exact ⟨SeqAt.RcAt.none_bool b,SeqAt.RcNeAt.none_bool b,SeqAt.EqAt.none_bool b⟩
   | int i t=>exact ⟨SeqAt.RcAt.none_int i t,SeqAt.RcNeAt.none_int i t,SeqAt.EqAt.none_int i t⟩
   | str i t=>exact ⟨SeqAt.RcAt.none_str i t,SeqAt.RcNeAt.none_str i t,SeqAt.EqAt.none_str i t⟩
   | tup p _ _=>exact ⟨SeqAt.RcAt.none_tuple p hu',SeqAt.RcNeAt.none_tuple p hu',SeqAt.EqAt.none_tuple p hu'⟩
   | lst p _ _=>exact ⟨SeqAt.RcAt.none_list p hu',SeqAt.RcNeAt.none_list p hu',SeqAt.EqAt.none_list p hu'⟩
  | bl a =>
   cases sh I he h2 r2 with
   | non=>exact ⟨SeqAt.RcAt.bool_none a,SeqAt.RcNeAt.bool_none a,SeqAt.EqAt.bool_none a⟩
   | bl b=>exact ⟨SeqAt.RcAt.bool_bool a b,SeqAt.RcNeAt.bool_bool a b,SeqAt.EqAt.bool_bool a b⟩
   | int i t=>exact ⟨SeqAt.RcAt.bool_int a i t,SeqAt.RcNeAt.bool_int a i t,SeqAt.EqAt.bool_int a i t⟩
   | str i t=>exact ⟨SeqAt.RcAt.bool_str a i t,SeqAt.RcNeAt.bool_str a i t,SeqAt.EqAt.bool_str a i t⟩
   | tup p _ _=>exact ⟨SeqAt.RcAt.bool_tuple a p hu',SeqAt.RcNeAt.bool_tuple a p hu',SeqAt.EqAt.bool_tuple a p hu'⟩
   | lst p _ _=>exact ⟨SeqAt.RcAt.bool_list a p hu',SeqAt.RcNeAt.bool_list a p hu',SeqAt.EqAt.bool_list a p hu'⟩
  | int a t =>
   cases sh I he h2 r2 with
   | non=>exact ⟨SeqAt.RcAt.int_none a t,SeqAt.RcNeAt.int_none a t,SeqAt.EqAt.int_none a t⟩
   | bl b=>exact ⟨SeqAt.RcAt.int_bool a t b,SeqAt.RcNeAt.int_bool a t b,SeqAt.EqAt.int_bool a t b⟩
   | int i t'=>exact ⟨SeqAt.RcAt.int_int a t i t',SeqAt.RcNeAt.int_int a t i t',SeqAt.EqAt.int_int a t i t'⟩
   | str i t'=>exact ⟨SeqAt.RcAt.int_str a t i t',SeqAt.RcNeAt.int_str a t i t',SeqAt.EqAt.int_str a t i t'⟩
   | tup p _ _=>exact ⟨SeqAt.RcAt.int_tuple a t p hu',SeqAt.RcNeAt.int_tuple a t p hu',SeqAt.EqAt.int_tuple a t p hu'⟩
   | lst p _ _=>exact ⟨SeqAt.RcAt.int_list a t p hu',SeqAt.RcNeAt.int_list a t p hu',SeqAt.EqAt.int_list a t p hu'⟩
  | str a t =>
   cases sh I he h2 r2 with
   | non=>exact ⟨SeqAt.RcAt.str_none a t,SeqAt.RcNeAt.str_none a t,SeqAt.EqAt.str_none a t⟩
   | bl b=>exact ⟨SeqAt.RcAt.str_bool a t b,SeqAt.RcNeAt.str_bool a t b,SeqAt.EqAt.str_bool a t b⟩
   | int i t'=>exact ⟨SeqAt.RcAt.str_int a t i t',SeqAt.RcNeAt.str_int a t i t',SeqAt.EqAt.str_int a t i t'⟩
   | str i t'=>exact ⟨SeqAt.RcAt.str_str a t i t',SeqAt.RcNeAt.str_str a t i t',SeqAt.EqAt.str_str a t i t'⟩
   | tup p _ _=>exact ⟨SeqAt.RcAt.str_tuple a t p hu',SeqAt.RcNeAt.str_tuple a t p hu',SeqAt.EqAt.str_tuple a t p hu'⟩
   | lst p _ _=>exact ⟨SeqAt.RcAt.str_list a t p hu',SeqAt.RcNeAt.str_list a t p hu',SeqAt.EqAt.str_list a t p hu'⟩
  | @tup l ds xs its p r q =>
   cases sh I he h2 r2 with
   | non=>exact ⟨SeqAt.RcAt.tuple_none p hu',SeqAt.RcNeAt.tuple_none p hu',SeqAt.EqAt.tuple_none p hu'⟩
   | bl b=>exact ⟨SeqAt.RcAt.tuple_bool b p hu',SeqAt.RcNeAt.tuple_bool b p hu',SeqAt.EqAt.tuple_bool b p hu'⟩
   | int i t=>exact ⟨SeqAt.RcAt.tuple_int i t p hu',SeqAt.RcNeAt.tuple_int i t p hu',SeqAt.EqAt.tuple_int i t p hu'⟩
   | str i t=>exact ⟨SeqAt.RcAt.tuple_str i t p hu',SeqAt.RcNeAt.tuple_str i t p hu',SeqAt.EqAt.tuple_str i t p hu'⟩
   | lst p2 _ _=>exact ⟨SeqAt.RcAt.tuple_list p p2 hu',SeqAt.RcNeAt.tuple_list p p2 hu',SeqAt.EqAt.tuple_list p p2 hu'⟩
   | @tup b es ys its2 p2 r' q' =>
    have e1:its.toArray.size=ds.length:=by rw [zap,<- r.length,q.length]
    have e2:its2.toArray.size=es.length:=by rw [zap,<- r'.length,q'.length]
    have ek:eqD (.tup ds) (.tup es)=((List.range (min its.toArray.size its2.toArray.size)).all (λj=>eqD (ds.getD j .non) (es.getD j .non)) && its.toArray.size == its2.toArray.size):=by
     rw [e1,e2]
     exact t5 ds es
    rw [ek]
    have hrc:=SeqAt.RcAt.tuples p p2 hu' (items hd he q q' r r')
    exact ⟨hrc,SeqAt.RcNeAt.tuples p p2 hu' (items hd he q q' r r'),refs rfl rfl ek.symm hrc⟩
  | @lst l ds xs its p r q =>
   cases sh I he h2 r2 with
   | non=>exact ⟨SeqAt.RcAt.list_none p hu',SeqAt.RcNeAt.list_none p hu',SeqAt.EqAt.list_none p hu'⟩
   | bl b=>exact ⟨SeqAt.RcAt.list_bool b p hu',SeqAt.RcNeAt.list_bool b p hu',SeqAt.EqAt.list_bool b p hu'⟩
   | int i t=>exact ⟨SeqAt.RcAt.list_int i t p hu',SeqAt.RcNeAt.list_int i t p hu',SeqAt.EqAt.list_int i t p hu'⟩
   | str i t=>exact ⟨SeqAt.RcAt.list_str i t p hu',SeqAt.RcNeAt.list_str i t p hu',SeqAt.EqAt.list_str i t p hu'⟩
   | tup p2 _ _=>exact ⟨SeqAt.RcAt.list_tuple p p2 hu',SeqAt.RcNeAt.list_tuple p p2 hu',SeqAt.EqAt.list_tuple p p2 hu'⟩
   | @lst b es ys its2 p2 r' q' =>
    have e1:its.toArray.size=ds.length:=by rw [zap,<- r.length,q.length]
    have e2:its2.toArray.size=es.length:=by rw [zap,<- r'.length,q'.length]
    by_cases hsz:its.toArray.size=its2.toArray.size
    ·have ek:eqD (.lst ds) (.lst es)=(List.range its.toArray.size).all (λj=>eqD (ds.getD j .non) (es.getD j .non)):=by
      show eqDs ds es=_
      rw [t5,<- e1,<- e2,<- hsz]
      simp
     rw [ek]
     have hrc:=SeqAt.RcAt.lists p p2 hsz hu' (items hd he q q' r r')
     exact ⟨hrc,SeqAt.RcNeAt.lists p p2 hsz hu' (items hd he q q' r r'),refs rfl rfl ek.symm hrc⟩
    ·have ek:eqD (.lst ds) (.lst es)=false:=by
      show eqDs ds es=_
      have hb:(its.toArray.size == its2.toArray.size)=false:=beq_eq_false_iff_ne.mpr hsz
      rw [t5,<- e1,<- e2,hb,Bool.and_false]
     rw [ek]
     have hne:(its.toArray.size != its2.toArray.size)=true:=by simpa using hsz
     have hrc:=SeqAt.RcAt.lists_lengths p p2 hne hu'
     exact ⟨hrc,SeqAt.RcNeAt.lists_lengths p p2 hne hu',refs rfl rfl ek.symm hrc⟩
end
section
variable {X:Cx} {a b:Expr} {ta tb:TD} {pos:Pos}
def rEqD (K:W.Frag) (neg:Bool):R2:=λx y H Q=>∃ d e,Rep K H [] d x /\ Rep K H [] e y /\ okD 40 d /\ okD 40 e /\ Q (.bl (if neg then !eqD d e else eqD d e)) H
def Nq (hu:X.A.units + 64 < cLine):OpR X (compareOp .Eq) (rEqD X.K false):=by
 intro pn s σ H x y v u Q I rx ry h
 obtain ⟨d,e,h1,h2,o1,o2,q⟩:=h
 exact (Xc I 40 d e x y v u X.A o1 o2 h1 h2 rx ry (by omega)).1 X.prog X.w X.xe _ ⟨.bl _,H,I,rfl,q⟩
def Fe (hu:X.A.units + 64 < cLine):OpR X (compareOp .NotEq) (rEqD X.K true):=by
 intro pn s σ H x y v u Q I rx ry h
 obtain ⟨d,e,h1,h2,o1,o2,q⟩:=h
 exact (Xc I 40 d e x y v u X.A o1 o2 h1 h2 rx ry (by omega)).2.1 X.prog X.w X.xe _ ⟨.bl _,H,I,rfl,q⟩
def sEq:D->D->(EV->Prop)->Prop:=λx y φ=>okD 40 x /\ okD 40 y /\ φ (dv (.bl (eqD x y)))
def sNe:D->D->(EV->Prop)->Prop:=λx y φ=>okD 40 x /\ okD 40 y /\ φ (dv (.bl (!eqD x y)))
def Du (hu:X.A.units + 64 < cLine) (ha:ED Γ X a ta) (hb:ED Γ X b tb):ED Γ X (.Compare a [.Eq] [b] pos) (d2 sEq ta tb) :=
 Ej (Nq hu) (λH O x y vx vy φ Q ho hx hy h k=>⟨x,y,hx.rep0,hy.rep0,h.1,h.2.1,k _ _ H (Same.refl H) (by exact rfl) h.2.2⟩) ha hb (jn _)
end
section
variable {X:Cx} {a b c e:Expr} {es:List Expr} {ta tb tc te:TD} {t:TDs} {pos:Pos}
def Pu:sv X.K (λx y H Q=>rI IntMulOk (λi j=>.int (i * j)) x y H Q \/ rRep x y H Q) sMul:=by
 intro H O x y vx vy φ Q ho hx hy h k
 unfold sMul at h
 split at h
 ·exact .inl ⟨_,_,hx,hy,h.1,k _ _ H (Same.refl H) (by exact rfl) h.2⟩
 ·obtain ⟨h1,h2,h3,h4⟩:=h
  obtain ⟨a1,xs,rfl,q1,r1⟩:=hx
  refine .inr ⟨a1,_,xs,rfl,hy,q1,h1,h2,by rw [r1.length]; exact h3,λp hp=>?_⟩
  exact k _ _ _ (zr hp _) (vd ho hp (r1.rep _)) h4
 ·exact h.elim
def yq (ha:ED Γ X a ta) (hb:ED Γ X b tb):ED Γ X (.BinOp a .Mult b pos) (d2 sMul ta tb):=qy (Ka.or Fc) Pu ha hb
def sNeg:D->(EV->Prop)->Prop:=λx φ=>match x with
 | .int i=>φ (dv (.int (-i)))
 | _=>False
def d1 (s:D->(EV->Prop)->Prop) (ta:TD):TD:=λρ φ=>ta ρ λx=>s x.d φ
def Rj (ha:ED Γ X a ta):ED Γ X (.UnaryOp .USub a pos) (d1 sNeg ta):=λH₀=>impE (Dd Ha (ha H₀)) λσ H Q h=>by
 obtain ⟨ρ,o,R,φ,hφ,k⟩:=h
 refine ⟨ρ,o,R,_,hφ,λv1 r1 H1 s1 rv1 h1=>?_⟩
 obtain ⟨kd,d⟩:=r1
 have hv:=rv1.view
 cases d with
 | int i=>exact ⟨i,hv,k _ _ H1 s1 (by exact rfl) h1⟩
 | _=>exact h1.elim
def truD:D->Option Bool
 | .non=>some false
 | .bl b=>some b
 | .int i=>some (i != 0)
 | .str x=>if x.length <= sizeLine then some ((x.length:Int) != 0) else none
 | .lst ds=>some (!ds.isEmpty)
 | .scr ns=>some (!ns.isEmpty)
 | .dz _=>none
 | .tup ds=>some (!ds.isEmpty)
 | .dk _ ds=>some (!ds.isEmpty)
 | .dt _ _=>none
 | .ty _=>none
 | .cn _=>none
 | .exc _=>none
 | .fd _=>none
 | .dp _=>none
 | .ob _ _ _=>none
def tq {K:W.Frag} {H:Hp} {O:List Addr} {ds:List D} {xs:List V} (r:Reps K H O ds xs):xs.isEmpty=ds.isEmpty:=by
 have:=r.length
 cases xs <;> cases ds <;> simp_all
def Qo {K:W.Frag} {H:Hp} {O:List Addr} {d:D} {v:V} {b:Bool} (h:View K H O d v) (e:truD d=some b):TruV K v H b:=by
 cases d with
 | non=>cases (show v=_ from h); cases e; rfl
 | bl i=>cases (show v=_ from h); cases e; rfl
 | int i=>cases (show v=_ from h); cases e; rfl
 | str x =>
  cases (show v=_ from h)
  have e':(if x.length <= sizeLine then some ((x.length:Int) != 0) else none)=some b:=e
  split at e'
  ·rename_i hz
   cases e'
   exact ⟨hz,rfl⟩
  ·cases e'
 | ty _=>cases e
 | cn _=>cases e
 | exc _=>cases e
 | fd _=>cases e
 | dp _=>cases e
 | ob _ _ _=>cases e
 | lst ds =>
  obtain ⟨a,xs,rfl,q,r⟩:=h
  cases e
  exact .inl ⟨xs,SqL.of q,by rw [tq r]⟩
 | scr ns =>
  obtain ⟨a,rfl,q⟩:=h
  cases e
  exact .inl ⟨_,q.seq,by cases ns <;> rfl⟩
 | dz _=>cases e
 | tup ds =>
  obtain ⟨a,xs,rfl,q,r⟩:=h
  cases e
  exact .inr (.inl ⟨xs,q.1,by rw [tq r]⟩)
 | dk ks ds =>
  obtain ⟨a,xs,rfl,q,l,_,r⟩:=h
  cases e
  refine .inr (.inr ⟨_,q,?_⟩)
  have:=r.length
  cases ks <;> cases ds <;> cases xs <;> simp_all
 | dt ks ds=>cases e
def tTru (t:TD):TDb:=λρ φ=>t ρ λr=>match truD r.d with
 | some b=>φ b
 | none=>False
def ju (h:ED Γ X a ta) (he:∀ whole,isTrue a X.env whole=(do let v <- whole; standAt a.pos; holding [v] (truthy v)):=by intro _; rfl):ET Γ X a (tTru ta):=λH₀=>impT (P8 (h H₀) he) λσ H Q q=>by
 obtain ⟨ρ,o,R,φ,hφ,k⟩:=q
 refine ⟨ρ,o,R,_,hφ,λv1 r1 H1 s1 rv1 h1=>?_⟩
 cases e:truD r1.d with
 | none=>simp only [e] at h1
 | some b =>
  simp only [e] at h1
  exact ⟨b,Qo rv1.view e,k b H1 s1 h1⟩
def tBo (t:TD):TDb:=λρ φ=>t ρ λr=>match r.d with
 | .bl b=>φ b
 | _=>False
def jw {op:CmpOp} {rr:R2} {s:D->D->(EV->Prop)->Prop} (ho:OpR X (compareOp op) rr) (hl:sv X.K rr s) (ha:ED Γ X a ta) (hb:ED Γ X b tb) (hm:behindInMarks op b=false):ET Γ X (.Compare a [op] [b] pos) (tBo (d2 s ta tb)):=λH₀ =>
 impT (Lr ho (ha H₀) (hb H₀) hm) λσ H Q h=>by
  obtain ⟨ρ,o,R,φ,hφ,k⟩:=h
  refine Si (ta:=ta) (tb:=tb) (H₀:=H₀.1) hl σ H _ ⟨ρ,o,R,_,hφ,λv r H' s1 rv h1=>?_⟩
  obtain ⟨kd,d⟩:=r
  cases d with
  | bl b=>exact ⟨b,rv.view,k b H' s1 h1⟩
  | _=>exact h1.elim
def J7 (ha:ED Γ X a ta) (hb:ED Γ X b tb):ET Γ X (.Compare a [.Lt] [b] pos) (tBo (d2 sLt ta tb)):=jw Df (gq λ_ _ _ _=>rfl) ha hb (jn _)
def J8 (ha:ED Γ X a ta) (hb:ED Γ X b tb):ET Γ X (.Compare a [.Gt] [b] pos) (tBo (d2 sGt ta tb)):=jw Dg (gq λ_ _ _ _=>rfl) ha hb (jn _)
def Eg (ha:ED Γ X a ta) (hb:ED Γ X b tb):ET Γ X (.Compare a [.GtE] [b] pos) (tBo (d2 sGe ta tb)):=jw Dh (gq λ_ _ _ _=>rfl) ha hb (jn _)
def Ol (hu:X.A.units + 64 < cLine) (ha:ED Γ X a ta) (hb:ED Γ X b tb):ET Γ X (.Compare a [.Eq] [b] pos) (tBo (d2 sEq ta tb)) :=
 jw (Nq hu) (λH O x y vx vy φ Q ho hx hy h k=>⟨x,y,hx.rep0,hy.rep0,h.1,h.2.1,k _ _ H (Same.refl H) (by exact rfl) h.2.2⟩) ha hb (jn _)
def Xb (hu:X.A.units + 64 < cLine) (ha:ED Γ X a ta) (hb:ED Γ X b tb):ET Γ X (.Compare a [.NotEq] [b] pos) (tBo (d2 sNe ta tb)) :=
 jw (Fe hu) (λH O x y vx vy φ Q ho hx hy h k=>⟨x,y,hx.rep0,hy.rep0,h.1,h.2.1,k _ _ H (Same.refl H) (by exact rfl) h.2.2⟩) ha hb (jn _)
variable {tA tB':TDb} {rest:List Expr}
def bAnd (t u:TDb):TDb:=λρ φ=>t ρ λc=>(c=true->u ρ φ) /\ (c=false->φ false)
def bOr (t u:TDb):TDb:=λρ φ=>t ρ λc=>(c=true->φ true) /\ (c=false->u ρ φ)
def bNot (t:TDb):TDb:=λρ φ=>t ρ λc=>φ (!c)
def J3 (ha:ET Γ X a tA):EW Γ X (.BoolOp .And [a] pos) tA:=λH₀=>Lo (ha H₀)
def Wq (ha:ET Γ X a tA):EW Γ X (.BoolOp .Or [a] pos) tA:=λH₀=>Ge (ha H₀)
def Ed (ha:ET Γ X a tA) (hb:EW Γ X (.BoolOp .And (b :: rest) pos) tB'):EW Γ X (.BoolOp .And (a :: b :: rest) pos) (bAnd tA tB'):=λH₀=>impW (Gf (ha H₀) (hb H₀)) λσ H Q h=>by
 obtain ⟨ρ,o,R,φ,hφ,k⟩:=h
 refine ⟨ρ,o,R,_,hφ,λc H1 s1 h1=>?_⟩
 cases c with
 | true=>exact iteT ⟨ρ,o,R.to s1,φ,h1.1 rfl,λb H2 s2 q=>k b H2 (s1.trans s2) q⟩
 | false=>exact iteF (k false H1 s1 (h1.2 rfl))
def Oj (ha:ET Γ X a tA) (hb:EW Γ X (.BoolOp .Or (b :: rest) pos) tB'):EW Γ X (.BoolOp .Or (a :: b :: rest) pos) (bOr tA tB'):=λH₀=>impW (D9 (ha H₀) (hb H₀)) λσ H Q h=>by
 obtain ⟨ρ,o,R,φ,hφ,k⟩:=h
 refine ⟨ρ,o,R,_,hφ,λc H1 s1 h1=>?_⟩
 cases c with
 | true=>exact iteT (k true H1 s1 (h1.1 rfl))
 | false=>exact iteF ⟨ρ,o,R.to s1,φ,h1.2 rfl,λb H2 s2 q=>k b H2 (s1.trans s2) q⟩
def EW.et (h:EW Γ X a tA):ET Γ X a tA:=λH₀=>PW.pt (h H₀)
def jv (ha:ET Γ X a tA):ET Γ X (.UnaryOp .Not a pos) (bNot tA):=λH₀=>impT (Gi (ha H₀)) λσ H Q h=>by
 obtain ⟨ρ,o,R,φ,hφ,k⟩:=h
 exact ⟨ρ,o,R,_,hφ,λc H1 s1 h1=>k _ H1 s1 h1⟩
def vAnd (ta tb:TD):TD:=λρ φ=>ta ρ λx=>match x.d with
 | .bl c=>(c=true->tb ρ φ) /\ (c=false->φ (dv (.bl false)))
 | _=>False
def vNot (ta:TD):TD:=λρ φ=>ta ρ λx=>match x.d with
 | .bl c=>φ (dv (.bl (!c)))
 | _=>False
def M5 {op} (h:ED Γ X a ta):ED Γ X (.BoolOp op [a] pos) ta:=λH₀=>Gu (h H₀)
def M7 (ha:ED Γ X a ta) (hb:ED Γ X (.BoolOp .And (b :: rest) pos) tb):ED Γ X (.BoolOp .And (a :: b :: rest) pos) (vAnd ta tb):=λH₀=>impE (Gy (ha H₀) (hb H₀)) λσ H Q h=>by
 obtain ⟨ρ,o,R,φ,hφ,k⟩:=h
 refine ⟨ρ,o,R,_,hφ,λv r H1 s1 rv h1=>?_⟩
 obtain ⟨kd,d⟩:=r
 cases d with
 | bl c =>
  refine ⟨c,rv.view,?_⟩
  cases c with
  | true=>exact iteT ⟨ρ,o,R.to s1,φ,h1.1 rfl,λv2 r2 H2 s2 rv2 q=>k v2 r2 H2 (s1.trans s2) (rv2.start s1) q⟩
  | false=>exact iteF (k _ _ H1 s1 (by exact rfl) (h1.2 rfl))
 | _=>exact h1.elim
def M6 (ha:ED Γ X a ta):ED Γ X (.UnaryOp .Not a pos) (vNot ta):=λH₀=>impE (Gv (ha H₀)) λσ H Q h=>by
 obtain ⟨ρ,o,R,φ,hφ,k⟩:=h
 refine ⟨ρ,o,R,_,hφ,λv r H1 s1 rv h1=>?_⟩
 obtain ⟨kd,d⟩:=r
 cases d with
 | bl c=>exact ⟨c,rv.view,k _ _ H1 s1 (by exact rfl) h1⟩
 | _=>exact h1.elim
def aNil:TDs:=λ_ φ=>φ []
def j0 (te:TD) (t:TDs):TDs:=λρ φ=>te ρ λr=>t ρ λrs=>φ (r :: rs)
def zd:EA Γ X [] aNil:=λH₀=>impA tm λσ H Q h=>by
 obtain ⟨ρ,o,R,φ,hφ,k⟩:=h
 exact k [] [] H (Same.refl H) (by exact rfl) hφ
def z9 (ha:ED Γ X e te) (hr:EA Γ X es t) (hs:starEach (e :: es) X.env=(false,eval e X.env) :: starEach es X.env:=by rfl):EA Γ X (e :: es) (j0 te t):=λH₀=>impA (xx (ha H₀) (hr H₀) hs) λσ H Q h=>by
 obtain ⟨ρ,o,R,φ,hφ,k⟩:=h
 refine ⟨ρ,o,R,_,hφ,λv r H1 s1 rv h1=>⟨ρ,o,R.to s1,_,h1,λvs rs H2 s2 rvs h2=>?_⟩⟩
 exact k (v :: vs) (r :: rs) H2 (s1.trans s2) ⟨v,vs,rfl,rv.same s2,rvs.start s1⟩ h2
def jb:List EV->Bool
 | []=>true
 | r :: rs=>(match r.k with | .own=>false | _=>true) && jb rs
def uu:∀ {rs:List EV},jb rs=true->∀ r ∈ rs,r.k ≠ .own
 | [],_=>λr h=>nomatch h
 | ⟨k,d⟩ :: rs,h=>λr hr=>by
  rw [jb,Bool.and_eq_true] at h
  rcases zam.mp hr with rfl | hr
  ·intro z
   have z':k=.own:=z
   subst z'
   exact absurd h.1 (by simp)
  ·exact uu h.2 r hr
def dTup (t:TDs):TD:=λρ φ=>t ρ λrs=>jb rs=true /\ Nat.ble rs.length 1000=true /\ φ (dv (.tup (rs.map EV.d)))
def dLst (t:TDs):TD:=λρ φ=>t ρ λrs=>jb rs=true /\ Nat.ble rs.length 1000=true /\ φ (df (.lst (rs.map EV.d)))
def Ym {n:Nat} (h:Nat.ble n 1000=true):n <= sizeLine:=zak (Nat.le_of_ble_eq_true h) (by decide)
def RVs.length {K:W.Frag} {H0 H:Hp} {O:List Addr}:∀ {rs:List EV} {vs:List V},RVs K H0 H O rs vs->vs.length=rs.length
 | [],_,h=>by cases h; rfl
 | r :: rs,vs,h=>by
  obtain ⟨v,ws,rfl,_,t⟩:=h
  simp [RVs.length t]
def x3 {x1} (h:EA Γ X es t):ED Γ X (.Tuple es x1 pos) (dTup t):=λH₀=>impE (Np (h H₀)) λσ H Q q=>by
 obtain ⟨ρ,o,R,φ,hφ,k⟩:=q
 refine ⟨ρ,o,R,_,hφ,λvs rs H1 s1 rvs h1=>⟨by rw [rvs.length]; exact Ym h1.2.1,λp hp=>?_⟩⟩
 exact k _ _ _ (s1.trans (zr hp _)) (RV.start (qe hp (rvs.reps (uu h1.1))) s1) h1.2.2
def xc (h:EA Γ X es t):ED Γ X (.List es pos) (dLst t):=λH₀=>impE (Gw (h H₀)) λσ H Q q=>by
 obtain ⟨ρ,o,R,φ,hφ,k⟩:=q
 refine ⟨ρ,o,R,_,hφ,λvs rs H1 s1 rvs h1=>⟨by rw [rvs.length]; exact Ym h1.2.1,λp hp=>?_⟩⟩
 exact k _ _ _ (s1.trans (zr hp _)) (RV.start (vd (λa e=>R.ofree (s1.free e)) hp (rvs.reps (uu h1.1))) s1) h1.2.2
def sIx:D->D->(EV->Prop)->Prop:=λx y φ=>match x,y with
 | .lst ds,.int i=>match atI ds i with
  | some d=>φ (dv d)
  | none=>False
 | .tup ds,.int i=>match atI ds i with
  | some d=>φ (dv d)
  | none=>False
 | .scr ns,.int i=>match atI ns i with
  | some n=>φ (dv (.int n))
  | none=>False
 | .str z,.int i=>z.length <= sizeLine /\ match atI z.cps.toList i with
  | some c=>φ (dv (.str ⟨#[c]⟩))
  | none=>False
 | _,_=>False
def Wz {K:W.Frag} {H:Hp} {O:List Addr} {ds:List D} {xs:List V} {i:Int} {d:D} (r:Reps K H O ds xs) (h:atI ds i=some d):∃ v,atI xs i=some v /\ Rep K H O d v:=by
 unfold atI at h ⊢
 rw [r.length]
 cases e:ixN ds.length i with
 | none=>rw [e] at h; cases h
 | some j =>
  rw [e] at h
  exact r.get h
def Kl:sv X.K (rIx X.K) sIx:=by
 intro H O x y vx vy φ Q ho hx hy h k
 unfold sIx at h
 split at h
 ·obtain ⟨a,xs,rfl,q,r⟩:=hx
  split at h
  ·rename_i d e
   obtain ⟨v,ev,rv⟩:=Wz r e
   exact .inl ⟨a,xs,_,v,rfl,hy,SqL.of q,ev,k _ _ H (Same.refl H) (RV.val rv) h⟩
  ·exact h.elim
 ·obtain ⟨a,xs,rfl,q,r⟩:=hx
  split at h
  ·rename_i d e
   obtain ⟨v,ev,rv⟩:=Wz r e
   exact .inr (.inl ⟨a,xs,_,v,rfl,hy,q.1,ev,k _ _ H (Same.refl H) (RV.val rv) h⟩)
  ·exact h.elim
 ·obtain ⟨a,rfl,q⟩:=hx
  split at h
  ·rename_i n e
   refine .inl ⟨a,_,_,.int n,rfl,hy,q.seq,?_,k _ _ H (Same.refl H) (by exact rfl) h⟩
   unfold atI at e ⊢
   rw [zLm]
   cases e2:ixN _ _ with
   | none=>rw [e2] at e; cases e
   | some j =>
    rw [e2] at e
    exact (zai ..).trans (congrArg (Option.map V.int) e)
  ·exact h.elim
 ·obtain ⟨hz,h⟩:=h
  split at h
  ·rename_i c e
   exact .inr (.inr ⟨_,_,c,hx,hy,hz,e,k _ _ H (Same.refl H) (by exact rfl) h⟩)
  ·exact h.elim
 ·exact h.elim
abbrev TDo:=DE->(Option Int->Prop)->Prop
def Di (K:W.Frag) (H₀:Hp) (t:TDo):TO:=λσ H Q=>∃ ρ o,REnv K H₀ H σ ρ o /\ ∃ φ,t ρ φ /\ ∀ b H',Same H H'->φ b->Q b H'
def EO (G:Hp->Prop) (X:Cx) (e:Option Expr) (t:TDo):Prop:=∀ H₀:{H:Hp // G H},PO X e (Di X.K H₀.1 t)
def Fk:TDo:=λ_ φ=>φ none
def Fj (t:TD):TDo:=λρ φ=>t ρ λr=>match r.d with
 | .int i=>φ (some i)
 | _=>False
def impO {e:Option Expr} {t t':TO} (h:PO X e t) (i:∀ σ H Q,t' σ H Q->t σ H Q):PO X e t':=λpn s σ H Q I q=>h pn s σ H Q I (i σ H Q q)
def qx:EO Γ X none Fk:=λH₀=>impO Lx λσ H Q h=>by
 obtain ⟨ρ,o,R,φ,hφ,k⟩:=h
 exact k none H (Same.refl H) hφ
def vp (h:ED Γ X e te):EO Γ X (some e) (Fj te):=λH₀=>impO (Lw (h H₀)) λσ H Q q=>by
 obtain ⟨ρ,o,R,φ,hφ,k⟩:=q
 refine ⟨ρ,o,R,_,hφ,λv r H1 s1 rv h1=>?_⟩
 obtain ⟨kd,d⟩:=r
 cases d with
 | int i=>exact ⟨i,rv.view,k _ H1 s1 h1⟩
 | _=>exact h1.elim
def cutD (xs:List D) (lo hi:Option Int):List D:=(xs.drop (HT.sIx xs.length 0 lo)).take (HT.sIx xs.length xs.length hi - HT.sIx xs.length 0 lo)
def rf {K:W.Frag} {H:Hp} {O:List Addr} {ds:List D} {xs:List V} (r:Reps K H O ds xs) (lo hi:Option Int):Reps K H O (cutD ds lo hi) (cutV xs lo hi):=by
 unfold cutD cutV
 rw [r.length]
 exact (r.drop _).take _
def sSl:D->Option Int->Option Int->(EV->Prop)->Prop:=λx lo hi φ=>match x with
 | .lst ds=>φ (df (.lst (cutD ds lo hi)))
 | .scr ns=>φ (df (.lst (cutD (ns.map D.int) lo hi)))
 | .tup ds=>¬ (HT.sIx ds.length 0 lo=0 /\ HT.sIx ds.length ds.length hi=ds.length) /\ φ (dv (.tup (cutD ds lo hi)))
 | _=>False
def dSl (te:TD) (tl th:TDo):TD:=λρ φ=>te ρ λx=>tl ρ λl=>th ρ λu=>sSl x.d l u φ
def On {lo hi:Option Expr} {tl th:TDo} {p2:Pos} (he:ED Γ X e te) (hl:EO Γ X lo tl) (hu:EO Γ X hi th):ED Γ X (.Subscript e (.Slice lo hi none p2) pos) (dSl te tl th):=λH₀ =>
 impE (Wb (Lb.or Ng) (he H₀) (hl H₀) (hu H₀)) λσ H Q q=>by
  obtain ⟨ρ,o,R,φ,hφ,k⟩:=q
  refine ⟨ρ,o,R,_,hφ,λv r H1 s1 rv h1=>⟨ρ,o,R.to s1,_,h1,λl H2 s2 h2=>⟨ρ,o,R.to (s1.trans s2),_,h2,λu H3 s3 h3=>?_⟩⟩⟩
  have s12:=s1.trans s2
  have s13:=s12.trans s3
  have vw:=(rv.same (s2.trans s3)).view
  obtain ⟨kd,d⟩:=r
  cases d with
  | lst ds =>
   obtain ⟨a,xs,rfl,q,r⟩:=vw
   refine .inl ⟨a,xs,rfl,SqL.of q,λp hp=>?_⟩
   exact k _ _ _ (s13.trans (zr hp _)) (RV.start (vd (λa e=>R.ofree (s13.free e)) hp (rf r l u)) s13) h3
  | scr ns =>
   obtain ⟨a,rfl,q⟩:=vw
   refine .inl ⟨a,_,rfl,q.seq,λp hp=>?_⟩
   exact k _ _ _ (s13.trans (zr hp _)) (RV.start (vd (λa e=>R.ofree (s13.free e)) hp (rf (Reps.ints ns) l u)) s13) h3
  | tup ds =>
   obtain ⟨a,xs,rfl,q,r⟩:=vw
   refine .inr ⟨a,xs,rfl,q.1,by rw [r.length]; exact h3.1,λp hp=>?_⟩
   exact k _ _ _ (s13.trans (zr hp _)) (RV.start (qe hp (rf r l u)) s13) h3.2
  | _=>exact h3.elim
end
def ww (r:EV):Prop:=match r.k with
 | .val=>cu r.d
 | .own=>False
 | .fre=>match r.d with
  | .lst ds=>x5 ds
  | .dk _ ds=>x5 ds
  | .dt _ ds=>x5 ds
  | .dp _=>True
  | _=>False
 | .new=>True
def RV.lift {K:W.Frag} {H0 H:Hp} {O:List Addr} {r:EV} {v:V} (h:RV K H0 H [] r v) (p:ww r) (ho:∀ a,H0 a=none->a ∉ O):RV K H0 H O r v:=by
 obtain ⟨k,d⟩:=r
 cases k with
 | val=>exact Rep.pure _ _ p h
 | own=>exact p.elim
 | fre =>
  obtain ⟨a,e,m,n,c⟩:=h
  refine ⟨a,e,m,ho a m,?_⟩
  cases d with
  | lst ds=>obtain ⟨xs,q,r⟩:=c; exact ⟨xs,q,Reps.pure _ _ p r⟩
  | dk ks ds=>obtain ⟨xs,q,l,nd,r⟩:=c; exact ⟨xs,q,l,nd,Reps.pure _ _ p r⟩
  | dt ks ds=>obtain ⟨xs,q,l,nd,r⟩:=c; exact ⟨xs,q,l,nd,Reps.pure _ _ p r⟩
  | fd m=>exact c
  | dp rs=>exact c
  | _=>exact c.elim
 | new=>exact RepN.to (Same.refl H) (λa z=>⟨ho a z.2,z.2⟩) _ _ h
abbrev FT:=List D->(EV->Prop)->Prop
def spD (K:W.Frag) (n:Nat) (T:FT):Sp:=λvs H Q _=>∃ ds φ,ds.length=n /\ Reps K H [] ds vs /\ T ds φ /\ ∀ v r H',Same H H'->RV K H H' [] r v->ww r->φ r->Q v H'
structure FD (P:Program) (w:World) (K:W.Frag) (mg:Str->Option Value) (base:Heap) (k:Nat) (x:Str) (ps:List Str) (T:FT):Prop where
 ex:∃ f fd,FnOk P w K mg base CX0 k f fd ps (spD K ps.length T) /\ dg K fd ps [] /\ W.keepIn K (.ref f)=true /\ mg x=some (.ref f)
def Zl (n:Nat) (T:FT) (t:TDs):TD:=λρ φ=>t ρ λrs=>Nat.beq rs.length n=true /\ T (rs.map EV.d) φ
section
variable {X:Cx} {x:Str} {ps:List Str} {T:FT} {k:Nat} {e:Expr} {es:List Expr} {t:TDs} {p pos:Pos}
def Sg {H₀:Hp}:∀ σ H Q,uz X.K H₀ (Zl ps.length T t) σ H Q->Hr (spD X.K ps.length T) [] E0 (Km X.K H₀ t) σ H Q:=λσ H Q q=>by
 obtain ⟨ρ,o,R,φ,hφ,kk⟩:=q
 refine ⟨ρ,o,R,_,hφ,λvs rs H1 s1 rvs h1=>?_⟩
 show spD X.K ps.length T (vs ++ []) H1 Q E0
 rw [List.append_nil]
 refine ⟨rs.map EV.d,φ,by rw [zLm]; exact Nat.eq_of_beq_eq_true h1.1,rvs.reps0,h1.2,λv r H2 s2 rv pr h2=>?_⟩
 exact kk v r H2 (s1.trans s2) (RV.start (rv.lift pr λa e=>R.ofree (s1.free e)) s1) h2
def zm (F:FD X.prog X.w X.K X.mg X.base k x ps T) (hr:Room k X.A) (ha:EA Γ X (e :: es) t) (hg:Gl X x:=by rfl) (hdb:(x == ("__debug__" : Str))=false:=by decide)
  (he:starEach (e :: es) X.env=(false,eval e X.env) :: starEach es X.env:=by rfl) (hpl:(backTo pos (starEach es X.env)).any (·.1)=false:=by rfl):ED Γ X (.Call (.Name x p) (e :: es) [] pos) (Zl ps.length T t):=λH₀=>by
 obtain ⟨f,fd,ok,b,kp,m⟩:=F.ex
 exact impE (Tr ok hr hg m kp b .nil Gz (ha H₀) hdb he hpl) Sg
def Js (K:W.Frag) (H:Hp) (O:List Addr):List D->List V->Prop
 | [],vs=>vs=[]
 | d :: ds,vs=>∃ v ws,vs=v :: ws /\ View K H O d v /\ Js K H O ds ws
def RVs.views {K:W.Frag} {H0 H:Hp} {O:List Addr}:∀ {rs:List EV} {vs:List V},RVs K H0 H O rs vs->Js K H O (rs.map EV.d) vs
 | [],_,h=>h
 | r :: rs,vs,h=>by
  obtain ⟨v,ws,e,q,t⟩:=h
  exact ⟨v,ws,e,q.view,t.views⟩
def Qc (K:W.Frag) (r:List V->Hp->VK->Prop) (s:FT):Prop :=
 ∀ (H:Hp) (O:List Addr) (ds:List D) (vs:List V) (φ:EV->Prop) (Q:VK),(∀ a,H a=none->a ∉ O)->Js K H O ds vs->s ds φ->(∀ v r H',Same H H'->RV K H H' O r v->φ r->Q v H')->r vs H Q
def dCB (s:FT) (t:TDs):TD:=λρ φ=>t ρ λrs=>s (rs.map EV.d) φ
def Sf {r:List V->Hp->VK->Prop} {s:FT} (hl:Qc X.K r s) {H₀:Hp}:∀ σ H Q,uz X.K H₀ (dCB s t) σ H Q->tCB r (Km X.K H₀ t) σ H Q:=λσ H Q q=>by
 obtain ⟨ρ,o,R,φ,hφ,kk⟩:=q
 refine ⟨ρ,o,R,_,hφ,λvs rs H1 s1 rvs h1=>?_⟩
 exact hl H1 _ _ vs φ Q (λa e=>R.ofree (s1.free e)) rvs.views h1 λv r H2 s2 rv h2=>kk v r H2 (s1.trans s2) (rv.start s1) h2
def wl {id:String} {r:List V->Hp->VK->Prop} {s:FT} (hc:wg X (.builtin id) r) (hl:Qc X.K r s) (hm:X.mg x=none) (hv:bootBuiltins x=some (.builtin id)) (ha:EA Γ X (e :: es) t) (hg:Gl X x:=by rfl) (hn:x ≠ "__name__":=by decide) (hdb:(x == ("__debug__" : Str))=false:=by decide)
  (he:starEach (e :: es) X.env=(false,eval e X.env) :: starEach es X.env:=by rfl) (hpl:(backTo pos (starEach es X.env)).any (·.1)=false:=by rfl):ED Γ X (.Call (.Name x p) (e :: es) [] pos) (dCB s t):=λH₀ =>
 impE (Pi hc hg hm hv (ha H₀) hn hdb he hpl) (Sf hl)
def uk {T:String} {r:List V->Hp->VK->Prop} {s:FT} (hc:wg X (.type T) r) (hl:Qc X.K r s) (hm:X.mg x=none) (hv:bootBuiltins x=some (.type T)) (ha:EA Γ X (e :: es) t) (hg:Gl X x:=by rfl) (hn:x ≠ "__name__":=by decide) (hdb:(x == ("__debug__" : Str))=false:=by decide)
  (he:starEach (e :: es) X.env=(false,eval e X.env) :: starEach es X.env:=by rfl) (hpl:(backTo pos (starEach es X.env)).any (·.1)=false:=by rfl):ED Γ X (.Call (.Name x p) (e :: es) [] pos) (dCB s t):=λH₀ =>
 impE (Tq hc hg hm hv (ha H₀) hn hdb he hpl) (Sf hl)
def sLen:FT:=λds φ=>match ds with
 | [.lst l]=>φ (dv (.int l.length))
 | [.tup l]=>φ (dv (.int l.length))
 | [.scr l]=>φ (dv (.int l.length))
 | [.str z]=>z.length <= sizeLine /\ φ (dv (.int z.length))
 | _=>False
def Pv:Qc X.K (λxs H Q=>(∃ p ys,xs=[.ref p] /\ (SqL X.K H p ys \/ SqT X.K H p ys) /\ Q (.int ys.length) H) \/ ∃ z,xs=[.str z] /\ z.length <= sizeLine /\ Q (.int z.length) H) sLen:=by
 intro H O ds vs φ Q ho hv h k
 unfold sLen at h
 split at h
 ·obtain ⟨v,ws,rfl,⟨a,xs,rfl,q,r⟩,rfl⟩:=hv
  refine .inl ⟨a,xs,rfl,.inl (SqL.of q),?_⟩
  rw [r.length]
  exact k _ _ H (Same.refl H) (by exact rfl) h
 ·obtain ⟨v,ws,rfl,⟨a,xs,rfl,q,r⟩,rfl⟩:=hv
  refine .inl ⟨a,xs,rfl,.inr q.1,?_⟩
  rw [r.length]
  exact k _ _ H (Same.refl H) (by exact rfl) h
 ·obtain ⟨v,ws,rfl,⟨a,rfl,q⟩,rfl⟩:=hv
  refine .inl ⟨a,_,rfl,.inl q.seq,?_⟩
  rw [zLm]
  exact k _ _ H (Same.refl H) (by exact rfl) h
 ·obtain ⟨v,ws,rfl,hz,rfl⟩:=hv
  cases (show v=_ from hz)
  exact .inr ⟨_,rfl,h.1,k _ _ H (Same.refl H) (by exact rfl) h.2⟩
 ·exact h.elim
def Rk (hm:X.mg "len" = none) (ha:EA Γ X (e :: es) t) (hg:Gl X "len":=by rfl) (he:starEach (e :: es) X.env=(false,eval e X.env) :: starEach es X.env:=by rfl) (hpl:(backTo pos (starEach es X.env)).any (·.1)=false:=by rfl):ED Γ X (.Call (.Name "len" p) (e :: es) [] pos) (dCB sLen t) :=
 wl (Zp.or Zo) Pv hm PySem.boot_len ha hg (by decide) (by decide) he hpl
def sAbs:FT:=λds φ=>match ds with
 | [.int i]=>φ (dv (.int (if i < 0 then -i else i)))
 | _=>False
def Rn (hm:X.mg "abs" = none) (ha:EA Γ X (e :: es) t) (hg:Gl X "abs":=by rfl) (he:starEach (e :: es) X.env=(false,eval e X.env) :: starEach es X.env:=by rfl) (hpl:(backTo pos (starEach es X.env)).any (·.1)=false:=by rfl):ED Γ X (.Call (.Name "abs" p) (e :: es) [] pos) (dCB sAbs t) :=
 wl N5 (λH O ds vs φ Q ho hv h k=>by
  unfold sAbs at h
  split at h
  ·obtain ⟨v,ws,rfl,hz,rfl⟩:=hv
   cases (show v=_ from hz)
   exact ⟨_,rfl,k _ _ H (Same.refl H) (by exact rfl) h⟩
  ·exact h.elim) hm (by kernel_rfl) ha hg (by decide) (by decide) he hpl
end
def EV.sto (r:EV):EV:=⟨match r.k with
 | .fre=>.own
 | .new=>.val
 | k=>k,r.d⟩
def EV.ret (r:EV):EV:=⟨match r.k with
 | .own=>.fre
 | k=>k,r.d⟩
def setS:DE->Nat->EV->DE
 | [],_,_=>[]
 | _ :: r,0,v=>some v :: r
 | x :: r,i + 1,v=>x :: setS r i v
def xq:∀ (ρ:DE) (i:Nat) (v:EV),setS ρ i v=ρ.set i (some v)
 | [],_,_=>rfl
 | _ :: _,0,_=>rfl
 | x :: r,i + 1,v=>by rw [setS,xq r i v,List.set_cons_succ]
def Con.grow {K:W.Frag} {H H':Hp} {O O':List Addr} {d:D} {a:Addr} (h:Con K H O d a) (s:∀ u,H a=some u->H' a=some u) (g:Grow O O' H H'):Con K H' O' d a:=by
 cases d with
 | lst ds=>obtain ⟨xs,q,r⟩:=h; exact ⟨xs,s _ q,Reps.grow g _ _ r⟩
 | dk ks ds=>obtain ⟨xs,q,l,n,r⟩:=h; exact ⟨xs,s _ q,l,n,Reps.grow g _ _ r⟩
 | dt ks ds=>obtain ⟨xs,q,l,n,r⟩:=h; exact ⟨xs,s _ q,l,n,Reps.grow g _ _ r⟩
 | fd m=>exact s _ h
 | dp rs=>obtain ⟨o,q,r⟩:=h; exact ⟨o,s _ q,r.gt g.tups⟩
 | _=>exact h.elim
def Con.mtb {K:W.Frag} {H:Hp} {O:List Addr} {d:D} {a:Addr} (h:Con K H O d a):(∃ u,H a=some u) /\ (∀ xs,H a ≠ some (.tup xs)) /\ ∀ ob u,H a ≠ some (.frz ob u):=by
 cases d with
 | lst ds=>obtain ⟨xs,q,r⟩:=h; exact ⟨⟨_,q⟩,(λxs z=>by rw [q] at z; cases z),(λob u z=>by rw [q] at z; cases z)⟩
 | dk ks ds=>obtain ⟨xs,q,r⟩:=h; exact ⟨⟨_,q⟩,(λxs z=>by rw [q] at z; cases z),(λob u z=>by rw [q] at z; cases z)⟩
 | dt ks ds=>obtain ⟨xs,q,r⟩:=h; exact ⟨⟨_,q⟩,(λxs z=>by rw [q] at z; cases z),(λob u z=>by rw [q] at z; cases z)⟩
 | fd m=>have q:H a=some (Qd a m):=h; exact ⟨⟨_,q⟩,(λxs z=>by rw [q] at z; cases z),(λob u z=>by rw [q] at z; cases z)⟩
 | dp rs=>obtain ⟨o,q,r⟩:=h; exact ⟨⟨_,q⟩,(λxs z=>by rw [q] at z; cases z),(λob u z=>by rw [q] at z; cases z)⟩
 | _=>exact h.elim
section
variable {K:W.Frag} {H₀ H H':Hp} {σ:St} {ρ:DE} {o:List (Nat × Addr)}
def REnv.setV (R:REnv K H₀ H σ ρ o) (i:Nat) {d:D} {v:V} (h:Rep K H (o.map Prod.snd) d v):REnv K H₀ H (σ.set i (some v)) (setS ρ i (dv d)) o where
 same:=R.same
 fresh:=R.fresh
 trk:=R.trk
 mtb:=R.mtb
 nda:=R.nda
 len:=by rw [xq,List.length_set,List.length_set]; exact R.len
 slots:=λj r e=>by
  rw [xq] at e
  by_cases hj:j=i
  ·subst hj
   have hl:j < ρ.length:=by
    rcases Nat.lt_or_ge j ρ.length with z | z
    ·exact z
    ·rw [List.getElem?_eq_none (by rw [List.length_set]; exact z)] at e
     cases e
   rw [List.getElem?_set_self hl] at e
   cases e
   exact ⟨v,List.getElem?_set_self (by rw [R.len]; exact hl),.inl ⟨rfl,h⟩⟩
  ·rw [List.getElem?_set_ne (Ne.symm hj)] at e
   obtain ⟨w,ew,q⟩:=R.slots j r e
   exact ⟨w,by rw [List.getElem?_set_ne (Ne.symm hj)]; exact ew,q⟩
def REnv.setO (R:REnv K H₀ H σ ρ o) (s:Same H H') (i:Nat) {d:D} {a:Addr} (ha:H a=none) (c:Con K H' (a :: o.map Prod.snd) d a) :
  REnv K H₀ H' (σ.set i (some (.ref a))) (setS ρ i (dO d)) ((i,a) :: o) /\ Grow (o.map Prod.snd) (((i,a) :: o).map Prod.snd) H H':=by
 have g:Grow (o.map Prod.snd) (((i,a) :: o).map Prod.snd) H H':=by
  refine ⟨λb u h n=>⟨s b u h,λz=>?_⟩,λb xs h=>s b _ h,λb ob u h=>s b _ h⟩
  rw [List.map_cons] at z
  rcases zam.mp z with z | z
  ·exact zb h ha z
  ·exact n z
 refine ⟨?_,g⟩
 have R':=R.to s
 exact {
  same:=R'.same
  fresh:=λp hp=>by
   rcases zam.mp hp with rfl | hp
   ·exact R.same.free ha
   ·exact R.fresh p hp
  trk:=λp hp=>by
   rcases zam.mp hp with rfl | hp
   ·exact c.mtb.1
   ·exact R'.trk p hp
  mtb:=λp hp=>by
   rcases zam.mp hp with rfl | hp
   ·exact c.mtb.2
   ·exact R'.mtb p hp
  nda:=by
   rw [List.map_cons,List.nodup_cons]
   exact ⟨λz=>R.ofree ha z,R.nda⟩
  len:=by rw [xq,List.length_set,List.length_set]; exact R.len
  slots:=λj r e=>by
   rw [xq] at e
   by_cases hj:j=i
   ·subst hj
    have hl:j < ρ.length:=by
     rcases Nat.lt_or_ge j ρ.length with z | z
     ·exact z
     ·rw [List.getElem?_eq_none (by rw [List.length_set]; exact z)] at e
      cases e
    rw [List.getElem?_set_self hl] at e
    cases e
    exact ⟨_,List.getElem?_set_self (by rw [R.len]; exact hl),.inr ⟨rfl,a,rfl,zao ..,c⟩⟩
   ·rw [List.getElem?_set_ne (Ne.symm hj)] at e
    obtain ⟨w,ew,q⟩:=R.slots j r e
    refine ⟨w,by rw [List.getElem?_set_ne (Ne.symm hj)]; exact ew,?_⟩
    rcases q with ⟨k,q⟩ | ⟨k,a',e1,m,c'⟩
    ·exact .inl ⟨k,Rep.grow g _ _ q⟩
    ·exact .inr ⟨k,a',e1,zal _ m,c'.grow (λu q=>s _ _ q) g⟩ }
def REnv.put (R:REnv K H₀ H σ ρ o) (s:Same H H') (i:Nat) {r:EV} {v:V} (h:RV K H H' (o.map Prod.snd) r v) (hk:r.k ≠ .own) :
  ∃ o',REnv K H₀ H' (σ.set i (some v)) (setS ρ i r.sto) o' /\ Grow (o.map Prod.snd) (o'.map Prod.snd) H H':=by
 obtain ⟨k,d⟩:=r
 cases k with
 | val=>exact ⟨_,(R.to s).setV i h,Grow.same s⟩
 | own=>exact absurd rfl hk
 | fre =>
  obtain ⟨a,rfl,m,n,c⟩:=h
  exact ⟨_,R.setO s i m c⟩
 | new=>exact ⟨_,(R.to s).setV i (RepN.rep (λa z=>z.1) _ _ h),Grow.same s⟩
def X1:∀ {o:List (Nat × Addr)},(o.map Prod.snd).Nodup->∀ {p q:Nat × Addr},p ∈ o->q ∈ o->p.2=q.2->p=q
 | [],_,_,_,h,_,_=>nomatch h
 | x :: o,nd,p,q,hp,hq,e=>by
  rw [List.map_cons,List.nodup_cons] at nd
  rcases zam.mp hp with h1 | hp
  ·rcases zam.mp hq with h2 | hq
   ·rw [h1,h2]
   ·exact absurd (zah.mpr ⟨q,hq,by rw [<- e,h1]⟩) nd.1
  ·rcases zam.mp hq with h2 | hq
   ·exact absurd (zah.mpr ⟨p,hp,by rw [e,h2]⟩) nd.1
   ·exact X1 nd.2 hp hq e
def REnv.chg (R:REnv K H₀ H σ ρ o) {i:Nat} {a:Addr} {d d':D} {ho:HO} (hs:ρ[i]?=some (some (dO d))) (hσ:σ[i]?=some (some (.ref a))) (hm:(i,a) ∈ o) (hho:(∀ xs,ho ≠ .tup xs) /\ ∀ ob u,ho ≠ .frz ob u)
  (c:(∀ ds xs,Reps K H (o.map Prod.snd) ds xs->Reps K (upd H a ho) (o.map Prod.snd) ds xs)->Con K (upd H a ho) (o.map Prod.snd) d' a) :
  REnv K H₀ (upd H a ho) σ (setS ρ i (dO d')) o /\ Grow (o.map Prod.snd) (o.map Prod.snd) H (upd H a ho):=by
 have ha:a ∈ o.map Prod.snd:=zah.mpr ⟨_,hm,rfl⟩
 obtain ⟨m1,m2⟩:=R.mtb _ hm
 have g:Grow (o.map Prod.snd) (o.map Prod.snd) H (upd H a ho) :=
  ⟨λb u h n=>⟨by rw [zg (show b ≠ a from λz=>n (by rw [z]; exact ha))]; exact h,n⟩,λb xs h=>by rw [zg (show b ≠ a from λz=>m1 xs (by rw [<- z]; exact h))]; exact h,λb ob u h=>by rw [zg (show b ≠ a from λz=>m2 ob u (by rw [<- z]; exact h))]; exact h⟩
 refine ⟨?_,g⟩
 exact {
  same:=λb u h=>by
   have:b ≠ a:=λz=>by
    have:=R.fresh _ hm
    rw [<- z,h] at this
    cases this
   rw [zg this]
   exact R.same b u h
  fresh:=R.fresh
  trk:=λp hp=>by
   by_cases e:p.2=a
   ·exact ⟨ho,by rw [e]; exact zh⟩
   ·rw [zg e]
    exact R.trk p hp
  mtb:=λp hp=>by
   by_cases e:p.2=a
   ·rw [e,zh]
    exact ⟨λxs z=>hho.1 xs (Option.some.inj z),λob u z=>hho.2 ob u (Option.some.inj z)⟩
   ·rw [zg e]
    exact R.mtb p hp
  nda:=R.nda
  len:=by rw [xq,List.length_set]; exact R.len
  slots:=λj r e=>by
   rw [xq] at e
   by_cases hj:j=i
   ·subst hj
    have hl:j < ρ.length:=(zag.mp hs).1
    rw [List.getElem?_set_self hl] at e
    cases e
    obtain ⟨v,ev,q⟩:=R.slots j _ hs
    rcases q with ⟨k,_⟩ | ⟨_,a',e1,m',_⟩
    ·cases k
    ·have haa:a'=a:=by
      rw [hσ] at ev
      cases ev
      cases e1
      rfl
     subst haa
     exact ⟨v,ev,.inr ⟨rfl,a',e1,hm,c λds xs q=>Reps.grow g _ _ q⟩⟩
   ·rw [List.getElem?_set_ne (Ne.symm hj)] at e
    obtain ⟨w,ew,q⟩:=R.slots j r e
    refine ⟨w,ew,?_⟩
    rcases q with ⟨k,q⟩ | ⟨k,a',e1,m',c'⟩
    ·exact .inl ⟨k,Rep.grow g _ _ q⟩
    ·refine .inr ⟨k,a',e1,m',c'.grow (λu q=>?_) g⟩
     have hne:a' ≠ a:=λz=>by
      exact hj (congrArg Prod.fst (X1 R.nda m' hm z))
     rw [zg hne]
     exact q }
end
section
variable {X:Cx} {st:Stmt} {rest:List Stmt} {t u:TDS} {e:Expr} {te:TD} {tc:TDb} {pos:Pos}
def sNil:TDS:=λρ Z=>Z.nx ρ
def sSeq (t u:TDS):TDS:=λρ Z=>t ρ { Z with nx:=λρ'=>u ρ' Z }
def xp:SDs Γ X [] sNil:=λH₀=>Sy Tb λD σ H h=>by
 obtain ⟨ρ,o,R,Z,hZ,k1,_⟩:=h
 exact k1 ρ σ H o Grow.refl R hZ
def zf (h1:SD Γ X st t) (h2:SDs Γ X rest u):SDs Γ X (st :: rest) (sSeq t u):=λH₀=>Sy (rg (h1 H₀) (h2 H₀)) λD σ H h=>by
 obtain ⟨ρ,o,R,Z,hZ,k1,k2,k3,k4⟩:=h
 refine ⟨ρ,o,R,_,hZ,λρ' σ' H' o' g R' q=>?_,k2,k3,k4⟩
 exact ⟨ρ',o',R',Z,q,λρ2 σ2 H2 o2 g2 R2 q2=>k1 ρ2 σ2 H2 o2 (g.trans g2) R2 q2,λρ2 σ2 H2 o2 g2 R2 q2=>k2 ρ2 σ2 H2 o2 (g.trans g2) R2 q2,λρ2 σ2 H2 o2 g2 R2 q2=>k3 ρ2 σ2 H2 o2 (g.trans g2) R2 q2,k4⟩
def zk (h1:SD Γ X st t):SDs Γ X [st] t:=λH₀=>qh (h1 H₀)
def W1:SD Γ X st (λ_ _=>False):=λH₀=>impS Pa λD σ H h=>by
 obtain ⟨_,_,_,_,hZ,_⟩:=h
 exact hZ.elim
def sRet (te:TD):TDS:=λρ Z=>te ρ λr=>Z.rt r.ret
def RV.ret {K:W.Frag} {H₀ H H':Hp} {σ:St} {ρ:DE} {o:List (Nat × Addr)} (R:REnv K H₀ H σ ρ o) {r:EV} {v:V} (h:RV K H H' (o.map Prod.snd) r v):RV K H₀ H' [] r.ret v:=by
 obtain ⟨k,d⟩:=r
 cases k with
 | val=>exact Rep.sub (O':=[]) (λ_ z=>absurd z (by simp)) _ _ h
 | own =>
  obtain ⟨a,e,m,c⟩:=h
  obtain ⟨p,hp,ep⟩:=zah.mp m
  subst ep
  exact ⟨p.2,e,R.fresh p hp,by simp,c.sub λb hb=>by
   have:b=p.2:=by simpa using hb
   rw [this]
   exact m⟩
 | fre =>
  obtain ⟨a,e,m,n,c⟩:=h
  exact ⟨a,e,R.same.free m,by simp,c.sub λb hb=>by
   have:b=a:=by simpa using hb
   rw [this]
   exact zao ..⟩
 | new=>exact RepN.to (Same.refl H') (λa z=>⟨by simp,R.same.free z.2⟩) _ _ h
def y0 (he:ED Γ X e te):SD Γ X (.Return (some e) pos) (sRet te):=λH₀=>impS (Nl (he H₀)) λD σ H h=>by
 obtain ⟨ρ,o,R,Z,hZ,k1,k2,k3,k4⟩:=h
 refine ⟨ρ,o,R,_,hZ,λv r H1 s1 rv h1=>?_⟩
 exact k4 v r.ret H1 (R.same.trans s1) (RV.ret R rv) h1
def sIf (tc:TDb) (t u:TDS):TDS:=λρ Z=>tc ρ λc=>(c=true->t ρ Z) /\ (c=false->u ρ Z)
def vh {c:Expr} {a b:List Stmt} (hc:ET Γ X c tc) (ha:SDs Γ X a t) (hb:SDs Γ X b u):SD Γ X (.If c a b pos) (sIf tc t u):=λH₀=>impS (Gk (hc H₀) (ha H₀) (hb H₀)) λD σ H h=>by
 obtain ⟨ρ,o,R,Z,hZ,k1,k2,k3,k4⟩:=h
 refine ⟨ρ,o,R,_,hZ,λc H1 s1 h1=>?_⟩
 have g:Grow (o.map Prod.snd) (o.map Prod.snd) H H1:=Grow.same s1
 have kk:∀ {v:TDS},v ρ Z->O1 X.K H₀.1 v D σ H1:=λhv=>⟨ρ,o,R.to s1,Z,hv,λρ2 σ2 H2 o2 g2 R2 q2=>k1 ρ2 σ2 H2 o2 (g.trans g2) R2 q2,λρ2 σ2 H2 o2 g2 R2 q2=>k2 ρ2 σ2 H2 o2 (g.trans g2) R2 q2,λρ2 σ2 H2 o2 g2 R2 q2=>k3 ρ2 σ2 H2 o2 (g.trans g2) R2 q2,k4⟩
 cases c with
 | true=>exact iteT (kk (h1.1 rfl))
 | false=>exact iteF (kk (h1.2 rfl))
def sCut (t:TDS):TDS:=λρ Z=>∃ J:DE->Prop,t ρ { Z with nx:=J } /\ ∀ ρ',J ρ'->Z.nx ρ'
def y3 (h:SD Γ X st t):SD Γ X st (sCut t):=λH₀=>impS (h H₀) λD σ H h=>by
 obtain ⟨ρ,o,R,Z,⟨J,hZ,hJ⟩,k1,k2,k3,k4⟩:=h
 exact ⟨ρ,o,R,_,hZ,λρ2 σ2 H2 o2 g2 R2 q2=>k1 ρ2 σ2 H2 o2 g2 R2 (hJ ρ2 q2),k2,k3,k4⟩
def sSet (i:Nat) (te:TD):TDS:=λρ Z=>te ρ λr=>(match r.k with | .own=>False | _=>True) /\ Z.nx (setS ρ i r.sto)
def wo {r:EV} (h:match r.k with | .own=>False | _=>True):r.k ≠ .own:=by
 obtain ⟨k,d⟩:=r
 cases k with
 | own=>exact h.elim
 | val=>exact λz=>nomatch z
 | fre=>exact λz=>nomatch z
 | new=>exact λz=>nomatch z
def zu (i:Nat) {x:Str} {pos':Pos} (hN:X.N.Nodup) (he:ED Γ X e te) (hi:X.N[i]?=some x:=by rfl) (hx:Loc X.env.scope x:=by first | exact Or.inl rfl | exact Or.inr rfl) (hs:swapsWith e (some (.Name x pos')) pos.line X.env=pure false:=by rfl)
  (hf:X.fn x=true \/ X.env.scope.names.lookup x=some .local:=by first | exact .inl rfl | exact .inr rfl | assumption):SD Γ X (.Assign [.Name x pos'] e pos) (sSet i te):=λH₀=>impS (Tc hN hi hx (he H₀) hs hf) λD σ H h=>by
 obtain ⟨ρ,o,R,Z,hZ,k1,k2,k3,k4⟩:=h
 refine ⟨ρ,o,R,_,hZ,λv r H1 s1 rv h1=>?_⟩
 obtain ⟨o',R',g⟩:=R.put s1 i rv (wo h1.1)
 exact k1 _ _ H1 o' g R' h1.2
abbrev TGD:=D->DE->(DE->Prop)->Prop
def Zw (K:W.Frag) (g2:TG) (g:TGD):Prop:=∀ (H₀ H:Hp) (σ:St) (ρ:DE) (o:List (Nat × Addr)) (d:D) (v:V) (ψ:DE->Prop) (Q:St->Hp->Prop),REnv K H₀ H σ ρ o->Rep K H (o.map Prod.snd) d v->g d ρ ψ ->
 (∀ ρ' σ',REnv K H₀ H σ' ρ' o->ψ ρ'->Q σ' H)->g2 v σ H Q
def gN (i:Nat):TGD:=λd ρ ψ=>ψ (setS ρ i (dv d))
def yc {K:W.Frag} (i:Nat):Zw K (vo i) (gN i):=λH₀ H σ ρ o d v ψ Q R h hg k=>k _ _ (R.setV i h) hg
def gT2 (i j:Nat):TGD:=λd ρ ψ=>match d with
 | .tup [a,b]=>ψ (setS (setS ρ i (dv a)) j (dv b))
 | _=>False
def yu {K:W.Frag} (i j:Nat):Zw K (gTup K 2 (Z5 (vo i) (Z5 (vo j) gNil))) (gT2 i j):=λH₀ H σ ρ o d v ψ Q R h hg k=>by
 unfold gT2 at hg
 split at hg
 ·rename_i a b
  obtain ⟨p,xs,rfl,q,r⟩:=h
  obtain ⟨v1,r1,rfl,h1,v2,r2,rfl,h2,rfl⟩:=r
  refine ⟨p,_,rfl,q.1,rfl,v1,_,rfl,v2,_,rfl,rfl,?_⟩
  have R1:=R.setV i h1
  have R2:=R1.setV j h2
  exact k _ _ R2 hg
 ·exact hg.elim
def sPar (i j:Nat) (ta:TDs):TDS:=λρ Z=>ta ρ λrs=>match rs with
 | [⟨.val,a⟩,⟨.val,b⟩]=>Z.nx (setS (setS ρ i (dv a)) j (dv b))
 | _=>False
def Hv {i j:Nat} {a b:Expr} {ta:TDs} (hp:∀ {ta:TA},PA X [a,b] ta->PS X st (tPar i j ta)) (ha:EA Γ X [a,b] ta):SD Γ X st (sPar i j ta):=λH₀=>impS (hp (ha H₀)) λD σ H h=>by
 obtain ⟨ρ,o,R,Z,hZ,k1,k2,k3,k4⟩:=h
 refine ⟨ρ,o,R,_,hZ,λvs rs H1 s1 rvs h1=>?_⟩
 split at h1
 ·rename_i da db
  obtain ⟨v1,r1,rfl,q1,v2,r2,rfl,q2,rfl⟩:=rvs
  refine ⟨v1,v2,rfl,?_⟩
  have R1:=(R.to s1).setV i (show Rep X.K H1 (o.map Prod.snd) da v1 from q1)
  have R2:=R1.setV j (show Rep X.K H1 (o.map Prod.snd) db v2 from q2)
  exact k1 _ _ H1 _ (Grow.same s1) R2 h1
 ·exact h1.elim
def sWh (tc:TDb) (tb:TDS):TDS:=λρ Z=>∃ (P:DE->Prop) (μ:DE->Nat),P ρ /\ ∀ ρ,P ρ->tc ρ λc =>
 (c=true->tb ρ { Z with nx:=λρ'=>P ρ' /\ μ ρ' < μ ρ,ct:=λρ'=>P ρ' /\ μ ρ' < μ ρ,bk:=Z.nx }) /\ (c=false->Z.nx ρ)
def W0 {c:Expr} {body:List Stmt} {tb:TDS} (hc:ET Γ X c tc) (hb:SDs Γ X body tb) (hp:PassesOwn (model X.prog X.w) X.A X.env X.xe:=by exact PassesOwn.never):SD Γ X (.While c body [] pos) (sWh tc tb):=λH₀=>impS (P9 hp (hc H₀) (hb H₀)) λD σ H h=>by
 obtain ⟨ρ,o,R,Z,⟨P,μ,hP,turn⟩,k1,k2,k3,k4⟩:=h
 refine ⟨λm σ' H'=>∃ ρ' o',Grow (o.map Prod.snd) (o'.map Prod.snd) H H' /\ REnv X.K H₀ H' σ' ρ' o' /\ P ρ' /\ μ ρ'=m,⟨_,ρ,o,Grow.refl,R,hP,rfl⟩,?_⟩
 rintro m σ1 H1 ⟨ρ1,o1,g1,R1,p1,rfl⟩
 refine ⟨ρ1,o1,R1,_,turn ρ1 p1,λc H2 s2 h2=>?_⟩
 have g2:=g1.trans (Grow.same (O:=o1.map Prod.snd) s2)
 cases c with
 | true =>
  refine iteT ⟨λσ' H'=>∃ ρ' o',Grow (o.map Prod.snd) (o'.map Prod.snd) H H' /\ REnv X.K H₀ H' σ' ρ' o' /\ P ρ' /\ μ ρ' < μ ρ1,λσ' H' ⟨ρ',o',g,R',p,l⟩=>⟨_,l,ρ',o',g,R',p,rfl⟩,?_⟩
  exact ⟨ρ1,o1,R1.to s2,_,h2.1 rfl,λρ' σ' H' o' g R' q=>⟨ρ',o',g2.trans g,R',q.1,q.2⟩,λρ' σ' H' o' g R' q=>k1 ρ' σ' H' o' (g2.trans g) R' q,λρ' σ' H' o' g R' q=>⟨ρ',o',g2.trans g,R',q.1,q.2⟩,k4⟩
 | false=>exact iteF (k1 ρ1 σ1 H2 o1 g2 (R1.to s2) (h2.2 rfl))
structure ItD (K:W.Frag) (J:It) (ds:List D) (P:Hp->List Addr->Prop):Prop where
 go:∀ (H:Hp) (O:List Addr) (i:Nat) (d:D),P H O->ds[i]?=some d->J.go i H /\ ∀ x H',J.yld i H x H'->Same H H' /\ Rep K H' O d x
 stop:∀ (H:Hp) (O:List Addr),P H O->J.stop ds.length H
 keep:∀ (O O':List Addr) (H H':Hp),P H O->Grow O O' H H'->P H' O'
abbrev TID:=DE->(List D->Prop)->Prop
def O3 (K:W.Frag) (H₀:Hp) (t:TID):TI:=λσ H R=>∃ ρ o,REnv K H₀ H σ ρ o /\ ∃ φ,t ρ φ /\ ∀ J ds P H',Same H H'->ItD K J ds P->P H' (o.map Prod.snd)->φ ds->R J H'
def EI (G:Hp->Prop) (X:Cx) (tg iter:Expr) (t:TID):Prop:=∀ H₀:{H:Hp // G H},PI X tg iter (O3 X.K H₀.1 t)
def sFor (ti:TID) (g:TGD) (tb:TDS):TDS:=λρ Z=>ti ρ λds=>∃ P:Nat->DE->Prop,P 0 ρ /\ (∀ i d ρ,ds[i]?=some d->P i ρ->g d ρ λρ'=>tb ρ' { Z with nx:=P (i + 1),ct:=P (i + 1),bk:=Z.nx }) /\ ∀ ρ,P ds.length ρ->Z.nx ρ
def yn {tg iter:Expr} {body:List Stmt} {ti:TID} {g2:TG} {g:TGD} {tb:TDS} (hi:EI Γ X tg iter ti) (hg:PG X tg g2) (hl:Zw X.K g2 g) (hb:SDs Γ X body tb) (hc:X.calm=true:=by rfl) (hp:PassesOwn (model X.prog X.w) X.A X.env X.xe:=by exact PassesOwn.never)
  (hs:∀ x,foldedSetIterable iter X.env x=pure x:=by intro _; rfl):SD Γ X (.For tg iter body [] pos) (sFor ti g tb):=λH₀=>impS (Nm hp hc (hi H₀) hg (hb H₀) hs) λD σ H h=>by
 obtain ⟨ρ,o,R,Z,hZ,k1,k2,k3,k4⟩:=h
 refine ⟨ρ,o,R,_,hZ,λJ ds PJ H1 s1 I hP ⟨P,p0,turn,fin⟩=>?_⟩
 refine ⟨λi m σ' H'=>m=ds.length - i /\ i <= ds.length /\ ∃ ρ' o',Grow (o.map Prod.snd) (o'.map Prod.snd) H1 H' /\ REnv X.K H₀ H' σ' ρ' o' /\ P i ρ',⟨_,rfl,Nat.zero_le _,ρ,o,Grow.refl,R.to s1,p0⟩,?_⟩
 rintro i m σ' H' ⟨rfl,hi',ρ',o',g',R',p'⟩
 have hP':=I.keep _ _ _ _ hP g'
 have gg:Grow (o.map Prod.snd) (o'.map Prod.snd) H H':=(Grow.same s1).trans g'
 by_cases hlt:i < ds.length
 ·have ed:ds[i]?=some ds[i]:=by simp [hlt]
  obtain ⟨j1,j2⟩:=I.go H' _ i _ hP' ed
  refine .inr ⟨j1,λσ2 H2=>∃ ρ2 o2,Grow (o.map Prod.snd) (o2.map Prod.snd) H1 H2 /\ REnv X.K H₀ H2 σ2 ρ2 o2 /\ P (i + 1) ρ2,λσ2 H2 ⟨ρ2,o2,g2,R2,p2⟩=>⟨_,(by omega:ds.length - (i + 1) < ds.length - i),rfl,hlt,ρ2,o2,g2,R2,p2⟩,λx H2 y=>?_⟩
  obtain ⟨s2,rp⟩:=j2 x H2 y
  refine hl H₀.1 H2 σ' ρ' o' _ x _ _ (R'.to s2) rp (turn i _ ρ' ed p') λρ3 σ3 R3 q3=>?_
  have g13:Grow (o.map Prod.snd) (o'.map Prod.snd) H1 H2:=g'.trans (Grow.same s2)
  have gg3:Grow (o.map Prod.snd) (o'.map Prod.snd) H H2:=gg.trans (Grow.same s2)
  exact ⟨ρ3,o',R3,_,q3,λρ4 σ4 H4 o4 g4 R4 q4=>⟨ρ4,o4,g13.trans g4,R4,q4⟩,λρ4 σ4 H4 o4 g4 R4 q4=>k1 ρ4 σ4 H4 o4 (gg3.trans g4) R4 q4,λρ4 σ4 H4 o4 g4 R4 q4=>⟨ρ4,o4,g13.trans g4,R4,q4⟩,k4⟩
 ·have e:i=ds.length:=by omega
  subst e
  exact .inl ⟨I.stop H' _ hP',k1 ρ' σ' H' o' gg R' (fin ρ' p')⟩
end
section
variable {X:Cx} {tg e:Expr} {te:TD} {t:TDs} {pos:Pos}
def impI {iter:Expr} {t t':TI} (h:PI X tg iter t) (i:∀ σ H R,t' σ H R->t σ H R):PI X tg iter t':=λpn s σ H R I q=>h pn s σ H R I (i σ H R q)
def PV (X:Cx) (tg:Expr) (r:V->Hp->(It->Hp->Prop)->Prop):Prop :=
 ∀ (pn:List (Addr × Obj)) (s:Shared) (σ:St) (H:Hp) (x:V) (v:Value) (R:It->Hp->Prop),Inv X pn σ H s->RelV x v->r x H R->wpAny (model X.prog X.w) X.A (pyIter v) (PIE X pn σ tg R) X.xe s
def Dc {l:Expr} {tl:TE} {r:V->Hp->(It->Hp->Prop)->Prop} (hl:PE X l tl) (hv:PV X tg r):PI X tg l (λσ H R=>tl σ H λx H1=>r x H1 R):=λpn s σ H R I h =>
 thn (hl pn s σ H _ I h) λv s1 ⟨x,H1,I1,r1,q1⟩=>hv pn s1 σ H1 x v R I1 r1 q1
def Lp:PV X tg (λx H R=>∃ a,x=.ref a /\ (∃ xs,SqL X.K H a xs) /\ R (Itl X.K a) H):=by
 intro pn s1 σ H1 x v R I1 r1 q1
 obtain ⟨a,e,⟨xs,hq⟩,q⟩:=q1
 subst e
 cases r1
 obtain ⟨its,rv,p,hz⟩:=I1.list hq
 refine wpAny_pyIter_list p.isList ?_
 refine ⟨s1.heap.objs.size,[s1.heap.objs.size],_,_,H1,rfl,I1.kept (t':=s1.toks) λb o e=>zac _ e,U7 a _,⟨_,zad _ rfl,rfl,rfl⟩,λb hb=>?_,q⟩
 have e:b=s1.heap.objs.size:=by simpa using hb
 subst e
 exact I1.fpOk (zaj _) (I1.hok.fresh (zaj _))
def Gg:PV X tg (λx H R=>∃ a,x=.ref a /\ (∃ xs,SqT X.K H a xs) /\ R (Itt X.K a) H):=by
 intro pn s1 σ H1 x v R I1 r1 q1
 obtain ⟨a,e,⟨xs,hq⟩,q⟩:=q1
 subst e
 cases r1
 obtain ⟨its,rv,p,hz⟩:=I1.tuple hq
 refine wpAny_pyIter_tuple (show s1.heap.IsTuple a its.toArray from p) ?_
 refine ⟨s1.heap.objs.size,[s1.heap.objs.size],_,_,H1,rfl,I1.kept (t':=s1.toks) λb o e=>zac _ e,V2 a _,⟨_,zad _ rfl,rfl,rfl⟩,λb hb=>?_,q⟩
 have e:b=s1.heap.objs.size:=by simpa using hb
 subst e
 exact I1.fpOk (zaj _) (I1.hok.fresh (zaj _))
def Gh:PV X tg (λx H R=>∃ z,x=.str z /\ R (Itv z.cps.size (Jt z)) H):=by
 intro pn s1 σ H1 x v R I1 r1 q1
 obtain ⟨z,e,q⟩:=q1
 subst e
 obtain ⟨t,rfl⟩:=r1
 have lay:∀ (T:String),(∀ A:Around,A.handled=none->Walks X.prog X.w A s1.heap.objs.size [s1.heap.objs.size] [s1.heap.objs.size] z.cps.size (SignAt z) (λi h=>h.IsStrIter s1.heap.objs.size T z t i)) ->
   (∀ (A:Around) (i:Nat) (s:Shared) (Q:Value->Shared->Prop) (E:Value->Shared->Prop),s.heap.IsStrIter s1.heap.objs.size T z t i->Q (.ref s1.heap.objs.size) s->wpAny (model X.prog X.w) A (pyIter (.ref s1.heap.objs.size)) Q E s) ->
   ["enumerate", "zip", "dict_itemiterator", "dict_reverseitemiterator", "odict_iterator", "itertools.zip_longest", "itertools.pairwise"].contains T=false ->
   PIE X pn σ tg R (.ref s1.heap.objs.size) { s1 with heap:=s1.heap.push { cls:=.type T,data:=.fields #[.str z t,.int 0 0] } }:=λT W hs hT=>by
  have I2:Inv X pn σ H1 { s1 with heap:=s1.heap.push { cls:=.type T,data:=.fields #[.str z t,.int 0 0] } }:=I1.kept (t':=s1.toks) λb u e=>zac _ e
  refine ⟨s1.heap.objs.size,[s1.heap.objs.size],_,_,H1,rfl,I2,Ql W hs hT,⟨_,zad _ rfl,rfl,rfl⟩,λb hb=>?_,q⟩
  have e:b=s1.heap.objs.size:=by simpa using hb
  subst e
  exact I1.fpOk (zaj _) I1.fresh
 cases ha:z.cps.all (· < 128)
 ·exact wpAny_pyIter_wide ha (lay "str_iterator" (λA hA=>Walks.strWide hA _ z t) (λA i s Q E st q=>wpAny_pyIter_striter_wide st q) (by decide))
 ·exact wpAny_pyIter_ascii ha (lay "str_ascii_iterator" (λA hA=>Walks.strAscii hA _ z t) (λA i s Q E st q=>wpAny_pyIter_striter_ascii st q) (by decide))
def Nw:D->Option (List D)
 | .lst ds=>some ds
 | .tup ds=>some ds
 | .scr ns=>some (ns.map D.int)
 | .str z=>some (z.cps.toList.map λc=>D.str ⟨#[c]⟩)
 | _=>none
def iSeq (te:TD):TID:=λρ φ=>te ρ λr=>(match r.k with | .own=>False | _=>True) /\ match Nw r.d with
 | some ds=>φ ds
 | none=>False
def E7 {K:W.Frag} {a:Addr} {ds:List D}:ItD K (Itl K a) ds (λH O=>∃ xs,H a=some (.lst xs) /\ a ∉ O /\ Reps K H O ds xs) where
 go:=λH O i d ⟨xs,q,n,r⟩ e=>by
  obtain ⟨v,ev,rv⟩:=r.get e
  refine ⟨⟨xs,v,SqL.of q,ev⟩,λx H' y=>?_⟩
  obtain ⟨e1,y⟩:=y
  subst e1
  have:=y xs (SqL.of q)
  rw [ev] at this
  cases this
  exact ⟨Same.refl _,rv⟩
 stop:=λH O ⟨xs,q,n,r⟩=>⟨xs,SqL.of q,by rw [r.length]; exact zaj _⟩
 keep:=λO O' H H' ⟨xs,q,n,r⟩ g=>⟨xs,(g.keep _ _ q n).1,(g.keep _ _ q n).2,Reps.grow g _ _ r⟩
def E4 {K:W.Frag} {a:Addr} {ds:List D}:ItD K (Itt K a) ds (λH O=>∃ xs,SqT K H a xs /\ Reps K H O ds xs) where
 go:=λH O i d ⟨xs,q,r⟩ e=>by
  obtain ⟨v,ev,rv⟩:=r.get e
  refine ⟨⟨xs,v,q,ev⟩,λx H' y=>?_⟩
  obtain ⟨e1,y⟩:=y
  subst e1
  have:=y xs q
  rw [ev] at this
  cases this
  exact ⟨Same.refl _,rv⟩
 stop:=λH O ⟨xs,q,r⟩=>⟨xs,q,by rw [r.length]; exact zaj _⟩
 keep:=λO O' H H' ⟨xs,q,r⟩ g=>⟨xs,g6 g q,Reps.grow g _ _ r⟩
def E6 {K:W.Frag} {a:Addr} {ns:List Int}:ItD K (Itl K a) (ns.map D.int) (λH _=>Scr K H a ns) where
 go:=λH O i d q e=>by
  rw [zai] at e
  cases en:ns[i]? with
  | none=>rw [en] at e; cases e
  | some n =>
   rw [en] at e
   cases e
   have ev:(ns.map V.int)[i]?=some (.int n):=by rw [zai,en]; rfl
   refine ⟨⟨_,_,q.seq,ev⟩,λx H' y=>?_⟩
   obtain ⟨e1,y⟩:=y
   subst e1
   have:=y _ q.seq
   rw [ev] at this
   cases this
   exact ⟨Same.refl _,rfl⟩
 stop:=λH O q=>⟨_,q.seq,by rw [zLm,zLm]; exact zaj _⟩
 keep:=λO O' H H' q g=>re g q
def E5 {K:W.Frag} {z:Str}:ItD K (Itv z.cps.size (Jt z)) (z.cps.toList.map λc=>D.str ⟨#[c]⟩) (λ_ _=>True) where
 go:=λH O i d _ e=>by
  rw [zai] at e
  cases en:z.cps.toList[i]? with
  | none=>rw [en] at e; cases e
  | some n =>
   rw [en] at e
   cases e
   have hl:=(zag.mp en).1
   refine ⟨(show i < z.cps.size by simpa using hl),λx H' y=>?_⟩
   obtain ⟨e1,c,hc,ex⟩:=y
   subst e1 ex
   have:z.cps.toList[i]?=some c:=by rw [Array.getElem?_toList]; exact hc
   rw [en] at this
   cases this
   exact ⟨Same.refl _,rfl⟩
 stop:=λH O _=>by show _=_; simp
 keep:=λ_ _ _ _ _ _=>trivial
def rngD (lo:Int) (n:Nat):List D:=(List.range n).map λ(i:Nat)=>D.int (lo + (i:Int))
def Nx {K:W.Frag} {lo:Int} {n:Nat}:ItD K (Itr lo n) (rngD lo n) (λ_ _=>True) where
 go:=λH O i d _ e=>by
  unfold rngD at e
  rw [zai] at e
  cases en:(List.range n)[i]? with
  | none=>rw [en] at e; cases e
  | some m =>
   rw [en] at e
   cases e
   have hl:=(zag.mp en).1
   rw [List.length_range] at hl
   have:m=i:=by
    rw [List.getElem?_range hl] at en
    exact (Option.some.inj en).symm
   subst this
   refine ⟨hl,λx H' y=>?_⟩
   obtain ⟨e1,ex⟩:=y
   subst e1 ex
   exact ⟨Same.refl _,rfl⟩
 stop:=λH O _=>by show n <= _; unfold rngD; simp
 keep:=λ_ _ _ _ _ _=>trivial
def PV.or {r r':V->Hp->(It->Hp->Prop)->Prop} (h:PV X tg r) (h':PV X tg r'):PV X tg (λx H R=>r x H R \/ r' x H R):=λpn s σ H x v R I rx q=>q.elim (h pn s σ H x v R I rx) (h' pn s σ H x v R I rx)
def xw (he:ED Γ X e te):EI Γ X tg e (iSeq te):=λH₀=>impI (Dc (he H₀) (Lp.or (Gg.or Gh))) λσ H R q=>by
 obtain ⟨ρ,o,RE,φ,hφ,k⟩:=q
 refine ⟨ρ,o,RE,_,hφ,λv r H1 s1 rv h1=>?_⟩
 obtain ⟨h0,h1⟩:=h1
 have rp:=rv.solid (wo h0)
 obtain ⟨kd,d⟩:=r
 cases d with
 | lst ds =>
  obtain ⟨a,xs,rfl,q,n,r⟩:=rp
  exact .inl ⟨a,rfl,⟨xs,SqL.of q⟩,k _ _ _ H1 s1 E7 ⟨xs,q,n,r⟩ h1⟩
 | tup ds =>
  obtain ⟨a,xs,rfl,q,r⟩:=rp
  exact .inr (.inl ⟨a,rfl,⟨xs,q.1⟩,k _ _ _ H1 s1 E4 ⟨xs,q.1,r⟩ h1⟩)
 | scr ns =>
  obtain ⟨a,rfl,q⟩:=rp
  exact .inl ⟨a,rfl,⟨_,q.seq⟩,k _ _ _ H1 s1 E6 q h1⟩
 | str z =>
  cases (show v=_ from rp)
  exact .inr (.inr ⟨z,rfl,k _ _ _ H1 s1 E5 trivial h1⟩)
 | _=>exact h1.elim
def iR1 (t:TDs):TID:=λρ φ=>t ρ λrs=>match rs with
 | [⟨_,.int j⟩]=>-(2 ^ 62) <= j /\ j < 2 ^ 62 /\ φ (rngD 0 j.toNat)
 | _=>False
def iR2 (t:TDs):TID:=λρ φ=>t ρ λrs=>match rs with
 | [⟨_,.int i⟩,⟨_,.int j⟩]=>(-(2 ^ 62) <= i /\ i < 2 ^ 62 /\ -(2 ^ 62) <= j /\ j < 2 ^ 62) /\ φ (rngD i (j - i).toNat)
 | _=>False
def y7 {a:Expr} {p:Pos} (hm:X.mg "range" = none) (ha:EA Γ X [a] t) (hg:Gl X "range":=by rfl) (hs:starEach [a] X.env=[(false,eval a X.env)]:=by rfl):EI Γ X tg (.Call (.Name "range" p) [a] [] pos) (iR1 t):=λH₀=>impI (Tj hg hm (ha H₀) hs) λσ H R q=>by
 obtain ⟨ρ,o,RE,φ,hφ,k⟩:=q
 refine ⟨ρ,o,RE,_,hφ,λvs rs H1 s1 rvs h1=>?_⟩
 split at h1
 ·rename_i kd j
  obtain ⟨v,ws,rfl,rv,rfl⟩:=rvs
  cases (show v=_ from rv.view)
  exact ⟨j,rfl,h1.1,h1.2.1,k _ _ _ H1 s1 Nx trivial h1.2.2⟩
 ·exact h1.elim
def Zd {a b:Expr} {p:Pos} (hm:X.mg "range" = none) (ha:EA Γ X [a,b] t) (hg:Gl X "range":=by rfl) (hs:starEach [a,b] X.env=[(false,eval a X.env),(false,eval b X.env)]:=by rfl) (hs2:starEach [b] X.env=[(false,eval b X.env)]:=by rfl):EI Γ X tg (.Call (.Name "range" p) [a,b] [] pos) (iR2 t):=λH₀=>impI (Ti hg hm (ha H₀) hs hs2) λσ H R q=>by
 obtain ⟨ρ,o,RE,φ,hφ,k⟩:=q
 refine ⟨ρ,o,RE,_,hφ,λvs rs H1 s1 rvs h1=>?_⟩
 split at h1
 ·rename_i kd i kd2 j
  obtain ⟨v,ws,rfl,rv,v2,ws2,rfl,rv2,rfl⟩:=rvs
  cases (show v=_ from rv.view)
  cases (show v2=_ from rv2.view)
  exact ⟨i,j,rfl,h1.1,k _ _ _ H1 s1 Nx trivial h1.2⟩
 ·exact h1.elim
end
section
variable {X:Cx} {σ:St} {scope:Scope} {T F:List Str} {js:List Nat} {tg iter elt:Expr} {ifs:List Expr} {pos:Pos} {ti:TID} {g2:TG} {g:TGD} {tc:TDb} {te:TD}
def ρ0 (n:Nat) (js:List Nat) (ρ:DE):DE:=List.replicate n none ++ js.map λj=>slot ρ j
def ixO (n:Nat) (js:List Nat) (j:Nat):Nat:=if j ∈ js then n + js.idxOf j else n + js.length + 1 + j
def jg {K:W.Frag} {H₀ H H':Hp} {σ:St} {ρ:DE} {o:List (Nat × Addr)} {n:Nat} {js:List Nat} {D:Addr} {ys:List V} (R:REnv K H₀ H σ ρ o) (nd:js.Nodup) (hD:H D=none) (s:Same H H') (hD':H' D=some (.lst ys)) (Tn:List Str) (hT:Tn.length=n) :
  REnv K H₀ H' (st0 Tn js σ) (ρ0 n js ρ) ((n + js.length,D) :: o.map λp=>(ixO n js p.1,p.2)):=by
 have hO:((n + js.length,D) :: o.map λp=>(ixO n js p.1,p.2)).map Prod.snd=D :: o.map Prod.snd:=by
  rw [List.map_cons,List.map_map]
  rfl
 have g:Grow (o.map Prod.snd) (D :: o.map Prod.snd) H H':=⟨λb u h nb=>⟨s b u h,λz=>(zam.mp z).elim (λe=>zb h hD e) nb⟩,λb xs h=>s b _ h,λb ob u h=>s b _ h⟩
 have R':=R.to s
 exact {
  same:=R'.same
  fresh:=λp hp=>by
   rcases zam.mp hp with rfl | hp
   ·exact R.same.free hD
   ·obtain ⟨q,hq,rfl⟩:=zah.mp hp
    exact R.fresh q hq
  trk:=λp hp=>by
   rcases zam.mp hp with rfl | hp
   ·exact ⟨_,hD'⟩
   ·obtain ⟨q,hq,rfl⟩:=zah.mp hp
    exact R'.trk q hq
  mtb:=λp hp=>by
   rcases zam.mp hp with rfl | hp
   ·exact ⟨(λxs z=>by rw [hD'] at z; cases z),(λob u z=>by rw [hD'] at z; cases z)⟩
   ·obtain ⟨q,hq,rfl⟩:=zah.mp hp
    exact R'.mtb q hq
  nda:=by
   rw [hO,List.nodup_cons]
   exact ⟨R.ofree hD,R.nda⟩
  len:=by
   unfold st0 ρ0
   simp [hT]
  slots:=λi r e=>by
   rw [hO]
   unfold ρ0 at e
   have hi:n <= i:=by
    rcases Nat.lt_or_ge i n with z | z
    ·rw [List.getElem?_append_left (by simpa using z),List.getElem?_replicate] at e
     split at e <;> cases e
    ·exact z
   rw [List.getElem?_append_right (by simpa using hi),List.length_replicate,zai] at e
   cases ej:js[i - n]? with
   | none=>rw [ej] at e; cases e
   | some j =>
    rw [ej] at e
    have e':slot ρ j=some r:=Option.some.inj e
    obtain ⟨v,ev,q⟩:=R.slots j r (yi e')
    refine ⟨v,?_,?_⟩
    ·unfold st0
     rw [List.getElem?_append_right (by simpa [hT] using hi),List.length_replicate,zai,hT,ej]
     show some ((σ[j]?).join)=_
     rw [ev]
     rfl
    ·rcases q with ⟨k,q⟩ | ⟨k,a,e1,m,c⟩
     ·exact .inl ⟨k,Rep.grow g _ _ q⟩
     ·refine .inr ⟨k,a,e1,zal _ (zah.mpr ⟨_,m,?_⟩),c.grow (λu q=>s _ _ q) g⟩
      have hmem:j ∈ js:=zan ej
      have hidx:js.idxOf j=i - n:=by
       have h1:=(zag.mp ej)
       have h2:=List.getElem_idxOf (List.idxOf_lt_length_iff.mpr hmem)
       exact (List.getElem_inj nd).mp (h2.trans h1.2.symm)
      show (ixO n js j,a)=(i,a)
      unfold ixO
      rw [if_pos hmem,hidx]
      congr 1
      omega }
def bYes:TDb:=λ_ φ=>φ true
def Xf (ti:TID) (n:Nat) (js:List Nat) (g:TGD) (tc:TDb) (te:TD):TD:=λρ φ=>ti ρ λds=>∃ f:D->Option D,ds.length <= 100000 /\
 (∀ d ∈ ds,g d (ρ0 n js ρ) λρ'=>tc ρ' λc=>(c=true->te ρ' λr=>(match r.k with | .own=>False | _=>True) /\ f d=some r.d) /\ (c=false->f d=none)) /\ φ (df (.lst (ds.filterMap f)))
def EIf (G:Hp->Prop) (X:Cx) (ifs:List Expr) (t:TDb):Prop:=∀ H₀:{H:Hp // G H},PIf X ifs (b5 X.K H₀.1 t)
def xg:EIf Γ X [] bYes:=λH₀ pn s σ H Q I h=>by
 obtain ⟨ρ,o,R,φ,hφ,k⟩:=h
 exact Tg pn s σ H Q I (k true H (Same.refl H) hφ)
def Xd {c:Expr} (h:ET Γ X c tc):EIf Γ X [c] tc:=λH₀=>Ly (h H₀)
def b4 {H₀:Hp} (nd:js.Nodup) (hl:Zw X.K g2 g):∀ σ H Q,uz X.K H₀ (Xf ti T.length js g tc te) σ H Q->Uh (O3 X.K H₀ ti) T js g2 (b5 X.K H₀ tc) (uz X.K H₀ te) σ H Q:=λσ H Q q=>by
  obtain ⟨ρ,o,R,φ,hφ,k⟩:=q
  refine ⟨ρ,o,R,_,hφ,λJ ds P H1 s1 I hP ⟨f,hlen,turn,fin⟩ Da hDa=>?_⟩
  have R1:=R.to s1
  have gD:∀ {H':Hp},Same H1 H'->Grow (o.map Prod.snd) (Da :: o.map Prod.snd) H1 H':=λs=>⟨λb u h nb=>⟨s b u h,λz=>(zam.mp z).elim (λe=>zb h hDa e) nb⟩,λb xs h=>s b _ h,λb ob u h=>s b _ h⟩
  refine ⟨λi m ys H'=>m=ds.length - i /\ i <= ds.length /\ Same H1 H' /\ H' Da=some (.lst ys) /\ Reps X.K H' (Da :: o.map Prod.snd) ((ds.take i).filterMap f) ys,
   ⟨_,rfl,Nat.zero_le _,zr hDa _,zh,rfl⟩,?_⟩
  rintro i m ys H' ⟨rfl,hi',s2,hD',rp⟩
  refine ⟨hD',?_⟩
  have hP':=I.keep _ _ _ _ hP (gD s2)
  by_cases hlt:i < ds.length
  ·have ed:ds[i]?=some ds[i]:=by simp [hlt]
   obtain ⟨j1,j2⟩:=I.go H' _ i _ hP' ed
   refine .inr ⟨j1,λzs H2=>Same H1 H2 /\ H2 Da=some (.lst zs) /\ Reps X.K H2 (Da :: o.map Prod.snd) ((ds.take (i + 1)).filterMap f) zs,λzs H2 ⟨a1,a2,a3⟩=>⟨_,(by omega:ds.length - (i + 1) < ds.length - i),rfl,hlt,a1,a2,a3⟩,λx H2 y=>?_⟩
   obtain ⟨s3,rx⟩:=j2 x H2 y
   have s13:=s2.trans s3
   have hD2:=s3 _ _ hD'
   have RB:=jg (n:=T.length) R1 nd hDa s13 hD2 T rfl
   have hO:((T.length + js.length,Da) :: o.map λp=>(ixO T.length js p.1,p.2)).map Prod.snd=Da :: o.map Prod.snd:=by
    rw [List.map_cons,List.map_map]
    rfl
   have tk:(ds.take (i + 1)).filterMap f=(ds.take i).filterMap f ++ (f ds[i]).toList:=by
    rw [List.take_succ,ed,List.filterMap_append]
    cases e:f ds[i] <;> simp [e]
   have rpl:ys.length <= 100000:=by
    rw [rp.length]
    refine zak (List.length_filterMap_le _ _) ?_
    rw [List.length_take]
    omega
   refine hl H₀ H2 (st0 T js σ) (ρ0 T.length js ρ) _ _ x _ _ RB (by rw [hO]; exact rx) (turn _ (List.getElem_mem hlt)) λρ' σ' R' q'=>?_
   refine ⟨ρ',_,R',_,q',λc H3 s4 h4=>?_⟩
   have hD3:=s4 _ _ hD2
   cases c with
   | false =>
    refine iteF ⟨s13.trans s4,hD3,?_⟩
    rw [tk,h4.2 rfl]
    simpa using Reps.grow (Grow.same (s3.trans s4)) _ _ rp
   | true =>
    refine iteT ⟨ρ',_,R'.to s4,_,h4.1 rfl,λv r H4 s5 rv h5=>?_⟩
    have hD4:=s5 _ _ hD3
    have rd:=rv.solid (wo h5.1)
    rw [hO] at rd
    have ne:∀ b u,H1 b=some u->b ≠ Da:=λb u h=>zb h hDa
    have gu:Grow (Da :: o.map Prod.snd) (Da :: o.map Prod.snd) H4 (upd H4 Da (.lst (ys ++ [v]))) :=
     ⟨λb u h n=>⟨by rw [zg (λz=>n (zam.mpr (.inl z)))]; exact h,n⟩,λb xs h=>by rw [zg (λz=>by rw [z,hD4] at h; cases h)]; exact h,λb ob u h=>by rw [zg (λz=>by rw [z,hD4] at h; cases h)]; exact h⟩
    refine ⟨hD4,Nat.lt_of_le_of_lt rpl (by decide),⟨λb u h=>?_,zh,?_⟩⟩
    ·rw [zg (ne b u h)]
     exact s5 _ _ (s4 _ _ (s13 b u h))
    ·rw [tk,h5.2]
     exact Reps.grow gu _ _ ((Reps.grow (Grow.same (s3.trans (s4.trans s5))) _ _ rp).append (Reps.one rd))
  ·have e:i=ds.length:=by omega
   subst e
   rw [List.take_length] at rp
   refine .inl ⟨I.stop H' _ hP',?_⟩
   exact k (.ref Da) (df (.lst (ds.filterMap f))) H' (s1.trans s2) ⟨Da,rfl,s1.free hDa,R.ofree (s1.free hDa),ys,hD',rp⟩ fin
def xh (hi:EI Γ X tg iter ti) (S:zt X.env.scope scope T F) (hjs:Paired (λx j=>X.N[j]?=some x) F js) (nd:js.Nodup)
  (hg:∀ cl C fp s H,PG (yd X (T ++ F) scope cl C fp s H) tg g2) (hk:j8 T.length g2) (hl:Zw X.K g2 g)
  (ht:∀ cl C fp s H,EIf Γ (yd X (T ++ F) scope cl C fp s H) ifs tc) (he:∀ cl C fp s H,ED Γ (yd X (T ++ F) scope cl C fp s H) elt te)
  (hc:X.calm=true:=by rfl) (hs:∀ x,foldedSetIterable iter X.env x=pure x:=by intro _; rfl):ED Γ X (.ListComp elt [⟨tg,iter,ifs,0⟩] scope pos) (Xf ti T.length js g tc te):=λH₀ =>
 impE (Tp (tc:=b5 X.K H₀.1 tc) (te:=uz X.K H₀.1 te) hc (hi H₀) S hjs hg hk (λcl C fp s H=>ht cl C fp s H H₀) (λcl C fp s H=>he cl C fp s H H₀) hs) (b4 nd hl)
def jd (i:Nat) {y:Str} {py spos:Pos} (hN:X.N.Nodup) (hi:EI Γ X tg iter ti) (S:zt X.env.scope scope T F) (hjs:Paired (λx j=>X.N[j]?=some x) F js) (nd:js.Nodup)
  (hg:∀ cl C fp s H,PG (yd X (T ++ F) scope cl C fp s H) tg g2) (hk:j8 T.length g2) (hl:Zw X.K g2 g)
  (ht:∀ cl C fp s H,EIf Γ (yd X (T ++ F) scope cl C fp s H) ifs tc) (he:∀ cl C fp s H,ED Γ (yd X (T ++ F) scope cl C fp s H) elt te)
  (hc:X.calm=true:=by rfl) (hs:∀ x,foldedSetIterable iter X.env x=pure x:=by intro _; rfl) (hy:X.N[i]?=some y:=by rfl) (hlo:X.env.scope.names.lookup y=some .local:=by rfl) (hsw:swapsWith (.ListComp elt [⟨tg,iter,ifs,0⟩] scope pos) (some (.Name y py)) spos.line X.env=pure true:=by rfl):SD Γ X (.Assign [.Name y py] (.ListComp elt [⟨tg,iter,ifs,0⟩] scope pos) spos) (sSet i (Xf ti T.length js g tc te)):=λH₀ =>
 impS (jj (tc:=b5 X.K H₀.1 tc) (te:=uz X.K H₀.1 te) hc hN hy (.inl hlo) (hi H₀) S hjs hg hk (λcl C fp s H=>ht cl C fp s H H₀) (λcl C fp s H=>he cl C fp s H H₀) hsw hs (.inr hlo)) λD σ H h=>by
  obtain ⟨ρ,o,R,Z,hZ,k1,k2,k3,k4⟩:=h
  refine b4 nd hl σ H _ ⟨ρ,o,R,_,hZ,λv r H1 s1 rv h1=>?_⟩
  obtain ⟨o',R',g'⟩:=R.put s1 i rv (wo h1.1)
  exact k1 _ _ H1 o' g' R' h1.2
end
section
variable {X:Cx} {x:Str} {e a b:Expr} {es:List Expr} {t:TDs} {ta tb:TD} {p pos:Pos}
structure Kit (K:W.Frag):Prop where
 ne:∀ q ∈ ([("NoneType", "int"),("NoneType", "bool"),("NoneType", "str"),("NoneType", "tuple"),("NoneType", "list"),("NoneType", "dict"),("bool", "str"),("bool", "tuple"),("bool", "list"),("bool", "dict"),
  ("int", "bool"),("int", "str"),("int", "tuple"),("int", "list"),("int", "dict"),("str", "int"),("str", "bool"),("str", "tuple"),("str", "list"),("str", "dict"),
  ("tuple", "int"),("tuple", "bool"),("tuple", "str"),("tuple", "list"),("tuple", "dict"),("list", "int"),("list", "bool"),("list", "str"),("list", "tuple"),("list", "dict"),
  ("dict", "int"),("dict", "bool"),("dict", "str"),("dict", "tuple"),("dict", "list")]:List (String × String)),W.kitOne K (.type q.1) (.type q.2)=some false
 bi:W.kitOne K (.type "bool") (.type "int")=some true
def Sn {K:W.Frag}:Kit K:=by
 constructor
 ·intro q hq
  simp only [zam,List.not_mem_nil,or_false] at hq
  rcases hq with rfl | rfl | rfl | rfl | rfl | rfl | rfl | rfl | rfl | rfl | rfl | rfl | rfl | rfl | rfl | rfl | rfl | rfl | rfl | rfl | rfl | rfl | rfl | rfl | rfl | rfl | rfl | rfl | rfl | rfl | rfl | rfl | rfl | rfl | rfl <;> kernel_rfl
 ·kernel_rfl
def O5 {K:W.Frag} {T:String}:W.kitOne K (.type T) (.type T)=some true:=by
 unfold W.kitOne
 rw [if_pos (by simp)]
def ku:bootBuiltins "int" = some (.type "int"):=by decide +kernel
def h8:bootBuiltins "bool" = some (.type "bool"):=by decide +kernel
def wm:bootBuiltins "tuple" = some (.type "tuple"):=by decide +kernel
def Vx:bootBuiltins "list" = some (.type "list"):=by decide +kernel
def Vy:bootBuiltins "dict" = some (.type "dict"):=by decide +kernel
def su:bootBuiltins "isinstance" = some (.builtin "isinstance"):=by decide +kernel
def Fu {K:W.Frag} (a T:String) (h:(a,T) ∈ ([("NoneType", "int"),("NoneType", "bool"),("NoneType", "str"),("NoneType", "tuple"),("NoneType", "list"),("NoneType", "dict"),("bool", "str"),("bool", "tuple"),("bool", "list"),("bool", "dict"),
  ("int", "bool"),("int", "str"),("int", "tuple"),("int", "list"),("int", "dict"),("str", "int"),("str", "bool"),("str", "tuple"),("str", "list"),("str", "dict"),
  ("tuple", "int"),("tuple", "bool"),("tuple", "str"),("tuple", "list"),("tuple", "dict"),("list", "int"),("list", "bool"),("list", "str"),("list", "tuple"),("list", "dict"),
  ("dict", "int"),("dict", "bool"),("dict", "str"),("dict", "tuple"),("dict", "list")]:List (String × String))):W.kitOne K (.type a) (.type T)=some false:=Sn.ne (a,T) h
def N9:D->String
 | .non=>"NoneType"
 | .bl _=>"bool"
 | .int _=>"int"
 | .str _=>"str"
 | .tup _=>"tuple"
 | .lst _=>"list"
 | .dk _ _=>"dict"
 | .dt _ _=>"dict"
 | .ty _=>"type"
 | .cn _=>"tuple"
 | .scr _=>"list"
 | .dz _=>"exc"
 | .exc _=>"exc"
 | .fd _=>"exc"
 | .dp _=>"exc"
 | .ob _ _ _=>"exc"
def O6:List (String × String):=[("NoneType", "int"),("NoneType", "bool"),("NoneType", "str"),("NoneType", "tuple"),("NoneType", "list"),("NoneType", "dict"),("bool", "str"),("bool", "tuple"),("bool", "list"),("bool", "dict"),
  ("int", "bool"),("int", "str"),("int", "tuple"),("int", "list"),("int", "dict"),("str", "int"),("str", "bool"),("str", "tuple"),("str", "list"),("str", "dict"),
  ("tuple", "int"),("tuple", "bool"),("tuple", "str"),("tuple", "list"),("tuple", "dict"),("list", "int"),("list", "bool"),("list", "str"),("list", "tuple"),("list", "dict"),
  ("dict", "int"),("dict", "bool"),("dict", "str"),("dict", "tuple"),("dict", "list")]
def isN (a T:String):Option Bool:=if a=T then some true else if a = "bool" /\ T = "int" then some true else if (a,T) ∈ O6 then some false else none
def isT (d:D) (T:String):Option Bool:=match d with
 | .ty _=>none
 | .cn _=>none
 | .scr _=>none
 | .dz _=>none
 | .exc _=>none
 | .fd _=>none
 | .dp _=>none
 | .ob _ _ _=>none
 | d=>isN (N9 d) T
def Ku {K:W.Frag} {a T:String} {b:Bool} (h:isN a T=some b):W.kitOne K (.type a) (.type T)=some b:=by
 unfold isN at h
 split at h
 ·rename_i q
  cases h
  subst q
  exact O5
 ·split at h
  ·rename_i q
   cases h
   obtain ⟨rfl,rfl⟩:=q
   exact Sn.bi
  ·split at h
   ·rename_i q
    cases h
    exact Fu a T q
   ·cases h
def Kt {K:W.Frag} {d:D} {T:String} {b:Bool} (h:isT d T=some b):W.kitOne K (.type (N9 d)) (.type T)=some b:=by
 cases d with
 | ty _=>cases h
 | cn _=>cases h
 | scr _=>cases h
 | dz _=>cases h
 | exc _=>cases h
 | fd _=>cases h
 | dp _=>cases h
 | ob _ _ _=>cases h
 | _=>exact Ku h
def Yt:isT .non "int" = some false:=(by decide:isN "NoneType" "int" = some false)
def bw:isT .non "bool" = some false:=(by decide:isN "NoneType" "bool" = some false)
def ff:isT .non "tuple" = some false:=(by decide:isN "NoneType" "tuple" = some false)
def Vm (b:Bool):isT (.bl b) "int" = some true:=(by decide:isN "bool" "int" = some true)
def X0 (b:Bool):isT (.bl b) "bool" = some true:=(by decide:isN "bool" "bool" = some true)
def Z3 (b:Bool):isT (.bl b) "tuple" = some false:=(by decide:isN "bool" "tuple" = some false)
def Yx (i:Int):isT (.int i) "int" = some true:=(by decide:isN "int" "int" = some true)
def Z0 (i:Int):isT (.int i) "bool" = some false:=(by decide:isN "int" "bool" = some false)
def Yw (i:Int):isT (.int i) "str" = some false:=(by decide:isN "int" "str" = some false)
def fh (i:Int):isT (.int i) "tuple" = some false:=(by decide:isN "int" "tuple" = some false)
def Ys (x:Str):isT (.str x) "int" = some false:=(by decide:isN "str" "int" = some false)
def bo (x:Str):isT (.str x) "bool" = some false:=(by decide:isN "str" "bool" = some false)
def Yr (x:Str):isT (.str x) "str" = some true:=(by decide:isN "str" "str" = some true)
def fc (x:Str):isT (.str x) "tuple" = some false:=(by decide:isN "str" "tuple" = some false)
def Yq (l:List D):isT (.tup l) "int" = some false:=(by decide:isN "tuple" "int" = some false)
def bn (l:List D):isT (.tup l) "bool" = some false:=(by decide:isN "tuple" "bool" = some false)
def gz (l:List D):isT (.tup l) "tuple" = some true:=(by decide:isN "tuple" "tuple" = some true)
def bm (l:List D):isT (.tup l) "list" = some false:=(by decide:isN "tuple" "list" = some false)
def Yu (l:List D):isT (.lst l) "int" = some false:=(by decide:isN "list" "int" = some false)
def bz (l:List D):isT (.lst l) "bool" = some false:=(by decide:isN "list" "bool" = some false)
def fg (l:List D):isT (.lst l) "tuple" = some false:=(by decide:isN "list" "tuple" = some false)
def bx (l:List D):isT (.lst l) "list" = some true:=(by decide:isN "list" "list" = some true)
def Vl (k:List Key) (l:List D):isT (.dk k l) "int" = some false:=(by decide:isN "dict" "int" = some false)
def Yz (k:List Key) (l:List D):isT (.dk k l) "bool" = some false:=(by decide:isN "dict" "bool" = some false)
def Z1 (k:List Key) (l:List D):isT (.dk k l) "tuple" = some false:=(by decide:isN "dict" "tuple" = some false)
def Yy (k:List Key) (l:List D):isT (.dk k l) "dict" = some true:=(by decide:isN "dict" "dict" = some true)
def N4:wg X (.builtin "isinstance") (λxs H Q=>∃ d x T b,xs=[x,.ty T] /\ Rep X.K H [] d x /\ isT d T=some b /\ Q (.bl b) H):=by
 intro pn s σ H xs us Q I r h
 obtain ⟨d,x,T,b,rfl,rp,e,q⟩:=h
 obtain ⟨u,v,rfl,ru,rv⟩:=Mp r
 cases rv
 have ek:=Kt (K:=X.K) e
 have fin:∀ tk,EP X pn σ Q (.bool b) { s with toks:=tk }:=λtk=>⟨.bl b,H,I.tok tk,rfl,q⟩
 cases d with
 | non=>cases (show x=_ from rp); exact xt I ru .non ek fin
 | bl c=>cases (show x=_ from rp); exact xt I ru (.bl c) ek fin
 | int c=>cases (show x=_ from rp); exact xt I ru (.int c) ek fin
 | str c=>cases (show x=_ from rp); exact xt I ru (.str c) ek fin
 | ty _=>cases e
 | cn _=>cases e
 | scr _=>cases e
 | dz _=>cases e
 | exc _=>cases e
 | fd _=>cases e
 | dp _=>cases e
 | ob _ _ _=>cases e
 | lst ds=>obtain ⟨a,xs,rfl,q1,_⟩:=rp; exact xt I ru (.lst q1) ek fin
 | dk ks ds=>obtain ⟨a,xs,rfl,q1,_⟩:=rp; exact xt I ru (.dK q1) ek fin
 | dt ks ds=>obtain ⟨a,xs,rfl,q1,_⟩:=rp; exact xt I ru (.dT q1) ek fin
 | tup ds =>
  obtain ⟨a,xs,rfl,q1,_⟩:=rp
  cases (show u=Value.ref a from ru)
  obtain ⟨its,_,p,_⟩:=I.tuple q1.1
  obtain ⟨o,h1,h2,_⟩:=p
  exact W.kia_one W.kitx_tuple I.kIn ⟨o,h1,h2⟩ ek (λz=>nomatch z) fin
def sIsI:FT:=λds φ=>match ds with
 | [d,.ty T]=>match isT d T with
  | some b=>φ (dv (.bl b))
  | none=>False
 | _=>False
def xu (hm:X.mg "isinstance" = none) (ha:EA Γ X (e :: es) t) (hg:Gl X "isinstance":=by rfl) (he:starEach (e :: es) X.env=(false,eval e X.env) :: starEach es X.env:=by rfl) (hpl:(backTo pos (starEach es X.env)).any (·.1)=false:=by rfl):ED Γ X (.Call (.Name "isinstance" p) (e :: es) [] pos) (dCB sIsI t) :=
 wl N4 (λH O ds vs φ Q ho hv h k=>by
  unfold sIsI at h
  split at h
  ·split at h
   ·rename_i d T b eb
    obtain ⟨v,ws,rfl,h1,v2,ws2,rfl,h2,rfl⟩:=hv
    cases (show v2=_ from h2)
    exact ⟨_,v,_,_,rfl,h1.rep0,eb,k _ _ H (Same.refl H) (by exact rfl) h⟩
   ·exact h.elim
  ·exact h.elim) hm su ha hg (by decide) (by decide) he hpl
def sTupC:FT:=λds φ=>match ds with
 | [.lst l]=>φ (dv (.tup l))
 | [.tup l]=>φ (dv (.tup l))
 | _=>False
def xb (hm:X.mg "tuple" = none) (ha:EA Γ X (e :: es) t) (hg:Gl X "tuple":=by rfl) (he:starEach (e :: es) X.env=(false,eval e X.env) :: starEach es X.env:=by rfl) (hpl:(backTo pos (starEach es X.env)).any (·.1)=false:=by rfl):ED Γ X (.Call (.Name "tuple" p) (e :: es) [] pos) (dCB sTupC t) :=
 uk d7 (λH O ds vs φ Q ho hv h k=>by
  unfold sTupC at h
  split at h
  ·obtain ⟨v,ws,rfl,⟨a,xs,rfl,q,r⟩,rfl⟩:=hv
   exact ⟨a,xs,rfl,.inl ⟨SqL.of q,λl hl=>k _ _ _ (zr hl _) (qe hl r) h⟩⟩
  ·obtain ⟨v,ws,rfl,⟨a,xs,rfl,q,r⟩,rfl⟩:=hv
   exact ⟨a,xs,rfl,.inr ⟨q.1,k (.ref a) (dv (.tup _)) H (Same.refl H) ⟨a,xs,rfl,q,r⟩ h⟩⟩
  ·exact h.elim) hm wm ha hg (by decide) (by decide) he hpl
def sListC:FT:=λds φ=>match ds with
 | [.lst l]=>φ (df (.lst l))
 | [.tup l]=>φ (df (.lst l))
 | _=>False
def Oq (hm:X.mg "list" = none) (ha:EA Γ X (e :: es) t) (hg:Gl X "list":=by rfl) (he:starEach (e :: es) X.env=(false,eval e X.env) :: starEach es X.env:=by rfl) (hpl:(backTo pos (starEach es X.env)).any (·.1)=false:=by rfl):ED Γ X (.Call (.Name "list" p) (e :: es) [] pos) (dCB sListC t) :=
 uk Zn (λH O ds vs φ Q ho hv h k=>by
  unfold sListC at h
  split at h
  ·obtain ⟨v,ws,rfl,⟨a,xs,rfl,q,r⟩,rfl⟩:=hv
   exact ⟨a,xs,rfl,.inl (SqL.of q),λl hl=>k _ _ _ (zr hl _) (vd ho hl r) h⟩
  ·obtain ⟨v,ws,rfl,⟨a,xs,rfl,q,r⟩,rfl⟩:=hv
   exact ⟨a,xs,rfl,.inr q.1,λl hl=>k _ _ _ (zr hl _) (vd ho hl r) h⟩
  ·exact h.elim) hm Vx ha hg (by decide) (by decide) he hpl
def sIntC:FT:=λds φ=>match ds with
 | [.bl b]=>φ (dv (.int (if b then 1 else 0)))
 | [.int i]=>φ (dv (.int i))
 | _=>False
def Jg (hm:X.mg "int" = none) (ha:EA Γ X (e :: es) t) (hg:Gl X "int":=by rfl) (he:starEach (e :: es) X.env=(false,eval e X.env) :: starEach es X.env:=by rfl) (hpl:(backTo pos (starEach es X.env)).any (·.1)=false:=by rfl):ED Γ X (.Call (.Name "int" p) (e :: es) [] pos) (dCB sIntC t) :=
 uk Q4 (λH O ds vs φ Q ho hv h k=>by
  unfold sIntC at h
  split at h
  ·obtain ⟨v,ws,rfl,h1,rfl⟩:=hv
   cases (show v=_ from h1)
   exact .inr ⟨_,rfl,k _ _ H (Same.refl H) (by exact rfl) h⟩
  ·obtain ⟨v,ws,rfl,h1,rfl⟩:=hv
   cases (show v=_ from h1)
   exact .inl ⟨_,rfl,k _ _ H (Same.refl H) (by exact rfl) h⟩
  ·exact h.elim) hm ku ha hg (by decide) (by decide) he hpl
end
section
variable {X:Cx} {x:Str} {e:Expr} {te:TD} {apos np cpos pos:Pos}
def sApp (i:Nat) (te:TD):TDS:=λρ Z=>match slot ρ i with
 | some ⟨.own,.lst ds⟩=>te ρ λr=>(match r.k with | .own=>False | _=>True) /\ ds.length <= 100000 /\ Z.nx (setS ρ i (dO (.lst (ds ++ [r.d]))))
 | _=>False
def u4 (i:Nat) (he:ED Γ X e te) (hN:X.N[i]?=some x:=by rfl) (hv:Vis X.env.scope x:=by first | exact Or.inl rfl | exact Or.inr (Or.inl rfl) | exact Or.inr (Or.inr rfl)) (hd:(x == ("__debug__" : Str))=false:=by decide)
  (hcd:(x == ("__classdict__" : Str))=false:=by decide)
  (hp:∀ {ta tb:TE},PE X (.Name x np) ta->PE X e tb->PS X (.Expr (.Call (.Attribute (.Name x np) "append" apos) [e] [] cpos) pos) (Qp (tBM X.K "list" Yc ta (Ug tb tNil))):=by
   intro ta tb h1 h2
   exact gf (Pj PySem.F.plainAttrs_list PySem.F.slot_list_append PySem.F.type_list_append qk h1 (xx h2 tm))) :
  SD Γ X (.Expr (.Call (.Attribute (.Name x np) "append" apos) [e] [] cpos) pos) (sApp i te):=λH₀=>impS (hp (wa hN hv hd hcd) (he H₀)) λD σ H h=>by
 obtain ⟨ρ,o,R,Z,hZ,k1,k2,k3,k4⟩:=h
 unfold sApp at hZ
 split at hZ
 ·rename_i ds es
  obtain ⟨v0,ev0,q0⟩:=R.slots i _ (yi es)
  rcases q0 with ⟨k,_⟩ | ⟨_,a,rfl,m,c⟩
  ·cases k
  obtain ⟨xs,hx,rx⟩:=c
  refine ⟨.ref a,ev0,.inl ⟨rfl,xs,SqL.of hx⟩,?_⟩
  refine ⟨ρ,o,R,_,hZ,λv r H1 s1 rv h1=>?_⟩
  obtain ⟨h0,hl,hn⟩:=h1
  have hx1:=s1 _ _ hx
  have R1:=R.to s1
  have rx1:=Reps.grow (Grow.same s1) _ _ rx
  refine ⟨a,xs,v,rfl,rfl,hx1,?_,?_⟩
  ·rw [rx.length]
   exact Nat.lt_of_le_of_lt hl (by decide)
  ·obtain ⟨R2,g2⟩:=R1.chg (d':=.lst (ds ++ [r.d])) (ho:=.lst (xs ++ [v])) (yi es) ev0 m ⟨λ_ z=>(by cases z),λ_ _ z=>(by cases z)⟩ λgr=>⟨xs ++ [v],zh,gr _ _ (rx1.append (Reps.one (rv.solid (wo h0))))⟩
   exact k1 _ σ _ o ((Grow.same s1).trans g2) R2 hn
 ·exact hZ.elim
end
section
variable {P:Program} {w:World} {K:W.Frag} {mg:Str->Option Value} {base:Heap}
def q5 (n:Nat) (ds:List D):DE:=ds.map (λd=>some (dv d)) ++ List.replicate (n - ds.length) none
def M0 {x qual:Str} {st:Stmt} {f:Addr} {fd:FuncData} {N ps:List Str} {k:Nat} {T:FT} (F:Fun K x qual st f fd) (S:zw N ps (za st))
  (qY:∀ (qZ:Value) (A:Around) (outer:List Env) (s:Shared) (H:Hp) (E:XK) (ds:List D) (φ:EV->Prop),Room k (A.deeper (envOfC qual (za st) s.heap.objs.size f qZ))->ds.length=ps.length->T ds φ ->
   ∃ t,SDs (λ_=>True) (cxOf CX0 P w K mg base N qual (za st) f qZ A outer s H E).nox (zp st) t /\ t (q5 N.length ds) { nx:=λ_=>φ (dv .non),rt:=λr=>ww r /\ φ r }):FnOk P w K mg base CX0 (k + 1) f fd ps (spD K ps.length T):=by
 refine F.ok S (λvs H Q E h=>?_) (λqZ A outer s H vs Q E hr h=>?_)
 ·obtain ⟨ds,φ,hl,r,_⟩:=h
  rw [r.length,hl]
 ·obtain ⟨ds,φ,hl,r,hT,kk⟩:=h
  obtain ⟨t,ht,hq⟩:=qY qZ A outer s H E ds φ hr hl hT
  have rl:=r.length
  refine ⟨O1 K H t,ht ⟨H,trivial⟩,q5 N.length ds,[],⟨Same.refl H,(λ_ z=>absurd z (by simp)),(λ_ z=>absurd z (by simp)),(λ_ z=>absurd z (by simp)),List.nodup_nil,λi r' e=>?_,?_⟩,_,hq,λρ' σ' H' o' g R' q=>?_,λ_ _ _ _ _ _ q=>q.elim,λ_ _ _ _ _ _ q=>q.elim,λv r' H' s' rv q=>kk v r' H' s' rv q.1 q.2⟩
  ·unfold q5 at e
   rcases Nat.lt_or_ge i ds.length with hi | hi
   ·rw [List.getElem?_append_left (by simpa using hi),zai] at e
    have ed:ds[i]?=some ds[i]:=by simp [hi]
    rw [ed] at e
    have e':some (dv ds[i])=some r':=Option.some.inj e
    cases e'
    obtain ⟨v,ev,rv⟩:=r.get ed
    refine ⟨v,?_,.inl ⟨rfl,rv⟩⟩
    unfold L2.start
    rw [List.getElem?_append_left (by rw [zLm,rl]; exact hi),zai,ev]
    rfl
   ·rw [List.getElem?_append_right (by simpa using hi),List.getElem?_replicate] at e
    split at e <;> cases e
  ·unfold L2.start q5
   simp [rl]
  ·exact kk .non (dv .non) H' R'.same rfl trivial q
def yz {x qual:Str} {st:Stmt} {f:Addr} {fd:FuncData} {N ps:List Str} {k:Nat} {T:FT} (F:Fun K x qual st f fd) (S:zw N ps (za st)) (b:dg K fd ps []) (m:mg x=some (.ref f))
  (qY:∀ (qZ:Value) (A:Around) (outer:List Env) (s:Shared) (H:Hp) (E:XK) (ds:List D) (φ:EV->Prop),Room k (A.deeper (envOfC qual (za st) s.heap.objs.size f qZ))->ds.length=ps.length->T ds φ ->
   ∃ t,SDs (λ_=>True) (cxOf CX0 P w K mg base N qual (za st) f qZ A outer s H E).nox (zp st) t /\ t (q5 N.length ds) { nx:=λ_=>φ (dv .non),rt:=λr=>ww r /\ φ r }):FD P w K mg base (k + 1) x ps T:=⟨f,fd,M0 F S qY,b,F.kp,m⟩
end
def lawT:FT:=λds φ=>∃ ns:List Int,ds=[.scr ns] /\ ns.length <= 63 /\ φ (dv (.bl true))
def walkD {l:W.OpenLaw} {q:Program} {loose:List Str} {XP:(Str->Option Value)->Heap->Prop} {YP:World->Heap->Prop} {d:DefRec} {K:Params->W.Frag} {x:Str} {k:Nat} (hn:l.most=some 63) (hdf:d.params.defaults=[]) (hr:Room k callerA)
  (hY:∀ (w:World) (h:Heap),YP w h->(K w.params).In h)
  (F:∀ (w:World) (mg:Str->Option Value) (fa:Addr) (h:Heap),(K w.params).In h->h.Ns mainGlobals mg->mg d.name=some (.ref fa) ->
   ∃ fd:FuncData,(∀ (s:Shared) (u:Value),BindsTo s fd ⟨[u],[]⟩ [(x,u)]) /\ ∀ base:Heap,(K w.params).In base->base.Ns mainGlobals mg->FnOk l.prog w (K w.params) mg base CX0 k fa fd [x] (spD (K w.params) 1 lawT)) :
  W.WalkO q loose XP YP l.row.toRowW d [] (λf vs=>PySem.call f vs) :=
 L2.walk_of (n:=63) (k:=k) (x:=x) (CX:=λ_=>CX0) (sp:=λw=>spD (K w.params) 1 lawT) hn (by decide) hdf hr hY F (λw H a ns hl ho hS=>by
  refine ⟨[.scr ns],λr=>r=dv (.bl true),rfl,⟨.ref a,[],rfl,⟨a,rfl,?_⟩,rfl⟩,⟨ns,rfl,hl,rfl⟩,λv r H' s rv p e=>by subst e; exact rv⟩
  rcases hS with (h | ⟨o,h⟩) | h
  ·rcases ho a with z | ⟨o,xs,z⟩
   ·rw [z] at h; cases h
   ·rw [z] at h; cases h
  ·exact .inl ⟨o,h⟩
  ·exact .inr h) λ_ _ _ _ _ z=>z
end DL
namespace L3
open PySem PySem.Spec PyProof.Rows
section
variable {P:Program} {w:World} {A:Around} {E:Value->Shared->Prop} {s:Shared}
def Vf {it l:Addr} {i:Nat} {xs:Array Value} {x:Value} {Q:Value->Shared->Prop} (hi:s.heap.IsTupleIter it l i) (hl:s.heap.IsTuple l xs) (hx:xs[i]?=some x)
  (hQ:∀ g,g.IsTupleIter it l (i + 1)->Heap.SameBut it s.heap g->Q x { s with heap:=g }):wpAny (model P w) A (Builtin.SmallTypes.nextOf (.ref it)) Q E s:=by
 obtain ⟨o,ho,hc,hd⟩:=id hi
 obtain ⟨ol,hol,_,nl,hdl⟩:=hl
 unfold Builtin.SmallTypes.nextOf
 refine zaa (wpAny_callSpecial?_slot (name:=Str.ofString "__next__") hi.typeIs F.slot_tuple_iterator_next (wpAny_call_entry F.slot_tuple_iterator_next hi.typeIs F.entry_tuple_iterator_next ?_ (F.args_tuple_iterator_next_1 _)))
 show wpAny _ _ (field (.ref it) 0 >>= _) _ _ s
 refine zaa (wpAny_field ho hd (x:=.ref l) rfl ?_)
 show wpAny _ _ (if (Value.ref l == Value.none)=true then _ else _) _ _ s
 rw [if_neg (show ¬ ((Value.ref l == Value.none)=true) from Bool.false_ne_true)]
 show wpAny _ _ (field (.ref it) 1 >>= _) _ _ s
 refine zaa (wpAny_field ho hd (x:=.int i 0) rfl ?_)
 show wpAny _ _ (seqItems? (.ref l) >>= _) _ _ s
 refine zaa (wpAny_seqItems hol hdl ?_)
 simp only [Int.toNat_natCast,hx]
 refine zaa (wpAny_setField ho hd (by simp) (zab ⟨x,rfl,zab (hQ _ ⟨_,Heap.get?_update_self _ ho (Obj.isFreed_of_fields (Obj.data_mapFields hd _)),(Obj.cls_mapFields ..).trans hc,?_⟩ (Heap.SameBut.update ..))⟩))
 rw [Obj.data_mapFields hd]
 simp [rawInt]
def S6 {it l:Addr} {i:Nat} {xs:Array Value} {Q:Value->Shared->Prop} (hh:A.handled=none) (hi:s.heap.IsTupleIter it l i) (hl:s.heap.IsTuple l xs) (hx:xs[i]?=none)
  (hE:∀ g e,Heap.ExtBut it s.heap g->(∃ o,g.get? e=some o /\ o.cls=.type "StopIteration")->E (.ref e) { s with heap:=g }):wpAny (model P w) A (Builtin.SmallTypes.nextOf (.ref it)) Q E s:=by
 obtain ⟨o,ho,hc,hd⟩:=id hi
 obtain ⟨ol,hol,_,nl,hdl⟩:=hl
 unfold Builtin.SmallTypes.nextOf
 refine zaa (wpAny_callSpecial?_slot (name:=Str.ofString "__next__") hi.typeIs F.slot_tuple_iterator_next (wpAny_call_entry F.slot_tuple_iterator_next hi.typeIs F.entry_tuple_iterator_next ?_ (F.args_tuple_iterator_next_1 _)))
 show wpAny _ _ (field (.ref it) 0 >>= _) _ _ s
 refine zaa (wpAny_field ho hd (x:=.ref l) rfl ?_)
 show wpAny _ _ (if (Value.ref l == Value.none)=true then _ else _) _ _ s
 rw [if_neg (show ¬ ((Value.ref l == Value.none)=true) from Bool.false_ne_true)]
 show wpAny _ _ (field (.ref it) 1 >>= _) _ _ s
 refine zaa (wpAny_field ho hd (x:=.int i 0) rfl ?_)
 show wpAny _ _ (seqItems? (.ref l) >>= _) _ _ s
 refine zaa (wpAny_seqItems hol hdl ?_)
 simp only [Int.toNat_natCast,hx]
 refine zaa (wpAny_rule (zaa (wpAny_setField ho hd (by simp) ?_)))
 show wpAny _ _ (newExc (.type "StopIteration") [] >>= _) _ _ _
 refine zaa ?_
 simp only [newExc,newTuple]
 refine zaa (wpAny_newObj_type ?_ (by size_fits))
 refine zaa (m:=firstArgMember _ _) (wpAny_of_eq (a:=Value.none) (by first | rfl | (simp only [firstArgMember]; rfl)) ?_)
 refine wpAny_newObj_type ?_ (by size_fits)
 simp only [raiseNew]
 refine zaa (wpAny_handled ?_)
 first | rw [show A.in1.handled=none from hh] | rw [hh]
 exact zaa (zab (wpAny_throw (hE _ _ (((Heap.SameBut.update ..).extBut.push _).push _) ⟨_,zad _ rfl,rfl⟩)))
def SqAt (b:Bool) (h:Heap) (l:Addr) (xs:Array Value):Prop:=match b with
 | true=>h.IsTuple l xs
 | false=>h.IsList l xs
def ItAt (b:Bool) (h:Heap) (it l:Addr) (i:Nat):Prop:=match b with
 | true=>h.IsTupleIter it l i
 | false=>h.IsListIter it l i
def SqAt.at {b:Bool} {h g:Heap} {l:Addr} {xs:Array Value} (x:SqAt b h l xs) (k:∀ o,h.get? l=some o->g.get? l=some o):SqAt b g l xs:=by
 cases b with
 | true=>exact Heap.IsTuple.at (show h.IsTuple l xs from x) k
 | false=>exact Heap.IsList.at (show h.IsList l xs from x) k
def ItAt.at {b:Bool} {h g:Heap} {it l:Addr} {i:Nat} (x:ItAt b h it l i) (k:∀ o,h.get? it=some o->g.get? it=some o):ItAt b g it l i:=by
 cases b with
 | true=>exact Heap.IsTupleIter.at (show h.IsTupleIter it l i from x) k
 | false=>exact Heap.IsListIter.at (show h.IsListIter it l i from x) k
def uy {b:Bool} {it l:Addr} {i:Nat} {xs:Array Value} {x:Value} {Q:Value->Shared->Prop} (hi:ItAt b s.heap it l i) (hl:SqAt b s.heap l xs) (hx:xs[i]?=some x)
  (hQ:∀ g,ItAt b g it l (i + 1)->Heap.SameBut it s.heap g->Q x { s with heap:=g }):wpAny (model P w) A (Builtin.SmallTypes.nextOf (.ref it)) Q E s:=by
 cases b with
 | true=>exact Vf hi hl hx hQ
 | false=>exact wpAny_nextOf_list_item hi hl hx hQ
def cx {b:Bool} {it l:Addr} {i:Nat} {xs:Array Value} {Q:Value->Shared->Prop} (hh:A.handled=none) (hi:ItAt b s.heap it l i) (hl:SqAt b s.heap l xs) (hx:xs[i]?=none)
  (hE:∀ g e,Heap.ExtBut it s.heap g->(∃ o,g.get? e=some o /\ o.cls=.type "StopIteration")->E (.ref e) { s with heap:=g }):wpAny (model P w) A (Builtin.SmallTypes.nextOf (.ref it)) Q E s:=by
 cases b with
 | true=>exact S6 hh hi hl hx hE
 | false=>exact wpAny_nextOf_list_end hh hi hl hx hE
structure ZAt (b1 b2:Bool) (g:Heap) (z ti to i1 i2 l1 l2:Addr) (f:Value) (k:Nat):Prop where
 zz:IsZip g z ti to f
 its:IsPair g ti (.ref i1) (.ref i2)
 out:∃ a b,IsPair g to a b
 one:ItAt b1 g i1 l1 k
 two:ItAt b2 g i2 l2 k
structure ZNe (z ti to i1 i2:Addr):Prop where
 ab:ti ≠ z
 ac:to ≠ z
 ad:i1 ≠ z
 ae:i2 ≠ z
 bc:ti ≠ to
 bd:ti ≠ i1
 be:ti ≠ i2
 cd:to ≠ i1
 ce:to ≠ i2
 de:i1 ≠ i2
def ZOff (z to i1 i2 c:Addr):Prop:=c ≠ z /\ c ≠ to /\ c ≠ i1 /\ c ≠ i2
def Qh {b1 b2:Bool} {z ti to i1 i2 l1 l2:Addr} {k:Nat} {xs ys:Array Value} {x y:Value} {Q:Value->Shared->Prop} (D:ZNe z ti to i1 i2) (d1:ZOff z to i1 i2 l1) (d2:ZOff z to i1 i2 l2) (Z:ZAt b1 b2 s.heap z ti to i1 i2 l1 l2 .none k)
  (t1:SqAt b1 s.heap l1 xs) (t2:SqAt b2 s.heap l2 ys) (hx:xs[k]?=some x) (hy:ys[k]?=some y)
  (hQ:∀ g,ZAt b1 b2 g z ti to i1 i2 l1 l2 (rawInt s.heap.objs.size) (k + 1)->IsPair g s.heap.objs.size x y->(∀ c o,ZOff z to i1 i2 c->s.heap.get? c=some o->g.get? c=some o)->Q (.ref s.heap.objs.size) { s with heap:=g }) :
  wpAny (model P w) A (Builtin.«zip.__next__» ⟨[.ref z],[]⟩) (λfin s'=>∃ v,fin=.done (.ret v) /\ Q v s') E s:=by
 obtain ⟨hz,hti,⟨a,b,hto⟩,h1,h2⟩:=Z
 show wpAny _ _ (field (.ref z) 2 >>= _) _ _ _
 refine zaa (wpAny_field hz rfl (x:=.bool false) rfl ?_)
 show wpAny _ _ (field (.ref z) 3 >>= _) _ _ _
 refine zaa (wpAny_field hz rfl (x:=.ref ti) rfl ?_)
 refine zaa (wpAny_seqItems hti rfl ?_)
 show wpAny _ _ (Builtin.SmallTypes.ownedTupleIsFree (.ref z) >>= _) _ _ _
 refine zaa ?_
 unfold Builtin.SmallTypes.ownedTupleIsFree
 refine zaa (wpAny_field hz rfl (x:=.none) rfl (zab ?_))
 simp only [if_true]
 refine zaa (wpAny_rule ?_)
 refine zaa (wpAny_field hz rfl (x:=.ref to) rfl ?_)
 refine zaa (wpAny_setField_rec hz (by simp) λg1 z1 s1=>?_)
 replace z1:IsZip g1 z ti to .ellipsis:=z1
 refine zaa ?_
 simp only [List.zipIdx_cons,List.zipIdx_nil,List.forIn_cons,List.forIn_nil]
 refine zaa (zaa (wpAny_onRaise ?_))
 show wpAny _ _ (Builtin.SmallTypes.nextOf (.ref i1) >>= _) _ _ _
 refine zaa (uy (h1.at λo e=>s1.extBut _ o D.ad e) (t1.at λo e=>s1.extBut _ o d1.1 e) hx λg2 p2 s2=>zab ?_)
 have to2:IsPair g2 to a b:=s2.extBut _ _ D.cd (s1.extBut _ _ D.ac hto)
 refine zaa (wpAny_seqItems to2 rfl (zaa (wpAny_updateSeq_pair to2 λg3 to3 s3=>?_)))
 replace to3:IsPair g3 to x b:=to3
 refine zaa (wpAny_letGo (zab (zaa (zaa (wpAny_onRaise ?_)))))
 show wpAny _ _ (Builtin.SmallTypes.nextOf (.ref i2) >>= _) _ _ _
 refine zaa (uy (h2.at λo e=>s3.extBut _ o D.ce.symm (s2.extBut _ o D.de.symm (s1.extBut _ o D.ae e))) (t2.at λo e=>s3.extBut _ o d2.2.1 (s2.extBut _ o d2.2.2.1 (s1.extBut _ o d2.1 e))) hy λg4 p4 s4=>zab ?_)
 have to4:IsPair g4 to x b:=s4.extBut _ _ D.ce to3
 refine zaa (wpAny_seqItems to4 rfl (zaa (wpAny_updateSeq_pair to4 λg5 to5 s5=>?_)))
 replace to5:IsPair g5 to x y:=to5
 refine zaa (wpAny_letGo (zab (zab (zaa (wpAny_seqItems to5 rfl (zaa (wpAny_newTuple ?_)))))))
 have sz:g5.objs.size=s.heap.objs.size:=by rw [s5.1,s4.1,s3.1,s2.1,s1.1]
 have z5:IsZip g5 z ti to .ellipsis:=s5.extBut _ _ D.ac.symm (s4.extBut _ _ D.ae.symm (s3.extBut _ _ D.ac.symm (s2.extBut _ _ D.ad.symm z1)))
 have kp5:∀ c o,ZOff z to i1 i2 c->s.heap.get? c=some o->g5.get? c=some o:=λc o q e=>s5.extBut _ _ q.2.1 (s4.extBut _ _ q.2.2.2 (s3.extBut _ _ q.2.1 (s2.extBut _ _ q.2.2.1 (s1.extBut _ _ q.1 e))))
 have q1:ItAt b1 g5 i1 l1 (k + 1):=p2.at λo e=>s5.extBut _ o D.cd.symm (s4.extBut _ o D.de (s3.extBut _ o D.cd.symm e))
 have q2:ItAt b2 g5 i2 l2 (k + 1):=p4.at λo e=>s5.extBut _ o D.ce.symm e
 have lz:z < g5.objs.size:=zae z5
 show wpAny _ _ (Builtin.SmallTypes.ownedTupleHandOut (.ref z) (.ref g5.objs.size) >>= _) _ _ _
 refine zaa ?_
 unfold Builtin.SmallTypes.ownedTupleHandOut
 have z6:IsZip (g5.push { cls:=.type "tuple", data:=.seq #[x,y] }) z ti to .ellipsis:=zac _ z5
 refine zaa (wpAny_setField_rec z6 (by simp) λg7 z7 s7=>?_)
 replace z7:IsZip g7 z ti to (rawInt g5.objs.size):=z7
 refine wpAny_setField_rec z7 (by simp) λg8 z8 s8=>?_
 replace z8:IsZip g8 z ti to (rawInt g5.objs.size):=z8
 have up:∀ c o,c ≠ z->g5.get? c=some o->g8.get? c=some o:=λc o c1 e=>s8.extBut _ _ c1 (s7.extBut _ _ c1 (zac _ e))
 have pr:IsPair g8 g5.objs.size x y:=s8.extBut _ _ (Nat.ne_of_gt lz) (s7.extBut _ _ (Nat.ne_of_gt lz) (zad _ rfl))
 rw [sz] at z8 pr
 refine zab ⟨_,rfl,?_⟩
 show Q (.ref g5.objs.size) _
 rw [sz]
 exact hQ g8 ⟨z8,up _ _ D.ab (kp5 _ _ ⟨D.ab,D.bc,D.bd,D.be⟩ hti),⟨_,_,up _ _ D.ac to5⟩,q1.at λo e=>up _ o D.ad e,q2.at λo e=>up _ o D.ae e⟩ pr λc o q e=>up c o q.1 (kp5 c o q e)
def Mm {b1 b2:Bool} {z ti to i1 i2 l1 l2:Addr} {k:Nat} {xs ys:Array Value} {Q:Fin->Shared->Prop} (hh:A.handled=none) (D:ZNe z ti to i1 i2) (d1:ZOff z to i1 i2 l1) (d2:ZOff z to i1 i2 l2) (Z:ZAt b1 b2 s.heap z ti to i1 i2 l1 l2 .none k)
  (t1:SqAt b1 s.heap l1 xs) (t2:SqAt b2 s.heap l2 ys) (hend:xs[k]?=none \/ ys[k]?=none)
  (hE:∀ g e,(∀ c o,ZOff z to i1 i2 c->s.heap.get? c=some o->g.get? c=some o)->(∃ o,g.get? e=some o /\ o.cls=.type "StopIteration")->E (.ref e) { s with heap:=g }) :
  wpAny (model P w) A (Builtin.«zip.__next__» ⟨[.ref z],[]⟩) Q E s:=by
 obtain ⟨hz,hti,⟨a,b,hto⟩,h1,h2⟩:=Z
 show wpAny _ _ (field (.ref z) 2 >>= _) _ _ _
 refine zaa (wpAny_field hz rfl (x:=.bool false) rfl ?_)
 show wpAny _ _ (field (.ref z) 3 >>= _) _ _ _
 refine zaa (wpAny_field hz rfl (x:=.ref ti) rfl ?_)
 refine zaa (wpAny_seqItems hti rfl ?_)
 show wpAny _ _ (Builtin.SmallTypes.ownedTupleIsFree (.ref z) >>= _) _ _ _
 refine zaa ?_
 unfold Builtin.SmallTypes.ownedTupleIsFree
 refine zaa (wpAny_field hz rfl (x:=.none) rfl (zab ?_))
 simp only [if_true]
 refine zaa (wpAny_rule ?_)
 refine zaa (wpAny_field hz rfl (x:=.ref to) rfl ?_)
 refine zaa (wpAny_setField_rec hz (by simp) λg1 z1 s1=>?_)
 replace z1:IsZip g1 z ti to .ellipsis:=z1
 refine zaa ?_
 simp only [List.zipIdx_cons,List.zipIdx_nil,List.forIn_cons,List.forIn_nil]
 refine zaa (zaa (wpAny_onRaise ?_))
 show wpAny _ _ (Builtin.SmallTypes.nextOf (.ref i1) >>= _) _ _ _
 cases hx:xs[k]? with
 | none =>
  refine zaa (cx hh (h1.at λo e=>s1.extBut _ o D.ad e) (t1.at λo e=>s1.extBut _ o d1.1 e) hx λg2 e s2 he=>?_)
  obtain ⟨oe,hoe,hce⟩:=he
  have z2:IsZip g2 z ti to .ellipsis:=s2 _ _ D.ad.symm z1
  have ez:e ≠ z:=λx=>by subst x; rw [z2] at hoe; cases hoe; simp at hce
  exact wpAny_setField_rec z2 (by simp) λg3 _ s3=>hE g3 e (λc o q x=>s3.extBut _ _ q.1 (s2 _ _ q.2.2.1 (s1.extBut _ _ q.1 x))) ⟨oe,s3.extBut _ _ ez hoe,hce⟩
 | some x =>
  have hy:ys[k]?=none:=by rcases hend with h | h; rw [hx] at h; cases h; exact h
  refine zaa (uy (h1.at λo e=>s1.extBut _ o D.ad e) (t1.at λo e=>s1.extBut _ o d1.1 e) hx λg2 p2 s2=>zab ?_)
  have to2:IsPair g2 to a b:=s2.extBut _ _ D.cd (s1.extBut _ _ D.ac hto)
  refine zaa (wpAny_seqItems to2 rfl (zaa (wpAny_updateSeq_pair to2 λg3 to3 s3=>?_)))
  refine zaa (wpAny_letGo (zab (zaa (zaa (wpAny_onRaise ?_)))))
  show wpAny _ _ (Builtin.SmallTypes.nextOf (.ref i2) >>= _) _ _ _
  refine zaa (cx hh (h2.at λo e=>s3.extBut _ o D.ce.symm (s2.extBut _ o D.de.symm (s1.extBut _ o D.ae e))) (t2.at λo e=>s3.extBut _ o d2.2.1 (s2.extBut _ o d2.2.2.1 (s1.extBut _ o d2.1 e))) hy λg4 e s4 he=>?_)
  obtain ⟨oe,hoe,hce⟩:=he
  have z4:IsZip g4 z ti to .ellipsis:=s4 _ _ D.ae.symm (s3.extBut _ _ D.ac.symm (s2.extBut _ _ D.ad.symm z1))
  have ez:e ≠ z:=λx=>by subst x; rw [z4] at hoe; cases hoe; simp at hce
  exact wpAny_setField_rec z4 (by simp) λg5 _ s5=>hE g5 e (λc o q x=>s5.extBut _ _ q.1 (s4 _ _ q.2.2.2 (s3.extBut _ _ q.2.1 (s2.extBut _ _ q.2.2.1 (s1.extBut _ _ q.1 x))))) ⟨oe,s5.extBut _ _ ez hoe,hce⟩
def S5 {b1 b2:Bool} {z ti to i1 i2 l1 l2:Addr} {k:Nat} {xs ys:Array Value} {x y:Value} {Q:Option Value->Shared->Prop} (D:ZNe z ti to i1 i2) (d1:ZOff z to i1 i2 l1) (d2:ZOff z to i1 i2 l2) (Z:ZAt b1 b2 s.heap z ti to i1 i2 l1 l2 .none k)
  (t1:SqAt b1 s.heap l1 xs) (t2:SqAt b2 s.heap l2 ys) (hx:xs[k]?=some x) (hy:ys[k]?=some y)
  (hQ:∀ g,ZAt b1 b2 g z ti to i1 i2 l1 l2 (rawInt s.heap.objs.size) (k + 1)->IsPair g s.heap.objs.size x y->(∀ c o,ZOff z to i1 i2 c->s.heap.get? c=some o->g.get? c=some o)->Q (some (.ref s.heap.objs.size)) { s with heap:=g }) :
  wpAny (model P w) A (pyNext (.ref z)) Q E s:=by
 have ty:s.TypeIs (.ref z) "zip":=⟨_,Z.zz,rfl⟩
 unfold pyNext
 exact zaa (wpAny_attempt (wpAny_callSpecial?_slot (name:=Str.ofString "__next__") ty F.slot_zip_next (wpAny_call_entry F.slot_zip_next ty F.entry_zip_next (Qh D d1 d2 Z t1 t2 hx hy λg a b c=>zab (hQ g a b c)) (F.args_zip_next_1 _))))
def Pp {b1 b2:Bool} {z ti to i1 i2 l1 l2:Addr} {k:Nat} {xs ys:Array Value} {Q:Option Value->Shared->Prop} (hh:A.handled=none) (D:ZNe z ti to i1 i2) (d1:ZOff z to i1 i2 l1) (d2:ZOff z to i1 i2 l2) (Z:ZAt b1 b2 s.heap z ti to i1 i2 l1 l2 .none k)
  (t1:SqAt b1 s.heap l1 xs) (t2:SqAt b2 s.heap l2 ys) (hend:xs[k]?=none \/ ys[k]?=none)
  (hQ:∀ g,(∀ c o,ZOff z to i1 i2 c->s.heap.get? c=some o->g.get? c=some o)->Q none { s with heap:=g }):wpAny (model P w) A (pyNext (.ref z)) Q E s:=by
 have ty:s.TypeIs (.ref z) "zip":=⟨_,Z.zz,rfl⟩
 unfold pyNext
 refine zaa (wpAny_attempt (wpAny_callSpecial?_slot (name:=Str.ofString "__next__") ty F.slot_zip_next (wpAny_call_entry F.slot_zip_next ty F.entry_zip_next (Mm hh D d1 d2 Z t1 t2 hend λg e kp he=>?_) (F.args_zip_next_1 _))))
 obtain ⟨o,ho,hc⟩:=he
 refine zaa (wpAny_isInstance (T:="StopIteration") (b:=true) ⟨o,ho,hc⟩ isSubtype_stop ?_)
 exact zab (hQ _ kp)
def Ny (b:Bool):String:=match b with
 | true=>"tuple_iterator"
 | false=>"list_iterator"
abbrev zh1 (b1:Bool) (h:Heap) (l1:Addr):Heap:=h.push { cls:=.type (Ny b1),data:=.fields #[.ref l1,.int 0 0] }
abbrev zh2 (b1 b2:Bool) (h:Heap) (l1 l2:Addr):Heap:=(zh1 b1 h l1).push { cls:=.type (Ny b2),data:=.fields #[.ref l2,.int 0 0] }
abbrev zh3 (b1 b2:Bool) (h:Heap) (l1 l2:Addr):Heap:=(zh2 b1 b2 h l1 l2).push { cls:=.type "tuple", data:=.seq #[.ref h.objs.size,.ref (zh1 b1 h l1).objs.size] }
abbrev zh4 (b1 b2:Bool) (h:Heap) (l1 l2:Addr):Heap:=(zh3 b1 b2 h l1 l2).push { cls:=.type "tuple", data:=.seq #[.none,.none] }
abbrev zh5 (b1 b2:Bool) (h:Heap) (l1 l2:Addr):Heap:=(zh4 b1 b2 h l1 l2).push { cls:=.type "zip", data:=.fields #[.none,.bool false,.bool false,.ref (zh2 b1 b2 h l1 l2).objs.size,.ref (zh3 b1 b2 h l1 l2).objs.size] }
def Mi (b1 b2:Bool) (l1 l2:Addr) (xs ys:Array Value) :
  Meets (Builtin.«zip.__new__» ⟨[.type "zip", .ref l1,.ref l2],[]⟩) (λ_ R s=>SqAt b1 s.heap l1 xs /\ SqAt b2 s.heap l2 ys /\ R (.ok (.ret (.ref (zh4 b1 b2 s.heap l1 l2).objs.size))) { s with heap:=zh5 b1 b2 s.heap l1 l2 }) :=
 .of_wp λprog w A R s h=>by
  obtain ⟨hp,g,d,tk,os⟩:=s
  obtain ⟨a1,a2,h⟩:=h
  have hsub:=sub_zip
  cases b1 <;> cases b2
  ·have b1:Heap.IsList (Shared.heap ⟨hp,g,d,tk,os⟩) l1 xs:=a1
   have b2:Heap.IsList (Shared.heap ⟨hp.push { cls:=.type "list_iterator", data:=.fields #[.ref l1,.int 0 0] },g,d,tk,os⟩) l2 ys:=Heap.IsList.push a2 _
   wp_walk using wpAny_pyIter_list b1,wpAny_pyIter_list b2
   exact ⟨_,rfl,h⟩
  ·have b1:Heap.IsList (Shared.heap ⟨hp,g,d,tk,os⟩) l1 xs:=a1
   have b2:Heap.IsTuple (Shared.heap ⟨hp.push { cls:=.type "list_iterator", data:=.fields #[.ref l1,.int 0 0] },g,d,tk,os⟩) l2 ys:=Heap.IsTuple.push a2 _
   wp_walk using wpAny_pyIter_list b1,wpAny_pyIter_tuple b2
   exact ⟨_,rfl,h⟩
  ·have b1:Heap.IsTuple (Shared.heap ⟨hp,g,d,tk,os⟩) l1 xs:=a1
   have b2:Heap.IsList (Shared.heap ⟨hp.push { cls:=.type "tuple_iterator", data:=.fields #[.ref l1,.int 0 0] },g,d,tk,os⟩) l2 ys:=Heap.IsList.push a2 _
   wp_walk using wpAny_pyIter_tuple b1,wpAny_pyIter_list b2
   exact ⟨_,rfl,h⟩
  ·have b1:Heap.IsTuple (Shared.heap ⟨hp,g,d,tk,os⟩) l1 xs:=a1
   have b2:Heap.IsTuple (Shared.heap ⟨hp.push { cls:=.type "tuple_iterator", data:=.fields #[.ref l1,.int 0 0] },g,d,tk,os⟩) l2 ys:=Heap.IsTuple.push a2 _
   wp_walk using wpAny_pyIter_tuple b1,wpAny_pyIter_tuple b2
   exact ⟨_,rfl,h⟩
def Qi {b1 b2:Bool} {l1 l2:Addr} {xs ys:Array Value} {Q:Value->Shared->Prop} (t1:SqAt b1 s.heap l1 xs) (t2:SqAt b2 s.heap l2 ys)
  (h:∀ g,ZAt b1 b2 g (s.heap.objs.size + 4) (s.heap.objs.size + 2) (s.heap.objs.size + 3) s.heap.objs.size (s.heap.objs.size + 1) l1 l2 .none 0->(∀ c o,s.heap.get? c=some o->g.get? c=some o)->Q (.ref (s.heap.objs.size + 4)) { s with heap:=g }) :
  wpAny (model P w) A (call (.type "zip") [.ref l1,.ref l2]) Q E s:=by
 refine callType_new F.called_zip (by decide) (F.typeCall_zip_2 _ _) (F.newCall_zip_2 _ _) (λobj=>F.args_object_init_3 obj _ _) F.entry_zip_new (Mi b1 b2 l1 l2 xs ys) ⟨t1,t2,?_⟩
 have n1:(zh1 b1 s.heap l1).objs.size=s.heap.objs.size + 1:=Heap.size_push ..
 have n2:(zh2 b1 b2 s.heap l1 l2).objs.size=s.heap.objs.size + 2:=by rw [Heap.size_push,n1]
 have n3:(zh3 b1 b2 s.heap l1 l2).objs.size=s.heap.objs.size + 3:=by rw [Heap.size_push,n2]
 have n4:(zh4 b1 b2 s.heap l1 l2).objs.size=s.heap.objs.size + 4:=by rw [Heap.size_push,n3]
 have g5:(zh5 b1 b2 s.heap l1 l2).get? (zh4 b1 b2 s.heap l1 l2).objs.size=some _:=zad _ rfl
 have g4:(zh5 b1 b2 s.heap l1 l2).get? (zh3 b1 b2 s.heap l1 l2).objs.size=some _:=zac _ (zad _ rfl)
 have g3:(zh5 b1 b2 s.heap l1 l2).get? (zh2 b1 b2 s.heap l1 l2).objs.size=some _:=zac _ (zac _ (zad _ rfl))
 have g2:(zh5 b1 b2 s.heap l1 l2).get? (zh1 b1 s.heap l1).objs.size=some _:=zac _ (zac _ (zac _ (zad _ rfl)))
 have g1:(zh5 b1 b2 s.heap l1 l2).get? s.heap.objs.size=some _:=zac _ (zac _ (zac _ (zac _ (zad _ rfl))))
 show _ /\ _
 rw [n2,n3,n4] at g5
 rw [n1,n2] at g3
 rw [n3] at g4
 rw [n1] at g2
 rw [n4]
 exact ⟨⟨_,g5,rfl⟩,h _ ⟨g5,g3,⟨_,_,g4⟩,(by cases b1 <;> exact ⟨_,g1,rfl,rfl⟩),(by cases b2 <;> exact ⟨_,g2,rfl,rfl⟩)⟩ λc o e=>zac _ (zac _ (zac _ (zac _ (zac _ e))))⟩
end
end L3
namespace L3
open PySem PySem.Spec L2
open PyProof.Rows hiding St
def ItAt.there {b:Bool} {h:Heap} {it l:Addr} {i:Nat} (x:ItAt b h it l i):∃ o,h.get? it=some o /\ ∀ v,o.data ≠ .cell v:=by
 cases b with
 | true =>
  obtain ⟨o,e,c,d⟩:=(show h.IsTupleIter it l i from x)
  exact ⟨o,e,λv q=>by rw [d] at q; cases q⟩
 | false =>
  obtain ⟨o,e,c,d⟩:=(show h.IsListIter it l i from x)
  exact ⟨o,e,λv q=>by rw [d] at q; cases q⟩
def SqK (b:Bool) (K:W.Frag) (H:Hp) (l:Addr) (xs:List V):Prop:=match b with
 | true=>SqT K H l xs
 | false=>SqL K H l xs
def V6 {b:Bool} {X:Cx} {pn:List (Addr × Obj)} {σ:St} {H:Hp} {s:Shared} {l:Addr} {xs:List V} (I:Inv X pn σ H s) (h:SqK b X.K H l xs):∃ its,Vals xs its /\ SqAt b s.heap l its.toArray:=by
 cases b with
 | true =>
  obtain ⟨its,r,p,_⟩:=I.tuple h
  exact ⟨its,r,(show s.heap.IsTuple l its.toArray from p)⟩
 | false =>
  obtain ⟨its,r,p,_⟩:=I.list h
  exact ⟨its,r,p.isList⟩
def Nf {b:Bool} {X:Cx} {pn:List (Addr × Obj)} {σ:St} {H:Hp} {s:Shared} {l:Addr} {xs ys:List V} (I:Inv X pn σ H s) (h:SqK b X.K H l xs) (h':SqK b X.K H l ys):xs=ys:=by
 cases b with
 | true=>exact I.tuple_inj h h'
 | false=>exact I.list_inj h h'
def xj {b:Bool} {X:Cx} {pn:List (Addr × Obj)} {σ:St} {H:Hp} {s:Shared} {l c:Addr} {xs:List V} (I:Inv X pn σ H s) (h:SqK b X.K H l xs) (f:FpOk X pn H c):l ≠ c:=by
 have kc:∀ {o:Obj},X.K.lookup l=some o->l ≠ c:=λ{o} lk z=>by
  subst z
  have e:=I.ok.mod.kin _ _ lk
  rcases f.2.2.2.1 with q | q
  ·exact I.ok.noex _ _ e q
  ·exact absurd (Nat.lt_of_lt_of_le (zae e) I.ok.bsz) (Nat.not_lt.mpr q)
 cases b with
 | true =>
  rcases h with (h | ⟨o,h⟩) | ⟨o,its,n,lk,_⟩
  ·exact zb h f.1
  ·exact zb h f.1
  ·exact kc lk
 | false =>
  rcases h with (h | ⟨o,h⟩) | ⟨o,its,n,lk,_⟩
  ·exact zb h f.1
  ·exact zb h f.1
  ·exact kc lk
def Itz (b1 b2:Bool) (K:W.Frag) (l1 l2:Addr):It :=
 ⟨λi H=>∃ xs ys x y,SqK b1 K H l1 xs /\ SqK b2 K H l2 ys /\ xs[i]?=some x /\ ys[i]?=some y,
  λi H v H'=>∃ T x y,H T=none /\ v=.ref T /\ (∀ xs,SqK b1 K H l1 xs->xs[i]?=some x) /\ (∀ ys,SqK b2 K H l2 ys->ys[i]?=some y) /\ H'=upd H T (.tup [x,y]),
  λi H=>∃ xs ys,SqK b1 K H l1 xs /\ SqK b2 K H l2 ys /\ (xs.length <= i \/ ys.length <= i)⟩
def Qk {P:Program} {w:World} {K:W.Frag} {es:List Expr} {kk:Nat} {tp:Pos} {b1 b2:Bool} {z ti to i1 i2 l1 l2:Addr} (D:ZNe z ti to i1 i2) :
  Turn P w K (.Tuple es kk tp) (Itz b1 b2 K l1 l2) [z,ti,to,i1,i2] z (λi h=>ZAt b1 b2 h z ti to i1 i2 l1 l2 .none i) where
 mem:=by simp
 obj:=λi h Z b hb=>by
  obtain ⟨hz,hti,⟨u,v,hto⟩,h1,h2⟩:=Z
  obtain ⟨o1,e1,d1⟩:=h1.there
  obtain ⟨o2,e2,d2⟩:=h2.there
  simp only [zam,List.not_mem_nil,or_false] at hb
  rcases hb with rfl | rfl | rfl | rfl | rfl
  ·exact ⟨_,hz,λv q=>(by cases q)⟩
  ·exact ⟨_,hti,λv q=>(by cases q)⟩
  ·exact ⟨_,hto,λv q=>(by cases q)⟩
  ·exact ⟨o1,e1,λv q=>d1 v q⟩
  ·exact ⟨o2,e2,λv q=>d2 v q⟩
 keep:=λi h h' Z k=>by
  obtain ⟨hz,hti,⟨u,v,hto⟩,h1,h2⟩:=Z
  exact ⟨k z (by simp) _ hz,k ti (by simp) _ hti,⟨u,v,k to (by simp) _ hto⟩,h1.at λo e=>k i1 (by simp) o e,h2.at λo e=>k i2 (by simp) o e⟩
 item:=by
  intro X hP hw hK hc i pn s σ H E I hf Z hg
  subst hP hw hK
  obtain ⟨xs,ys,x,y,e1,e2,hx,hy⟩:=hg
  obtain ⟨its1,r1,g1⟩:=V6 I e1
  obtain ⟨its2,r2,g2⟩:=V6 I e2
  obtain ⟨u,hu,ru⟩:=r1.get hx
  obtain ⟨v,hv,rv⟩:=r2.get hy
  have fz:=hf z (by simp)
  have fto:=hf to (by simp)
  have f1:=hf i1 (by simp)
  have f2:=hf i2 (by simp)
  have off:∀ b ho,H b=some ho->ZOff z to i1 i2 b:=λb ho e=>⟨zb e fz.1,zb e fto.1,zb e f1.1,zb e f2.1⟩
  refine S5 D ⟨xj I e1 fz,xj I e1 fto,xj I e1 f1,xj I e1 f2⟩ ⟨xj I e2 fz,xj I e2 fto,xj I e2 f1,xj I e2 f2⟩ Z g1 g2 (x:=u) (y:=v) (by simpa using hu) (by simpa using hv) λg Z2 pr kp=>?_
  have hn:H s.heap.objs.size=none:=I.fresh
  have hout:∀ b,b ∉ [z,to,i1,i2]->ZOff z to i1 i2 b:=λb hb=>by
   simp only [zam,List.not_mem_nil,or_false,not_or] at hb
   exact hb
  have un:Un (frs X.stack) [z,to,i1,i2] H (upd H s.heap.objs.size (.tup [x,y])) s.heap g :=
   ⟨λb o q _ _ hx=>kp b o (hout b hx) q,λb o q _ _ hx=>⟨o.slots,kp b o (hout b hx) q⟩,λb o q n _=>by rw [zg (Nat.ne_of_lt (zae q))]; exact n,λb o q hx=>⟨o,kp b o (hout b hx) q⟩,
    λb zs q=>by rw [zg (zb q hn)]; exact q,λb o zs q=>by rw [zg (zb q hn)]; exact q,λb ps q=>⟨#[],by rw [zg (zb q hn),q]; simp⟩⟩
  have hok:HOk X.prog X.w (upd H s.heap.objs.size (.tup [x,y])) g:=λb o e=>by
   by_cases hb:b=s.heap.objs.size
   ·subst hb
    rw [zh] at e
    cases e
    refine ⟨by simp only [zLc,zLn]; rw [sizeLine_eq]; decide,[u,v],.cons ru (.cons rv .nil),⟨_,pr,rfl,_,rfl⟩,_,pr,rfl⟩
   ·rw [zg hb] at e
    refine (I.hok b o e).stay (λc ob hc q=>kp c ob ?_ q) (λc q=>by rw [zg (zb q hn)]; exact q) λc zs q=>by rw [zg (zb q hn)]; exact q
    rcases hc with rfl | hc
    ·exact off _ _ e
    ·exact off _ _ hc
  have I2:Inv X pn σ (upd H s.heap.objs.size (.tup [x,y])) { s with heap:=g }:=I.call' (s':={ s with heap:=g }) (ch:=[z,to,i1,i2]) rfl un hok I.bare λb hb=>by
   have hb':b ∈ [z,ti,to,i1,i2]:=by
    simp only [zam,List.not_mem_nil,or_false] at hb ⊢
    rcases hb with rfl | rfl | rfl | rfl <;> simp
   have q:=hf b hb'
   exact ⟨q.2.2.2.1,q.2.1,q.2.2.2.2.1,q.2.2.2.2.2⟩
  have none5:∀ b ∈ [z,ti,to,i1,i2],upd H s.heap.objs.size (.tup [x,y]) b=none:=λb hb=>by
   have lb:b < s.heap.objs.size:=by
    obtain ⟨hz,hti,⟨u,v,hto⟩,h1,h2⟩:=Z
    obtain ⟨_,q1,_⟩:=h1.there
    obtain ⟨_,q2,_⟩:=h2.there
    simp only [zam,List.not_mem_nil,or_false] at hb
    rcases hb with rfl | rfl | rfl | rfl | rfl
    ·exact zae hz
    ·exact zae hti
    ·exact zae hto
    ·exact zae q1
    ·exact zae q2
   rw [zg (Nat.ne_of_lt lb)]
   exact (hf b hb).1
  refine ⟨_,rfl,wpAny_letOwnedTupleGo_zip Z2.zz λg2 z3 sb=>?_⟩
  refine ⟨.ref s.heap.objs.size,_,I2.turned (t':=s.toks) (λb o hb e=>sb.extBut b o hb e) (none5 z (by simp)) fz.2.1 fz.2.2.2.1 fz.2.2.2.2.1 fz.2.2.2.2.2,rfl,⟨_,x,y,hn,rfl,(λzs q=>by rw [<- Nf I e1 q]; exact hx),(λzs q=>by rw [<- Nf I e2 q]; exact hy),rfl⟩,?_,none5⟩
  obtain ⟨_,hti,⟨u2,v2,hto⟩,h1,h2⟩:=Z2
  exact ⟨z3,sb.extBut _ _ D.ab hti,⟨u2,v2,sb.extBut _ _ D.ac hto⟩,h1.at λo e=>sb.extBut _ o D.ad e,h2.at λo e=>sb.extBut _ o D.ae e⟩
 done:=by
  intro X hP hw hK hc i pn s σ H E I hf Z hg
  subst hP hw hK
  obtain ⟨xs,ys,e1,e2,hend⟩:=hg
  obtain ⟨its1,r1,g1⟩:=V6 I e1
  obtain ⟨its2,r2,g2⟩:=V6 I e2
  have fz:=hf z (by simp)
  have fto:=hf to (by simp)
  have f1:=hf i1 (by simp)
  have f2:=hf i2 (by simp)
  have off:∀ b ho,H b=some ho->ZOff z to i1 i2 b:=λb ho e=>⟨zb e fz.1,zb e fto.1,zb e f1.1,zb e f2.1⟩
  have l1':=r1.length
  have l2':=r2.length
  refine Pp (I.ok.hd hc) D ⟨xj I e1 fz,xj I e1 fto,xj I e1 f1,xj I e1 f2⟩ ⟨xj I e2 fz,xj I e2 fto,xj I e2 f1,xj I e2 f2⟩ Z g1 g2 ?_ λg kp=>?_
  ·rcases hend with q | q
   ·exact .inl (by simp; omega)
   ·exact .inr (by simp; omega)
  ·refine ⟨rfl,?_⟩
   have hout:∀ b,b ∉ [z,to,i1,i2]->ZOff z to i1 i2 b:=λb hb=>by
    simp only [zam,List.not_mem_nil,or_false,not_or] at hb
    exact hb
   have un:Un (frs X.stack) [z,to,i1,i2] H H s.heap g :=
    ⟨λb o q _ _ hx=>kp b o (hout b hx) q,λb o q _ _ hx=>⟨o.slots,kp b o (hout b hx) q⟩,λb o q n _=>n,λb o q hx=>⟨o,kp b o (hout b hx) q⟩,
     λb zs q=>q,λb o zs q=>q,λb ps q=>⟨#[],by rw [q]; simp⟩⟩
   refine I.call' (s':={ s with heap:=g }) (ch:=[z,to,i1,i2]) rfl un (λb o e=>(I.hok b o e).stay (λc ob hc q=>kp c ob ?_ q) (λc q=>q) λc zs q=>q) I.bare λb hb=>?_
   ·rcases hc with rfl | hc
    ·exact off _ _ e
    ·exact off _ _ hc
   ·have hb':b ∈ [z,ti,to,i1,i2]:=by
     simp only [zam,List.not_mem_nil,or_false] at hb ⊢
     rcases hb with rfl | rfl | rfl | rfl <;> simp
    have q:=hf b hb'
    exact ⟨q.2.2.2.1,q.2.1,q.2.2.2.2.1,q.2.2.2.2.2⟩
 self:=λ_ _ _ _ _ Z h=>wpAny_pyIter_zip Z.zz h
def Q5:bootBuiltins "zip" = some (.type "zip"):=by kernel_rfl
def iZip (K:W.Frag) (ta:TA):TI:=λσ H R=>ta σ H λvs H1=>∃ b1 b2 l1 l2 xs ys,vs=[.ref l1,.ref l2] /\ SqK b1 K H1 l1 xs /\ SqK b2 K H1 l2 ys /\ R (Itz b1 b2 K l1 l2) H1
def Gp {X:Cx} {es:List Expr} {kk:Nat} {tp:Pos} {a b:Expr} {ta:TA} {p pos:Pos} (hg:Gl X "zip") (hm:X.mg "zip" = none) (ha:PA X [a,b] ta)
  (he:starEach [a,b] X.env=(false,eval a X.env) :: starEach [b] X.env:=by rfl) (hpl:(backTo pos (starEach [b] X.env)).any (·.1)=false:=by rfl):PI X (.Tuple es kk tp) (.Call (.Name "zip" p) [a,b] [] pos) (iZip X.K ta):=by
 intro pn s σ H R I h
 refine wpAny_Call_Name_kw (ua I hg hm Q5 ?_ (by decide) (by decide))
 refine PyProof.Rows.callWith_type1 (thn (ha pos pn s σ H _ I h) λus s1 ⟨vs,H1,I1,r1,b1,b2,l1,l2,xs,ys,e,e1,e2,q⟩=>?_) he hpl
 subst e
 obtain ⟨u,v,rfl,ru,rv⟩:=Mp r1
 cases ru
 cases rv
 obtain ⟨its1,r1,g1⟩:=V6 I1 e1
 obtain ⟨its2,r2,g2⟩:=V6 I1 e2
 refine Qi (xs:=its1.toArray) (ys:=its2.toArray) g1 g2 λg Z kp=>wpAny_pyIter_zip Z.zz ?_
 have D:ZNe (s1.heap.objs.size + 4) (s1.heap.objs.size + 2) (s1.heap.objs.size + 3) s1.heap.objs.size (s1.heap.objs.size + 1):=by
  constructor <;> (intro z; exact absurd (show (_:Nat)=_ from z) (by omega))
 refine ⟨_,_,_,_,H1,rfl,I1.kept (t':=s1.toks) kp,Qk D,Z,λb hb=>?_,q⟩
 have lb:s1.heap.objs.size <= b:=by
  simp only [zam,List.not_mem_nil,or_false] at hb
  rcases hb with rfl | rfl | rfl | rfl | rfl
  ·exact Nat.le_add_right _ _
  ·exact Nat.le_add_right _ _
  ·exact Nat.le_add_right _ _
  ·exact zaj _
  ·exact Nat.le_add_right _ _
 exact I1.fpOk lb (I1.hok.fresh lb)
end L3
namespace DL
open PySem PySem.Spec L2 L3
open PyProof.Rows hiding St
structure FlyB (P:Program) (w:World) (outer:List Env) (H:Hp) (h:Heap) (H':Hp) (B:Heap) (h':Heap):Prop where
 un:Un (frs outer) [] H H' h h'
 hok:HOk P w H' h'
 cov:∀ b o,h'.get? b=some o->b ∉ frs outer->(H' b ≠ none \/ ∃ o0,h.get? b=some o0)->B.get? b=some o
def CX1 (P:Program) (w:World):CXT:=λouter H s E e s'=>∃ (a C:Addr) (t:Value) (H':Hp) (B:Heap),e=.ref a /\ s'.os=s.os /\ AllBare s'.gens /\ FlyB P w outer H s.heap H' B s'.heap /\
 Heap.FlyingW B outer a (.ref C) t s'.heap /\ E (.ref C) none H'
end DL
namespace DL
def Rb (a b:Int) (h:b ≠ 0):(a.fmod b).natAbs < b.natAbs:=by
 rcases Int.lt_or_lt_of_ne h with hb | hb
 ·have e:a.fmod b = -((-a).fmod (-b)):=by rw [Int.neg_fmod_neg]; omega
  have h1:=Int.fmod_nonneg_of_pos (-a) (show (0:Int) < -b by omega)
  have h2:=Int.fmod_lt_of_pos (-a) (show (0:Int) < -b by omega)
  omega
 ·have h1:=Int.fmod_nonneg_of_pos a hb
  have h2:=Int.fmod_lt_of_pos a hb
  omega
def Wn (a b:Int):Int.gcd b (a.fmod b)=Int.gcd a b:=by
 rw [Int.fmod_def,Int.gcd_sub_mul_left_right,Int.gcd_comm]
def sg (t b:Int):Int:=if b < 0 then -(Int.gcd t b:Int) else Int.gcd t b
def rt (t b:Int):Int × Int:=(t.fdiv (sg t b),b.fdiv (sg t b))
structure RtOk (t b p q:Int):Prop where
 cross:p * b=t * q
 pos:0 < q
 one:Int.gcd p q=1
 lp:p.natAbs <= t.natAbs
 lq:q.natAbs <= b.natAbs
def X3 {t b:Int} (h:b ≠ 0):0 < (Int.gcd t b:Int):=by
 have:=Int.gcd_pos_of_ne_zero_right t h
 omega
def Lc {t b:Int} (h:b ≠ 0):sg t b ≠ 0:=by
 have:=X3 (t:=t) h
 unfold sg
 split <;> omega
def P2 {t b:Int} (h:b ≠ 0):RtOk t b (rt t b).1 (rt t b).2:=by
 have hg:=X3 (t:=t) h
 have hs:=Lc (t:=t) h
 have hsa:(sg t b).natAbs=Int.gcd t b:=by unfold sg; split <;> omega
 have d1:sg t b ∣ t:=by
  have:=Int.gcd_dvd_left t b
  unfold sg
  split
  ·exact Int.neg_dvd.mpr this
  ·exact this
 have d2:sg t b ∣ b:=by
  have:=Int.gcd_dvd_right t b
  unfold sg
  split
  ·exact Int.neg_dvd.mpr this
  ·exact this
 have e1:(rt t b).1 * sg t b=t:=by
  show t.fdiv (sg t b) * sg t b=t
  rw [Int.fdiv_eq_ediv_of_dvd d1]
  exact Int.ediv_mul_cancel d1
 have e2:(rt t b).2 * sg t b=b:=by
  show b.fdiv (sg t b) * sg t b=b
  rw [Int.fdiv_eq_ediv_of_dvd d2]
  exact Int.ediv_mul_cancel d2
 generalize (rt t b).1=p at *
 generalize (rt t b).2=q at *
 have hgcd:Int.gcd p q=1:=by
  have e:Int.gcd (p * sg t b) (q * sg t b)=Int.gcd p q * (sg t b).natAbs:=Int.gcd_mul_right ..
  rw [e1,e2,hsa] at e
  have hp:0 < Int.gcd t b:=by omega
  exact Nat.eq_of_mul_eq_mul_right hp (by omega)
 have hq:0 < q:=by
  rcases Int.lt_trichotomy b 0 with hb | hb | hb
  ·have:sg t b < 0:=by unfold sg; rw [if_pos hb]; omega
   rcases Int.lt_trichotomy q 0 with z | z | z
   ·have:=Int.mul_pos_of_neg_of_neg z this; omega
   ·subst z; omega
   ·exact z
  ·exact absurd hb h
  ·have:0 < sg t b:=by unfold sg; rw [if_neg (by omega)]; omega
   rcases Int.lt_trichotomy q 0 with z | z | z
   ·have:=Int.mul_neg_of_neg_of_pos z this; omega
   ·subst z; omega
   ·exact z
 refine ⟨?_,hq,hgcd,?_,?_⟩
 ·calc p * b=p * (q * sg t b):=by rw [e2]
   _=(p * sg t b) * q:=by rw [Int.mul_comm q,Int.mul_assoc]
   _=t * q:=by rw [e1]
 ·rw [<- e1,Int.natAbs_mul]
  exact Nat.le_mul_of_pos_right _ (by omega)
 ·rw [<- e2,Int.natAbs_mul]
  exact Nat.le_mul_of_pos_right _ (by omega)
def Fn {p q p' q':Int} (h1:Int.gcd p q=1) (h2:Int.gcd p' q'=1) (hq:0 < q) (hq':0 < q') (h:p * q'=p' * q):p=p' /\ q=q':=by
 have dq:q ∣ q':=by
  have:q ∣ q' * p:=⟨p',by rw [Int.mul_comm,h,Int.mul_comm]⟩
  have z:=Int.dvd_mul_gcd_iff_dvd_mul.mpr this
  rw [Int.gcd_comm,h1] at z
  simpa using z
 have dq':q' ∣ q:=by
  have:q' ∣ q * p':=⟨p,by rw [Int.mul_comm,<- h,Int.mul_comm]⟩
  have z:=Int.dvd_mul_gcd_iff_dvd_mul.mpr this
  rw [Int.gcd_comm,h2] at z
  simpa using z
 have e:q=q':=Int.le_antisymm (Int.le_of_dvd hq' dq) (Int.le_of_dvd hq dq')
 subst e
 exact ⟨Int.eq_of_mul_eq_mul_right (by omega) h,rfl⟩
end DL
namespace DL
open PySem PySem.Spec L2 L3
open PyProof.Rows hiding St
variable {Γ:Hp->Prop}
open PySem.Builtin.Int (intBits)
def fdOk {i j:Int} {m:Nat} (h:j ≠ 0) (hb:intBits j <= m) (hm:m <= 8999:=by omega):FdOk i j:=by
 refine ⟨h,?_⟩
 unfold intBits at hb
 rw [if_neg (by simpa using h)] at hb
 omega
end DL
namespace DL
open PySem PySem.Spec L2 L3
open PyProof.Rows hiding St
open PySem.Builtin.Int (intBits)
def Kh {n:Nat} {i:Int}:okD n (.int i)=True:=by cases n <;> rfl
def Fi {n:Nat} {i:Bool}:okD n (.bl i)=True:=by cases n <;> rfl
def Kf {n:Nat} {i:Str}:okD n (.str i)=True:=by cases n <;> rfl
def Kg {n:Nat}:okD n .non=True:=by cases n <;> rfl
def fw {a b:Int}:eqD (.int a) (.int b)=(a == b):=rfl
def Ja {a b:Str}:eqD (.str a) (.str b)=(a == b):=rfl
def Eh {a b:Bool}:eqD (.bl a) (.bl b)=(a == b):=rfl
def Q9 (x:Int):(if x < 0 then -x else x)=(x.natAbs:Int):=by split <;> omega
def w2 (g:Int->Int->(EV->Prop)->Prop):FT:=λds φ=>match ds with
 | [.int a,.int b]=>g a b φ
 | _=>False
def U5 {g:Int->Int->(EV->Prop)->Prop} {ds:List D} {φ:EV->Prop} (h:w2 g ds φ):∃ a b,ds=[.int a,.int b] /\ g a b φ:=by
 unfold w2 at h
 split at h
 ·exact ⟨_,_,rfl,h⟩
 ·exact h.elim
def w1 (g:Int->(EV->Prop)->Prop):FT:=λds φ=>match ds with
 | [.int a]=>g a φ
 | _=>False
def Mo {g:Int->(EV->Prop)->Prop} {ds:List D} {φ:EV->Prop} (h:w1 g ds φ):∃ a,ds=[.int a] /\ g a φ:=by
 unfold w1 at h
 split at h
 ·exact ⟨_,rfl,h⟩
 ·exact h.elim
def ja:FT:=w1 λ_ φ=>φ (dv (.bl true))
def Y3:FT:=w2 λa b φ=>φ (dv (.int (Int.gcd a b)))
def dm:FT:=w2 λa b φ=>b ≠ 0 /\ intBits b <= 8000 /\ φ (dv (.tup [.int (rt a b).1,.int (rt a b).2]))
def r2 (g:Int->Int->Int->Int->(EV->Prop)->Prop):FT:=λds φ=>match ds with
 | [.tup [.int a,.int b],.tup [.int c,.int d]]=>g a b c d φ
 | _=>False
def Gd {g:Int->Int->Int->Int->(EV->Prop)->Prop} {ds:List D} {φ:EV->Prop} (h:r2 g ds φ):∃ a b c d,ds=[.tup [.int a,.int b],.tup [.int c,.int d]] /\ g a b c d φ:=by
 unfold r2 at h
 split at h
 ·exact ⟨_,_,_,_,rfl,h⟩
 ·exact h.elim
structure Sm (a b c d:Int):Prop where
 a:intBits a <= 3000
 b:intBits b <= 3000
 c:intBits c <= 3000
 d:intBits d <= 3000
def v8 {x y:Int} (hx:intBits x <= 3000) (hy:intBits y <= 3000):IntMulOk x y:=IntMulOk.of_bits (zak hx (by decide)) (zak hy (by decide))
def Q7 {x y:Int} (hx:intBits x <= 3000) (hy:intBits y <= 3000):intBits (x * y) <= 6000:=PySem.intBits_mul_le hx hy
abbrev eR (t b:Int):EV:=dv (.tup [.int (rt t b).1,.int (rt t b).2])
def Mz:FT:=r2 λa b c d φ=>Sm a b c d /\ b * d ≠ 0 /\ φ (eR (a * d + c * b) (b * d))
def Na:FT:=r2 λa b c d φ=>Sm a b c d /\ b * d ≠ 0 /\ φ (eR (a * c) (b * d))
end DL
namespace DL
open L2
def C0 {α:Type} {x:α} {l:List α}:atI (x :: l) 0=some x:=by
 rw [show (0:Int)=((0:Nat):Int) from rfl]
 exact atI_nat rfl
def Dy {α:Type} {x y:α} {l:List α}:atI (x :: y :: l) 1=some y:=by
 rw [show (1:Int)=((1:Nat):Int) from rfl]
 exact atI_nat rfl
def Dx {α:Type} {x y z:α} {l:List α}:atI (x :: y :: z :: l) 2=some z:=by
 rw [show (2:Int)=((2:Nat):Int) from rfl]
 exact atI_nat rfl
end DL
namespace L2
open PySem PySem.Spec PyProof.Rows
section
variable {κ:Type} [DecidableEq κ]
def valV (kvs:List (κ × V)) (k:κ):Option V:=(kvs.find? λkv=>decide (kv.1=k)).map (·.2)
def putK (kvs:List (κ × V)) (k:κ) (v:V):List (κ × V) :=
 if (kvs.any λkv=>decide (kv.1=k))=true then kvs.map (λkv=>if kv.1=k then (kv.1,v) else kv) else kvs ++ [(k,v)]
def u0 {p:κ × V} {r:List (κ × V)} {k:κ} (e:p.1=k):valV (p :: r) k=some p.2:=by simp [valV,List.find?_cons,e]
def u3 {p:κ × V} {r:List (κ × V)} {k:κ} (e:¬ p.1=k):valV (p :: r) k=valV r k:=by simp [valV,List.find?_cons,e]
def Xn (k:κ):∀ kvs:List (κ × V),(kvs.any λkv=>decide (kv.1=k))=(valV kvs k).isSome
 | []=>rfl
 | p :: r=>by
  rw [List.any_cons]
  by_cases e:p.1=k
  ·simp only [u0 e,decide_eq_true e,Bool.true_or,Option.isSome_some]
  ·rw [u3 e,decide_eq_false e,Bool.false_or]; exact Xn k r
def qm (kvs:List (κ × V)) (k:κ) (v:V):(putK kvs k v).length <= kvs.length + 1:=by
 unfold putK
 split
 ·rw [zLm]; omega
 ·rw [zLa,zLc,zLn]; omega
def RelO.isSome_eq {o:Option V} {u:Option Value} (r:RelO o u):o.isSome=u.isSome:=by
 cases o with
 | none=>cases u with
  | none=>rfl
  | some _=>exact (show False from r).elim
 | some _=>cases u with
  | none=>exact (show False from r).elim
  | some _=>rfl
def RelO.getD {o:Option V} {u:Option Value} {d:V} {d':Value} (r:RelO o u) (rd:RelV d d'):RelV (o.getD d) (u.getD d'):=by
 cases o with
 | none=>cases u with
  | none=>exact rd
  | some _=>exact (show False from r).elim
 | some _=>cases u with
  | none=>exact (show False from r).elim
  | some _=>exact r
def KV.val {kvs:List (κ × V)} {vs:List (κ × Value)} (r:KV kvs vs) (k:κ):RelO (valV kvs k) (valueAt vs k):=by
 unfold KV at r
 induction r with
 | nil=>exact True.intro
 | @cons p q ps qs h t ih =>
  obtain ⟨h1,h2⟩:=h
  by_cases e:p.1=k
  ·have e':q.1=k:=h1.symm.trans e
   have b:valueAt (q :: qs) k=some q.2:=by simp [valueAt,List.find?_cons,e']
   rw [u0 e,b]; exact h2
  ·have e':¬ q.1=k:=λz=>e (h1.trans z)
   have b:valueAt (q :: qs) k=valueAt qs k:=by simp [valueAt,List.find?_cons,e']
   rw [u3 e,b]; exact ih
def KV.any {kvs:List (κ × V)} {vs:List (κ × Value)} (r:KV kvs vs) (k:κ):(kvs.any λkv=>decide (kv.1=k))=vs.any λkv=>decide (kv.1=k):=by
 unfold KV at r
 induction r with
 | nil=>rfl
 | cons h t ih=>rw [List.any_cons,List.any_cons,ih,h.1]
def KV.repl {kvs:List (κ × V)} {vs:List (κ × Value)} (r:KV kvs vs) (k:κ) {y:V} {u:Value} (ry:RelV y u) :
  KV (kvs.map λkv=>if kv.1=k then (kv.1,y) else kv) (vs.map λkv=>if kv.1=k then (kv.1,u) else kv):=by
 unfold KV at r ⊢
 induction r with
 | nil=>exact .nil
 | @cons p q ps qs h t ih =>
  rw [List.map_cons,List.map_cons]
  refine .cons ?_ ih
  obtain ⟨h1,h2⟩:=h
  by_cases e:p.1=k
  ·rw [if_pos e,if_pos (h1.symm.trans e)]; exact ⟨h1,ry⟩
  ·rw [if_neg e,if_neg (λz=>e (h1.trans z))]; exact ⟨h1,h2⟩
def KV.put {kvs:List (κ × V)} {vs:List (κ × Value)} (r:KV kvs vs) (k:κ) {y:V} {u:Value} (ry:RelV y u):KV (putK kvs k y) (stored vs k u):=by
 unfold putK stored
 rw [r.any k]
 by_cases e:(vs.any λkv=>decide (kv.1=k))=true
 ·rw [if_pos e,if_pos e]; exact r.repl k ry
 ·rw [if_neg e,if_neg e]; exact Paired.snoc r ⟨rfl,ry⟩
def KV.length {kvs:List (κ × V)} {vs:List (κ × Value)} (r:KV kvs vs):kvs.length=vs.length:=Paired.length r
end
def Su {P:Program} {w:World} {k:Key} {u:Value} (r:RelV (kV k) u):(y9 P w).is k u=true:=by
 cases k with
 | inl i=>obtain ⟨t,e⟩:=(show ∃ t,u=Value.int i t from r); subst e; exact Yj P w i t
 | inr x=>obtain ⟨t,e⟩:=(show ∃ t,u=Value.str x t from r); subst e; exact Yi P w x t
def bj {P:Program} {w:World}:∀ {ks:List Key} {us:List Value},Vals (ks.map kV) us->ItemsAre (y9 P w) ks us
 | [],_,r=>by rw [List.map_nil] at r; cases r; exact .nil
 | k :: ks,_,r=>by
  rw [List.map_cons] at r
  cases r with
  | cons h t=>exact .cons (Su h) (bj t)
abbrev KT (H:Hp):List (List Key × V)->List (List Key × Addr × Value)->Prop:=Paired λp q=>p.1=q.1 /\ H q.2.1=some (.tup (p.1.map kV)) /\ RelV p.2 q.2.2
def KT.val {H:Hp} {kvs:List (List Key × V)} {xs:List (List Key × Addr × Value)} (r:KT H kvs xs) (k:List Key):RelO (valV kvs k) ((atKey xs k).map (·.2)):=by
 induction r with
 | nil=>exact True.intro
 | @cons p q ps qs h t ih =>
  obtain ⟨h1,_,h2⟩:=h
  by_cases e:p.1=k
  ·have e':q.1=k:=h1.symm.trans e
   have b:atKey (q :: qs) k=some q.2:=by simp [atKey,List.find?_cons,e']
   rw [u0 e,b]; exact h2
  ·have e':¬ q.1=k:=λz=>e (h1.trans z)
   have b:atKey (q :: qs) k=atKey qs k:=by simp [atKey,List.find?_cons,e']
   rw [u3 e,b]; exact ih
def KT.repl {H:Hp} {kvs:List (List Key × V)} {xs:List (List Key × Addr × Value)} (r:KT H kvs xs) (k:List Key) {y:V} {u:Value} (ry:RelV y u) :
  KT H (kvs.map λkv=>if kv.1=k then (kv.1,y) else kv) (xs.map (putAt k u)):=by
 induction r with
 | nil=>exact .nil
 | @cons p q ps qs h t ih =>
  rw [List.map_cons,List.map_cons]
  refine .cons ?_ ih
  obtain ⟨h1,h2,h3⟩:=h
  unfold putAt
  by_cases e:p.1=k
  ·rw [if_pos e,if_pos (h1.symm.trans e)]; exact ⟨h1,h2,ry⟩
  ·rw [if_neg e,if_neg (λz=>e (h1.trans z))]; exact ⟨h1,h2,h3⟩
def KT.put {H:Hp} {kvs:List (List Key × V)} {xs:List (List Key × Addr × Value)} (r:KT H kvs xs) (k:List Key) {b:Addr} {y:V} {u:Value} (hb:H b=some (.tup (k.map kV))) (ry:RelV y u) :
  KT H (putK kvs k y) (storedH xs k b u):=by
 have e:(kvs.any λkv=>decide (kv.1=k))=(atKey xs k).isSome:=by
  rw [Xn,(r.val k).isSome_eq,Option.isSome_map]
 unfold putK storedH
 rw [e]
 by_cases q:(atKey xs k).isSome=true
 ·rw [if_pos q,if_pos q]; exact r.repl k ry
 ·rw [if_neg q,if_neg q]; exact Paired.snoc r ⟨rfl,hb,ry⟩
def KT.keeps {H H':Hp} {kvs:List (List Key × V)} {xs:List (List Key × Addr × Value)} (r:KT H kvs xs) (ht:∀ b ys,H b=some (.tup ys)->H' b=some (.tup ys)):KT H' kvs xs :=
 Paired.mapP r λ_ _ z=>⟨z.1,ht _ _ z.2.1,z.2.2⟩
section
variable {P:Program} {w:World} {H:Hp} {h:Heap} {a:Addr}
def G9 {u:HO} (ok:HOk P w H h) (e:Rd H a u):yf P w H h a u:=e.ok ok
def Vt {kvs:List (Key × V)} (ok:HOk P w H h) (e:Rd H a (.dK kvs)):kvs.length <= sizeLine /\ (a == sysModules)=false /\ ∃ vs,KV kvs vs /\ h.DictOf (y9 P w) a vs :=
 show yf P w H h a (.dK kvs) from G9 ok e
def Dw {kvs:List (Key × V)} (ok:HOk P w H h) (e:H a=some (.dK kvs)):kvs.length <= sizeLine /\ (a == sysModules)=false /\ ∃ vs,KV kvs vs /\ h.DictOf (y9 P w) a vs:=Vt ok (.inl e)
def uc {ks:List Key} (ok:HOk P w H h) (e:H a=some (.tup (ks.map kV))):(tupleKind (y9 P w)).is h ks a:=by
 obtain ⟨_,its,r,⟨o,h1,h2,n,h3⟩,_⟩:=(show yf P w H h a (.tup (ks.map kV)) from ok a _ e)
 exact ⟨o,its.toArray,n,h1,h2,h3,by simpa using bj r⟩
def Vs {kvs:List (List Key × V)} (ok:HOk P w H h) (e:Rd H a (.dT kvs)):kvs.length <= sizeLine /\ (a == sysModules)=false /\
  ∃ xs,KT H kvs xs /\ h.DictOfH (tupleKind (y9 P w)) a xs:=by
 obtain ⟨z,y,xs,r,o,es,ep,h1,h2,h3,h4,h5⟩:=(show yf P w H h a (.dT kvs) from G9 ok e)
 refine ⟨z,y,xs,r,o,es,ep,h1,h2,h3,h4,λx hx=>?_,h5⟩
 have all:∀ {l:List (List Key × V)} {m:List (List Key × Addr × Value)},KT H l m->∀ x ∈ m,(tupleKind (y9 P w)).is h x.1 x.2.1:=by
  intro l m q
  induction q with
  | nil=>intro x hx; exact nomatch hx
  | @cons p q ps qs hq t ih =>
   intro x hx
   rcases zam.mp hx with e | hx
   ·subst e
    exact uc ok (by rw [<- hq.1]; exact hq.2.1)
   ·exact ih x hx
 exact all r x hx
def Ek {kvs:List (List Key × V)} (ok:HOk P w H h) (e:H a=some (.dT kvs)):kvs.length <= sizeLine /\ (a == sysModules)=false /\
  ∃ xs,KT H kvs xs /\ h.DictOfH (tupleKind (y9 P w)) a xs:=Vs ok (.inl e)
end
def DGet (H:Hp) (a:Addr) (y:V) (r:Option V):Prop :=
 (∃ kvs k,Rd H a (.dK kvs) /\ y=kV k /\ r=valV kvs k) \/ ∃ kvs k b,Rd H a (.dT kvs) /\ y=.ref b /\ H b=some (.tup (k.map kV)) /\ r=valV kvs k
def DPut (H:Hp) (a:Addr) (y v:V) (H':Hp):Prop :=
 (∃ kvs k,H a=some (.dK kvs) /\ y=kV k /\ kvs.length < sizeLine /\ H'=upd H a (.dK (putK kvs k v))) \/
 ∃ kvs k b,H a=some (.dT kvs) /\ y=.ref b /\ H b=some (.tup (k.map kV)) /\ kvs.length < sizeLine /\ H'=upd H a (.dT (putK kvs k v))
def DGet.k {H:Hp} {a:Addr} {kvs:List (Key × V)} {k:Key} (e:H a=some (.dK kvs)):DGet H a (kV k) (valV kvs k):=.inl ⟨kvs,k,.inl e,rfl,rfl⟩
def DGet.t {H:Hp} {a b:Addr} {kvs:List (List Key × V)} {k:List Key} (e:H a=some (.dT kvs)) (eb:H b=some (.tup (k.map kV))):DGet H a (.ref b) (valV kvs k):=.inr ⟨kvs,k,b,.inl e,rfl,eb,rfl⟩
def DPut.k {H:Hp} {a:Addr} {kvs:List (Key × V)} {k:Key} {v:V} (e:H a=some (.dK kvs)) (hl:kvs.length < sizeLine):DPut H a (kV k) v (upd H a (.dK (putK kvs k v))):=.inl ⟨kvs,k,e,rfl,hl,rfl⟩
def DPut.t {H:Hp} {a b:Addr} {kvs:List (List Key × V)} {k:List Key} {v:V} (e:H a=some (.dT kvs)) (eb:H b=some (.tup (k.map kV))) (hl:kvs.length < sizeLine) :
  DPut H a (.ref b) v (upd H a (.dT (putK kvs k v))):=.inr ⟨kvs,k,b,e,rfl,eb,hl,rfl⟩
section
variable {X:Cx} {pn:List (Addr × Obj)} {σ:St} {H:Hp} {s:Shared} {a:Addr} {y v:V} {u r:Value} {o:Option V} {A:Around} {E:Value->Shared->Prop}
def Inv.big (I:Inv X pn σ H s):sysModules < s.heap.objs.size:=by
 have h:mainGlobals < s.heap.objs.size:=(I.mod.glob.keeps I.bk).lt
 exact Nat.lt_trans (by decide) h
def Zk {Q:Value->Shared->Prop} (hu:A.units + 1 < cLine) (I:Inv X pn σ H s) (g:DGet H a y (some v)) (ry:RelV y u) (h:∀ w' s',Inv X pn σ H s'->RelV v w'->Q w' s') :
  wpAny (model X.prog X.w) A (getItem (.ref a) u) Q E s:=by
 rcases g with ⟨kvs,k,e,ey,l⟩ | ⟨kvs,k,b,e,ey,eb,l⟩
 ·subst ey
  obtain ⟨z,hd,vs,rel,dd⟩:=Vt I.hok e
  obtain ⟨w',hw,rw'⟩:=RelO.some_of (v:=v) (o:=valueAt vs k) (by rw [l]; exact rel.val k)
  exact wpAny_getItem_of (Su ry) dd.mapOf hw (h w' _ (I.tok _) rw')
 ·subst ey
  cases (show u=Value.ref b from ry)
  obtain ⟨z,hd,xs,rel,dd⟩:=Vs I.hok e
  obtain ⟨w',hw,rw'⟩:=RelO.some_of (v:=v) (o:=(atKey xs k).map (·.2)) (by rw [l]; exact rel.val k)
  obtain ⟨p,hp,hp2⟩:=zar.mp hw
  refine wpAny_getItem_heap (tupleKind_room_in1 hu) (uc I.hok eb) dd hp ?_
  rw [hp2]
  exact h w' _ (I.tok _) rw'
def Ji {Q:Value->Shared->Prop} (hu:A.units + 1 < cLine) (I:Inv X pn σ H s) (g:DGet H a y o) (ry:RelV y u) (h:∀ s',Inv X pn σ H s'->Q (.bool (!o.isSome)) s') :
  wpAny (model X.prog X.w) A (compareOp .NotIn u (.ref a)) Q E s:=by
 rcases g with ⟨kvs,k,e,ey,l⟩ | ⟨kvs,k,b,e,ey,eb,l⟩
 ·subst ey
  obtain ⟨z,hd,vs,rel,dd⟩:=Vt I.hok e
  refine wpAny_notIn_of (Su ry) hd dd.mapOf ?_
  rw [<- (rel.val k).isSome_eq,<- l]
  exact h _ (I.tok _)
 ·subst ey
  cases (show u=Value.ref b from ry)
  obtain ⟨z,hd,xs,rel,dd⟩:=Vs I.hok e
  refine wpAny_notIn_heap (tupleKind_room_in1 hu) (uc I.hok eb) hd dd ?_
  have q:=(rel.val k).isSome_eq
  rw [Option.isSome_map] at q
  rw [<- q,<- l]
  exact h _ (I.tok _)
def fy {h':Heap} {t':Nat} {ob:HO} (I:Inv X pn σ H s) (mu:Mut (H a)) (hs:Heap.SameBut a s.heap h') (he:∃ q,h'.get? a=some q) (new:yf X.prog X.w (upd H a ob) h' a ob) :
  Inv X pn σ (upd H a ob) { s with heap:=h',toks:=t' } :=
 I.write (x:=a) (e:=a) mu (.inl rfl) (λb q hb z=>(hs.2 b hb).trans z) he new
def Em {P:Program} {w:World} {H':Hp} {h':Heap} {kvs:List (Key × V)} {vs:List (Key × Value)} (z:kvs.length <= sizeLine) (hd:(a == sysModules)=false) (rel:KV kvs vs) (dd:h'.DictOf (y9 P w) a vs) :
  yf P w H' h' a (.dK kvs):=⟨z,hd,vs,rel,dd⟩
def Rt {H':Hp} {Q:Unit->Shared->Prop} (hu:A.units + 1 < cLine) (I:Inv X pn σ H s) (g:DPut H a y v H') (ry:RelV y u) (rv:RelV v r) (h:∀ s',Inv X pn σ H' s'->Q () s') :
  wpAny (model X.prog X.w) A (setItem (.ref a) u r) Q E s:=by
 rcases g with ⟨kvs,k,e,ey,l,eH⟩ | ⟨kvs,k,b,e,ey,eb,l,eH⟩
 ·subst ey eH
  obtain ⟨z,hd,vs,rel,dd⟩:=Dw I.hok e
  have hz:vs.length <= sizeLine:=by rw [<- rel.length]; exact z
  have hl:(putK kvs k v).length <= sizeLine:=by have:=qm kvs k v; omega
  refine wpAny_setItem_pairs (hsz:=hz) (Su ry) dd λh' dd' hs=>h _ ?_
  have he:∃ q,h'.get? a=some q:=let ⟨q,_,_,hq,_⟩:=dd'; ⟨q,hq⟩
  exact fy I (by rw [e]; exact True.intro) hs he (Em hl hd (rel.put k rv) dd')
 ·subst ey eH
  cases (show u=Value.ref b from ry)
  obtain ⟨z,hd,xs,rel,dd⟩:=Ek I.hok e
  have hz:xs.length <= sizeLine:=by rw [<- Paired.length rel]; exact z
  have hl:(putK kvs k v).length <= sizeLine:=by have:=qm kvs k v; omega
  refine wpAny_setItem_heap (hsz:=hz) (tupleKind_room_in1 hu) (uc I.hok eb) dd λh' dd' hs=>h _ ?_
  obtain ⟨q,es,ep,hq,h2,h3,h4,_,h5⟩:=dd'
  refine fy I (by rw [e]; exact True.intro) hs ⟨q,hq⟩ ⟨hl,hd,_,(rel.put k eb rv).keeps λc ys ec=>?_,q,es,ep,hq,h2,h3,h4,h5⟩
  rw [zg (Fl ec e (λz=>nomatch z))]
  exact ec
end
def qz {X:Cx} {pn:List (Addr × Obj)} {σ:St} {H:Hp} {s:Shared} {a:Addr} {y:V} {o:Option V} (I:Inv X pn σ H s) (g:DGet H a y o):s.TypeIs (.ref a) "dict":=by
 rcases g with ⟨kvs,k,e,_,_⟩ | ⟨kvs,k,b,e,_,_,_⟩
 ·obtain ⟨_,_,vs,_,dd⟩:=Vt I.hok e
  exact dd.typeIs
 ·obtain ⟨_,_,xs,_,dd⟩:=Vs I.hok e
  exact dd.typeIs
def D6 (td ty tv:TE):TS:=λD σ H=>tv σ H λv H1=>td σ H1 λx H2=>ty σ H2 λy H3=>∃ a H4,x=.ref a /\ DPut H3 a y v H4 /\ D.nx σ H4
section
variable {X:Cx} {o i e value:Expr} {pos pos' tpos:Pos} {td ty tv:TE}
def Td (hu:X.A.units + 1 < cLine) (ho:PE X o td) (hi:PE X i ty) (hv:PE X value tv) (hs:swapsWith value (some (.Subscript o i pos')) pos.line X.env=pure false) :
  PS X (.Assign [.Subscript o i pos'] value pos) (D6 td ty tv):=by
 intro pn s σ H D I h
 refine wpAny_Assign_Subscript (thn (hv pn s σ H _ I h) λr s1 ⟨v,H1,I1,rv,q1⟩=>thn (ho pn s1 σ H1 _ I1 q1) λu s2 ⟨x,H2,I2,rx,q2⟩=>thn (hi pn s2 σ H2 _ I2 q2) λiv s3 ⟨y,H3,I3,ry,a,H4,ex,g,q3⟩=>?_) hs
 subst ex
 obtain rfl:u=Value.ref a:=rx
 exact Rt hu I3 g ry rv λs4 I4=>⟨σ,H4,I4,q3⟩
end
def Wt {P:Program} {w:World} {H:Hp} (h:Heap) (hb:sysModules < h.objs.size):yf P w H (h.push { cls:=.type "dict", data:=.dict #[] }) h.objs.size (.dT []) :=
 ⟨Nat.zero_le _,beq_eq_false_iff_ne.mpr (Ne.symm (Nat.ne_of_lt hb)),[],.nil,_,#[],0,zad _ rfl,⟨rfl,rfl,rfl⟩,rfl,rfl,List.nodup_nil⟩
def Ue:TE:=λ_ H Q=>∀ p,H p=none->Q (.ref p) (upd H p (.dT []))
section
variable {X:Cx} {pos:Pos}
def gk:PE X (.Dict [] [] pos) Ue:=λpn s σ H Q I h =>
 wpAny_Dict_empty ⟨.ref s.heap.objs.size,_,I.laid (a:=s.heap.objs.size) (o:=.dT []) (t':=s.toks) (λ_ _ q=>zac _ q) (zaj _) (Wt s.heap I.big),rfl,h _ (I.hok.fresh (zaj _))⟩
end
def Uc:List (TE × TE)->St->Hp->(List (V × V)->Hp->Prop)->Prop
 | [],_,H,Q=>Q [] H
 | (tk,tv) :: r,σ,H,Q=>tk σ H λx H1=>tv σ H1 λy H2=>Uc r σ H2 λps H3=>Q ((x,y) :: ps) H3
abbrev VV:List (V × V)->List (Value × Value)->Prop:=Paired λp q=>RelV p.1 q.1 /\ RelV p.2 q.2
def PPs (X:Cx) (pos:Pos) (keys:List (Option Expr)) (values:List Expr) (trs:List (TE × TE)):Prop :=
 ∀ (pn:List (Addr × Obj)) (s:Shared) (σ:St) (H:Hp) (Q:List (V × V)->Hp->Prop),Inv X pn σ H s->Uc trs σ H Q ->
  wpAny (model X.prog X.w) X.A (evalPairs (pairTrees keys values X.env pos)) (λvs s'=>∃ ps H',Inv X pn σ H' s' /\ VV ps vs /\ Q ps H') X.xe s
def Lv {X:Cx} {pos:Pos}:PPs X pos [] [] []:=λpn s σ H Q I h=>pairTrees_nil_walk ⟨[],H,I,.nil,h⟩
def Pb {X:Cx} {pos:Pos} {k v:Expr} {ks:List (Option Expr)} {vs:List Expr} {tk tv:TE} {trs:List (TE × TE)} (hk:PE X k tk) (hv:PE X v tv) (hr:PPs X pos ks vs trs) :
  PPs X pos (some k :: ks) (v :: vs) ((tk,tv) :: trs):=λpn s σ H Q I h =>
 pairTrees_cons_walk (thn (hk pn s σ H _ I h) λu s1 ⟨x,H1,I1,rx,q1⟩=>thn (hv pn s1 σ H1 _ I1 q1) λw2 s2 ⟨y,H2,I2,ry,q2⟩ =>
  thn (hr pn s2 σ H2 _ I2 q2) λws s3 ⟨ps,H3,I3,rel,q3⟩=>⟨(x,y) :: ps,H3,I3,.cons ⟨rx,ry⟩ rel,q3⟩)
structure M2 (X:Cx) (o:Expr) (m:Str) (apos:Pos) (e f:Expr) (cpos:Pos):Prop where
 base:attributeBase o m X.env (eval o X.env)=eval o X.env
 few:((backTo cpos (starEach [e,f] X.env)).all (λx=>!x.1) && (backToKw cpos (keywordEach [] X.env)).all (λx=>x.1.isSome)
  && decide (([e,f]:List Expr).length + ([]:List Keyword).length + (if ([]:List Keyword).isEmpty then 0 else 1) < 30))=true
 line:(apos.endLine == cpos.line)=true
 trees:backTo cpos (starEach [e,f] X.env)=[(false,eval e X.env),(false,eval f X.env)]
def IsD (H:Hp) (a:Addr):Prop:=(∃ kvs,Rd H a (.dK kvs)) \/ ∃ kvs,Rd H a (.dT kvs)
def E8 {X:Cx} {pn:List (Addr × Obj)} {σ:St} {H:Hp} {s:Shared} {a:Addr} (I:Inv X pn σ H s) (d:IsD H a) :
  s.TypeIs (.ref a) "dict" /\ (∀ b,Value.ref a=.ref b->∃ ob,s.heap.get? b=some ob /\ ob.dict=none) /\ (a == sysModules)=false:=by
 rcases d with ⟨kvs,e⟩ | ⟨kvs,e⟩
 ·obtain ⟨_,hd,vs,_,dd⟩:=Vt I.hok e
  refine ⟨dd.typeIs,λb q=>?_,hd⟩
  cases q
  obtain ⟨ob,_,_,h1,h2,_⟩:=dd
  exact ⟨ob,h1,h2.2.1⟩
 ·obtain ⟨_,hd,xs,_,dd⟩:=Vs I.hok e
  refine ⟨dd.typeIs,λb q=>?_,hd⟩
  cases q
  obtain ⟨ob,_,_,h1,h2,_⟩:=dd
  exact ⟨ob,h1,h2.2.1⟩
section
variable {X:Cx} {pn:List (Addr × Obj)} {σ:St} {H:Hp} {s:Shared} {a:Addr} {y d:V} {u r:Value} {o:Option V} {A:Around} {E:Value->Shared->Prop}
def En {Q:Value->Shared->Prop} (hu:A.units + 1 < cLine) (I:Inv X pn σ H s) (g:DGet H a y o) (ry:RelV y u) (rd:RelV d r) (h:∀ w' s',Inv X pn σ H s'->RelV (o.getD d) w'->Q w' s') :
  wpAny (model X.prog X.w) A (call (.builtin "dict.get") [.ref a,u,r]) Q E s:=by
 rcases g with ⟨kvs,k,e,ey,l⟩ | ⟨kvs,k,b,e,ey,eb,l⟩
 ·subst ey
  obtain ⟨z,hd,vs,rel,dd⟩:=Vt I.hok e
  refine call_meetsIn PySem.F.slot_dict_get dd.typeIs PySem.F.entry_dict_get (PySem.F.args_dict_get_3 _ _ _) (meets_dict_get_default (y9 X.prog X.w) a (Su ry) hd r) ⟨_,dd.mapOf,h _ _ (I.tok _) ?_⟩
  rw [l]
  exact (rel.val k).getD rd
 ·subst ey
  cases (show u=Value.ref b from ry)
  obtain ⟨z,hd,xs,rel,dd⟩:=Vs I.hok e
  refine call_meetsIn PySem.F.slot_dict_get dd.typeIs PySem.F.entry_dict_get (PySem.F.args_dict_get_3 _ _ _) (meetsH_dict_get_default (tupleKind (y9 X.prog X.w)) a b hd r) ⟨tupleKind_room_in1 hu,k,xs,uc I.hok eb,dd,h _ _ (I.tok _) ?_⟩
  rw [l]
  exact (rel.val k).getD rd
end
def Hm (td ty tx:TE):TE:=λσ H Q=>td σ H λx H1=>∃ a,x=.ref a /\ IsD H1 a /\ ty σ H1 λy H2=>tx σ H2 λz H3=>∃ o,DGet H3 a y o /\ Q (o.getD z) H3
section
variable {X:Cx} {o e f:Expr} {apos cpos:Pos} {td ty tx:TE}
def Ph (hu:X.A.units + 1 < cLine) (ho:PE X o td) (he:PE X e ty) (hf:PE X f tx) (m:M2 X o "get" apos e f cpos):PE X (.Call (.Attribute o "get" apos) [e,f] [] cpos) (Hm td ty tx):=by
 intro pn s σ H Q I h
 refine wpAny_Call_method m.base m.few m.line PySem.F.plainAttrs_dict PySem.F.slot_dict_get PySem.F.type_dict_get (thn (ho pn s σ H _ I h) λu s1 ⟨x,H1,I1,rx,a,ex,d,q1⟩=>?_)
 subst ex
 obtain rfl:u=Value.ref a:=rx
 obtain ⟨t1,t2,_⟩:=E8 I1 d
 refine ⟨t1,t2,?_⟩
 rw [m.trees]
 refine Calls.callWith_builtin rfl (Calls.evalArgs_plain (Calls.spliced_cons (thn (he pn s1 σ H1 _ I1 q1) λiv s2 ⟨y,H2,I2,ry,q2⟩ =>
  Calls.spliced_cons (thn (hf pn s2 σ H2 _ I2 q2) λfv s3 ⟨z,H3,I3,rz,ov,g,q3⟩=>Calls.spliced_nil ?_))))
 exact En hu I3 g ry rz λw' s4 I4 rw'=>⟨_,H3,I4,rw',q3⟩
end
end L2
namespace DL
open PySem PySem.Spec L2 L3
open PyProof.Rows hiding St
variable {Γ:Hp->Prop}
instance decMemKey (k:Key) (ks:List Key):Decidable (k ∈ ks):=decidable_of_iff (ks.any (λx=>decide (x=k))=true) (by simp)
section
variable {α:Type}
def j5:List Key->List α->Key->Option α
 | k' :: ks,d :: ds,k=>if k'=k then some d else j5 ks ds k
 | _,_,_=>none
def kput (ks:List Key) (k:Key):List Key:=if k ∈ ks then ks else ks ++ [k]
def dput:List Key->List α->Key->α->List α
 | k' :: ks,d' :: ds,k,d=>if k'=k then d :: ds else d' :: dput ks ds k d
 | _,_,_,d=>[d]
end
def Xm:∀ (ks:List Key) (xs:List V) (k:Key),valV (ks.zip xs) k=j5 ks xs k
 | [],xs,k=>by cases xs <;> rfl
 | k' :: ks,[],k=>rfl
 | k' :: ks,x :: xs,k=>by
  rw [List.zip_cons_cons,j5]
  by_cases e:k'=k
  ·rw [if_pos e,u0 (by exact e)]
  ·rw [if_neg e,u3 (by exact e),Xm ks xs k]
section
variable {K:W.Frag} {H:Hp} {O:List Addr}
def cq:∀ {ks:List Key} {ds:List D} {xs:List V} {k:Key},Reps K H O ds xs->(∀ d,j5 ks ds k=some d->∃ v,j5 ks xs k=some v /\ Rep K H O d v) /\ (j5 ks ds k=none->j5 ks xs k=none)
 | [],ds,xs,k,r=>⟨(λd h=>by cases ds <;> cases h),(λ_=>by cases xs <;> rfl)⟩
 | k' :: ks,[],xs,k,r=>by
  cases r
  exact ⟨(λd h=>by cases h),λ_=>rfl⟩
 | k' :: ks,d' :: ds,xs,k,r=>by
  obtain ⟨v,ws,rfl,q,t⟩:=r
  rw [j5,j5]
  by_cases e:k'=k
  ·rw [if_pos e,if_pos e]
   exact ⟨(λd h=>by cases h; exact ⟨v,rfl,q⟩),(λh=>by cases h)⟩
  ·rw [if_neg e,if_neg e]
   exact cq t
end
def keyD:D->Option Key
 | .int i=>some (.inl i)
 | .str x=>some (.inr x)
 | _=>none
def Wl {K:W.Frag} {H:Hp} {O:List Addr} {d:D} {v:V} {k:Key} (h:View K H O d v) (e:keyD d=some k):v=kV k:=by
 cases d with
 | int i=>cases e; exact h
 | str i=>cases e; exact h
 | _=>cases e
section
variable {X:Cx} {a b c e o:Expr} {es:List Expr} {ta tb tc te td:TD} {t:TDs} {pos:Pos}
def Oe:D->Bool
 | .non=>true
 | .bl _=>true
 | .int _=>true
 | .str _=>true
 | _=>false
def inD (x:D) (l:List D):Bool:=l.any λy=>eqD y x
def sIn (neg:Bool):D->D->(EV->Prop)->Prop:=λx y φ=>match y with
 | .dk ks _=>(match keyD x with | some k=>φ (dv (.bl (if neg then !decide (k ∈ ks) else decide (k ∈ ks)))) | none=>False)
 | .lst l=>Oe x=true /\ l.all Oe=true /\ φ (dv (.bl (if neg then !inD x l else inD x l)))
 | .tup l=>Oe x=true /\ l.all Oe=true /\ φ (dv (.bl (if neg then !inD x l else inD x l)))
 | .str z=>(match x with | .str p=>φ (dv (.bl (if neg then !(!(Builtin.Str.occurrences z p 0 z.length 1).isEmpty) else !(Builtin.Str.occurrences z p 0 z.length 1).isEmpty))) | _=>False)
 | _=>False
def sIxx:D->D->(EV->Prop)->Prop:=λx y φ=>match x with
 | .dk ks ds=>(match keyD y with
  | some k=>(match j5 ks ds k with
   | some d=>φ (dv d)
   | none=>False)
  | none=>False)
 | x=>sIx x y φ
def Kr (hu:X.A.units + 1 < cLine):IxR X (λx y H Q=>∃ a kvs k v,x=.ref a /\ H a=some (.dK kvs) /\ y=kV k /\ valV kvs k=some v /\ Q v H):=by
 intro value slice pn s σ H x y v u Q I rx ry h hs
 obtain ⟨a,kvs,k,w,rfl,ha,rfl,e,q⟩:=h
 cases rx
 have g:DGet H a (kV k) (some w):=by rw [<- e]; exact DGet.k ha
 exact tail_any (qz I g) PySem.F.slot_dict_getitem.lookup (Zk hu I g ry λw' s' I' rw'=>⟨w,H,I',rw',q⟩) hs
def Pw:sv X.K (λx y H Q=>rIx X.K x y H Q \/ ∃ a kvs k v,x=.ref a /\ H a=some (.dK kvs) /\ y=kV k /\ valV kvs k=some v /\ Q v H) sIxx:=by
 intro H O x y vx vy φ Q ho hx hy h k
 cases x with
 | dk ks ds =>
  obtain ⟨a,xs,rfl,q,l,nd,r⟩:=hx
  unfold sIxx at h
  dsimp only at h
  split at h
  ·rename_i kk ek
   split at h
   ·rename_i d ed
    obtain ⟨v,ev,rv⟩:=(cq (ks:=ks) (k:=kk) r).1 d ed
    exact .inr ⟨a,_,kk,v,rfl,q,Wl hy ek,by rw [Xm]; exact ev,k _ _ H (Same.refl H) (RV.val rv) h⟩
   ·exact h.elim
  ·exact h.elim
 | _=>exact .inl (Kl H O _ y vx vy φ Q ho hx hy h k)
def zx (hu:X.A.units + 64 < cLine) (ha:ED Γ X a ta) (hb:ED Γ X b tb) (hs:d9 b:=by intro _ _; rfl):ED Γ X (.Subscript a b pos) (d2 sIxx ta tb):=λH₀=>impE (K3 (Nv.or (Kr (by omega))) (ha H₀) (hb H₀) hs) (Si Pw)
end
section
variable {X:Cx} {x:Str} {e ke:Expr} {te tk:TD} {np pos pos':Pos}
def Hz (i:Nat) (tk te:TD):TDS:=λρ Z=>match slot ρ i with
 | some ⟨.own,.dk ks ds⟩=>te ρ λr=>tk ρ λkr=>(match r.k with | .own=>False | _=>True) /\ ds.length <= 100000 /\ (match keyD kr.d with
  | some k=>Z.nx (setS ρ i (dO (.dk (kput ks k) (dput ks ds k r.d))))
  | none=>False)
 | _=>False
end
def clrS:DE->Nat->DE
 | [],_=>[]
 | _ :: r,0=>none :: r
 | x :: r,i + 1=>x :: clrS r i
def Xg:∀ (ρ:DE) (i:Nat),clrS ρ i=ρ.set i none
 | [],_=>rfl
 | _ :: _,0=>rfl
 | x :: r,i + 1=>by rw [clrS,Xg r i,List.set_cons_succ]
def XP (Γ:Hp->Prop) (X:Cx) (χ:DE->Addr->Prop):Prop:=∀ (H₀:Hp),Γ H₀->∀ (ρ:DE) (o:List (Nat × Addr)) (pn:List (Addr × Obj)) (σ:St) (H:Hp) (s:Shared) (e:Value) (s':Shared),Inv X pn σ H s->REnv X.K H₀ H σ ρ o ->
 CX1 X.prog X.w X.stack H s (λcls _ H'=>Same H H' /\ ∃ C,cls=.ref C /\ χ ρ C) e s'->X.xe e s'
open PySem.Builtin.Int (intBits)
def cp10 {j:Int} (h0:0 <= j) (h1:j <= 1000):CPow 10 j=True:=by
 refine eq_true ⟨h0,by omega,by decide⟩
def Ua {k:Nat}:((10:Int) ^ k=0)=False:=by
 refine eq_false ?_
 have:(0:Int) < 10 ^ k:=Int.pow_pos (by decide)
 omega
def wt {i j:Int} (h:j ≠ 0) (h1:j.natAbs <= 1000000000000):FdOk i j=True:=eq_true (fdOk (m:=64) h (PySem.intBits_le_iff.mpr (by omega)))
def Rx (l:List D) (k:Nat):cutD l none (some (k:Int))=l.take k:=by
 unfold cutD
 rw [HT.sIx_none,HT.sIx_nat,List.drop_zero,Nat.sub_zero]
 rw [List.take_eq_take_iff]
 omega
def Ry (l:List D) (k:Nat):cutD l (some (k:Int)) none=l.drop k:=by
 unfold cutD
 rw [HT.sIx_none,HT.sIx_nat]
 by_cases h:k <= l.length
 ·rw [Nat.min_eq_left h,List.take_of_length_le (by simp)]
 ·rw [Nat.min_eq_right (by omega),List.drop_of_length_le (zaj _),List.drop_of_length_le (by omega)]
  simp
def Oy (l:List D) (j k:Nat):cutD l (some (j:Int)) (some (k:Int))=(l.drop j).take (k - j):=by
 unfold cutD
 rw [HT.sIx_nat,HT.sIx_nat]
 by_cases h:j <= l.length
 ·rw [Nat.min_eq_left h,List.take_eq_take_iff,List.length_drop]
  omega
 ·rw [show min j l.length=l.length by omega,List.drop_of_length_le (zaj _),List.drop_of_length_le (by omega)]
  simp
def se {α:Type} {l:List α} {i:Int} {x:α} (h0:0 <= i) (h:l[i.toNat]?=some x):atI l i=some x:=by
 have:=atI_nat h
 rwa [Int.toNat_of_nonneg h0] at this
def xv (x m:Int) (h:0 < m):0 <= x.fmod m /\ x.fmod m < m:=⟨Int.fmod_nonneg_of_pos x h,Int.fmod_lt_of_pos x h⟩
def uo {x:Int} {m:Nat} (h:x.natAbs < 2 ^ m):intBits x <= m:=PySem.intBits_le_iff.mpr h
end DL
namespace DL
open PySem PySem.Spec L2 L3
def ye {ti:TID} {g:TGD} {tb:TDS} {ρ:DE} {Z:DZ} (ds:List D) (h:∀ φ:List D->Prop,φ ds->ti ρ φ) (P:Nat->DE->Prop) (h0:P 0 ρ)
  (ht:∀ i d ρ,ds[i]?=some d->P i ρ->g d ρ λρ'=>tb ρ' { Z with nx:=P (i + 1),ct:=P (i + 1),bk:=Z.nx }) (hd:∀ ρ,P ds.length ρ->Z.nx ρ):sFor ti g tb ρ Z:=h _ ⟨P,h0,ht,hd⟩
def v6 {ti:TID} {n:Nat} {js:List Nat} {g:TGD} {tc:TDb} {te:TD} {ρ:DE} {φ:EV->Prop} (ds:List D) (h:∀ ψ:List D->Prop,ψ ds->ti ρ ψ) (f:D->Option D) (hl:ds.length <= 100000)
  (ht:∀ d ∈ ds,g d (ρ0 n js ρ) λρ'=>tc ρ' λc=>(c=true->te ρ' λr=>(match r.k with | .own=>False | _=>True) /\ f d=some r.d) /\ (c=false->f d=none)) (hφ:φ (df (.lst (ds.filterMap f)))):Xf ti n js g tc te ρ φ:=h _ ⟨f,hl,ht,hφ⟩
def x9 {lo:Int} {n i:Nat} {d:D} (h:(rngD lo n)[i]?=some d):i < n /\ d=.int (lo + (i:Int)):=by
 unfold rngD at h
 rw [zai] at h
 cases e:(List.range n)[i]? with
 | none=>rw [e] at h; cases h
 | some m =>
  rw [e] at h
  have hi:=(zag.mp e).1
  rw [List.length_range] at hi
  rw [List.getElem?_range hi] at e
  cases e
  cases h
  exact ⟨hi,rfl⟩
def xf {lo:Int} {n:Nat}:(rngD lo n).length=n:=by unfold rngD; simp
def Jo {α β:Type} (f:α->β) (l:List α) (i:Int):atI (l.map f) i=(atI l i).map f:=by
 unfold atI
 rw [zLm]
 cases ixN l.length i with
 | none=>rfl
 | some j=>simp
end DL
namespace DL
open PySem PySem.Spec L2 L3
open PyProof.Rows hiding St
def yk {X:Cx} {K0:W.Frag} {es:List Expr} {k:Nat} {t:TGs} {n:Nat} {pos:Pos} (hK:X.K=K0) (hc:X.calm=true) (h:PGs X es t) (hn:(assignEach es X.env).length=n:=by rfl) (hst:(assignEach es X.env).findIdx? (·.1)=none:=by rfl):PG X (.Tuple es k pos) (gTup K0 n t):=by
 subst hK
 exact Gq hc h hn hst
end DL
namespace DL
open PySem PySem.Spec L2 L3
open PyProof.Rows hiding St
variable {Γ:Hp->Prop}
def zipD (xs ys:List D):List D:=List.zipWith (λx y=>D.tup [x,y]) xs ys
def seqD:D->Option (List D)
 | .lst ds=>some ds
 | .tup ds=>some ds
 | .scr ns=>some (ns.map D.int)
 | _=>none
def Qv {ds:List D}:seqD (.lst ds)=some ds:=rfl
def Qt {ds:List D}:seqD (.tup ds)=some ds:=rfl
def Qu {ns:List Int}:seqD (.scr ns)=some (ns.map D.int):=rfl
def SeqP (b:Bool) (K:W.Frag) (H:Hp) (O:List Addr) (l:Addr) (d:D):Prop:=match d with
 | .lst ds=>b=false /\ ∃ xs,H l=some (.lst xs) /\ l ∉ O /\ Reps K H O ds xs
 | .tup ds=>b=true /\ ∃ xs,SqT K H l xs /\ Reps K H O ds xs
 | .scr ns=>b=false /\ Scr K H l ns
 | _=>False
def SeqP.of {K:W.Frag} {H:Hp} {O:List Addr} {d:D} {v:V} {ds:List D} (h:Rep K H O d v) (e:seqD d=some ds):∃ b l,v=.ref l /\ SeqP b K H O l d:=by
 cases d with
 | lst es=>obtain ⟨a,xs,rfl,q,n,r⟩:=h; exact ⟨false,a,rfl,rfl,xs,q,n,r⟩
 | tup es=>obtain ⟨a,xs,rfl,q,r⟩:=h; exact ⟨true,a,rfl,rfl,xs,q.1,r⟩
 | scr ns=>obtain ⟨a,rfl,q⟩:=h; exact ⟨false,a,rfl,rfl,q⟩
 | _=>cases e
def SeqP.sq {b:Bool} {K:W.Frag} {H:Hp} {O:List Addr} {l:Addr} {d:D} {ds:List D} (h:SeqP b K H O l d) (e:seqD d=some ds):∃ xs,SqK b K H l xs /\ Reps K H O ds xs:=by
 cases d with
 | lst es=>obtain ⟨rfl,xs,q,n,r⟩:=h; cases e; exact ⟨xs,SqL.of q,r⟩
 | tup es=>obtain ⟨rfl,xs,q,r⟩:=h; cases e; exact ⟨xs,q,r⟩
 | scr ns=>obtain ⟨rfl,q⟩:=h; cases e; exact ⟨_,q.seq,Reps.ints ns⟩
 | _=>cases e
def SeqP.grow {b:Bool} {K:W.Frag} {H H':Hp} {O O':List Addr} {l:Addr} {d:D} (h:SeqP b K H O l d) (g:Grow O O' H H'):SeqP b K H' O' l d:=by
 cases d with
 | lst es=>obtain ⟨rfl,xs,q,n,r⟩:=h; exact ⟨rfl,xs,(g.keep _ _ q n).1,(g.keep _ _ q n).2,Reps.grow g _ _ r⟩
 | tup es=>obtain ⟨rfl,xs,q,r⟩:=h; exact ⟨rfl,xs,g6 g q,Reps.grow g _ _ r⟩
 | scr ns=>obtain ⟨rfl,q⟩:=h; exact ⟨rfl,re g q⟩
 | _=>exact h.elim
section
variable {X:Cx} {pn:List (Addr × Obj)} {σ:St} {H:Hp} {s:Shared}
def E3 {K:W.Frag} {b1 b2:Bool} {l1 l2:Addr} {d1 d2:D} {xs ys:List D} (e1:seqD d1=some xs) (e2:seqD d2=some ys):ItD K (Itz b1 b2 K l1 l2) (zipD xs ys) (λH O=>SeqP b1 K H O l1 d1 /\ SeqP b2 K H O l2 d2) where
 go:=λH O i d ⟨p1,p2⟩ e=>by
  obtain ⟨us,q1,r1⟩:=p1.sq e1
  obtain ⟨vs,q2,r2⟩:=p2.sq e2
  unfold zipD at e
  rw [List.getElem?_zipWith] at e
  cases ex:xs[i]? with
  | none=>rw [ex] at e; cases e
  | some x =>
   cases ey:ys[i]? with
   | none=>rw [ex,ey] at e; cases e
   | some y =>
    rw [ex,ey] at e
    cases e
    obtain ⟨u,eu,ru⟩:=r1.get ex
    obtain ⟨v,ev,rv⟩:=r2.get ey
    refine ⟨⟨us,vs,u,v,q1,q2,eu,ev⟩,λz H' yl=>?_⟩
    obtain ⟨T,u',v',hT,rfl,eu',ev',rfl⟩:=yl
    have eu':=eu' _ q1
    have ev':=ev' _ q2
    rw [eu] at eu'
    rw [ev] at ev'
    cases eu'
    cases ev'
    have sm:Same H (upd H T (.tup [u,v])):=λb w hb=>by rw [zg (zb hb hT)]; exact hb
    refine ⟨sm,T,[u,v],rfl,⟨.inl (.inl zh),zh⟩,?_⟩
    exact ⟨u,[v],rfl,Rep.grow (Grow.same sm) _ _ ru,v,[],rfl,Rep.grow (Grow.same sm) _ _ rv,rfl⟩
 stop:=λH O ⟨p1,p2⟩=>by
  obtain ⟨us,q1,r1⟩:=p1.sq e1
  obtain ⟨vs,q2,r2⟩:=p2.sq e2
  refine ⟨us,vs,q1,q2,?_⟩
  have h1:=r1.length
  have h2:=r2.length
  unfold zipD
  rw [List.length_zipWith,h1,h2]
  omega
 keep:=λO O' H H' ⟨p1,p2⟩ g=>⟨p1.grow g,p2.grow g⟩
def iZ (t:TDs):TID:=λρ φ=>t ρ λrs=>match rs with
 | [⟨k1,d1⟩,⟨k2,d2⟩]=>(match k1 with | .own=>False | _=>True) /\ (match k2 with | .own=>False | _=>True) /\ match seqD d1,seqD d2 with
  | some xs,some ys=>φ (zipD xs ys)
  | _,_=>False
 | _=>False
def Rf {es:List Expr} {kk:Nat} {tp:Pos} {a b:Expr} {t:TDs} {p pos:Pos} (hm:X.mg "zip" = none) (ha:EA Γ X [a,b] t) (hg:Gl X "zip":=by rfl)
  (he:starEach [a,b] X.env=(false,eval a X.env) :: starEach [b] X.env:=by rfl) (hpl:(backTo pos (starEach [b] X.env)).any (·.1)=false:=by rfl):EI Γ X (.Tuple es kk tp) (.Call (.Name "zip" p) [a,b] [] pos) (iZ t):=λH₀=>impI (Gp hg hm (ha H₀) he hpl) λσ H R q=>by
 obtain ⟨ρ,o,RE,φ,hφ,k⟩:=q
 refine ⟨ρ,o,RE,_,hφ,λvs rs H1 s1 rvs h1=>?_⟩
 split at h1
 ·rename_i k1 d1 k2 d2
  obtain ⟨n1,n2,h1⟩:=h1
  obtain ⟨v1,w1,rfl,q1,v2,w2,rfl,q2,rfl⟩:=rvs
  have p1:=q1.solid (wo n1)
  have p2:=q2.solid (wo n2)
  split at h1
  ·rename_i xs ys e1 e2
   obtain ⟨b1,l1,rfl,z1⟩:=SeqP.of p1 e1
   obtain ⟨b2,l2,rfl,z2⟩:=SeqP.of p2 e2
   obtain ⟨us,y1,_⟩:=z1.sq e1
   obtain ⟨ws,y2,_⟩:=z2.sq e2
   exact ⟨b1,b2,l1,l2,us,ws,rfl,y1,y2,k _ _ _ H1 s1 (E3 e1 e2) ⟨z1,z2⟩ h1⟩
  ·exact h1.elim
 ·exact h1.elim
def ints_of:∀ {ns:List Int} {its:List Value},Vals (ns.map V.int) its->∃ xs:List (Int × Tok),its=xs.map (λp=>Value.int p.1 p.2) /\ xs.map (·.1)=ns
 | [],_,h=>by cases h; exact ⟨[],rfl,rfl⟩
 | n :: ns,_,h=>by
  cases h with
  | cons r t =>
   obtain ⟨xs,e1,e2⟩:=ints_of t
   obtain ⟨tk,rfl⟩:=r
   exact ⟨(n,tk) :: xs,by rw [e1]; rfl,by rw [<- e2]; rfl⟩
def Q2 (hc:X.calm=true):wg X (.builtin "sum") (λxs H Q=>∃ (p:Addr) (ns:List Int),xs=[.ref p] /\ SqL X.K H p (ns.map V.int) /\ Q (.int ns.sum) H):=by
 intro pn s σ H xs us Q I r h
 obtain ⟨p,ns,rfl,hq,q⟩:=h
 obtain ⟨u,rfl,rx⟩:=vv r
 cases rx
 obtain ⟨its,rv,pl,hz⟩:=I.list hq
 obtain ⟨xs,e1,e2⟩:=ints_of rv
 have hl:s.heap.IsList p (intItems xs.toArray):=by
  have:=pl.isList
  rw [e1] at this
  unfold intItems
  simpa using this
 refine sum_intListG (I.ok.hd hc) hl λh' tk t' hk=>?_
 rw [preSum_eq,List.take_of_length_le (by simp)]
 rw [show xs.toArray.toList.map (·.1)=ns from e2]
 exact ⟨.int ns.sum,H,I.kept (t':=tk) hk,⟨t',rfl⟩,q⟩
def vc:List D->Option (List Int)
 | []=>some []
 | .int n :: r=>(vc r).map (n :: ·)
 | _ :: _=>none
def rj:∀ {ds:List D} {ns:List Int},vc ds=some ns->ds=ns.map D.int
 | [],ns,h=>by cases h; rfl
 | d :: r,ns,h=>by
  cases d with
  | int n =>
   cases e:vc r with
   | none=>unfold vc at h; rw [e] at h; cases h
   | some ms =>
    unfold vc at h
    rw [e] at h
    cases h
    rw [rj e]
    rfl
  | _=>cases h
def wd:∀ (ns:List Int),vc (ns.map D.int)=some ns
 | []=>rfl
 | n :: ns=>by rw [List.map_cons,vc,wd ns]; rfl
def u6 {K:W.Frag} {H:Hp} {O:List Addr}:∀ {ns:List Int} {xs:List V},Reps K H O (ns.map D.int) xs->xs=ns.map V.int
 | [],_,h=>h
 | n :: ns,xs,h=>by
  obtain ⟨v,r,rfl,q,t⟩:=h
  rw [u6 t]
  cases (show v=_ from q)
  rfl
def sSum:FT:=λds φ=>match ds with
 | [.lst l]=>match vc l with
  | some ns=>φ (dv (.int ns.sum))
  | none=>False
 | _=>False
def Jd {e:Expr} {es:List Expr} {t:TDs} {p pos:Pos} (hm:X.mg "sum" = none) (ha:EA Γ X (e :: es) t) (hc:X.calm=true:=by rfl) (hg:Gl X "sum":=by rfl) (he:starEach (e :: es) X.env=(false,eval e X.env) :: starEach es X.env:=by rfl) (hpl:(backTo pos (starEach es X.env)).any (·.1)=false:=by rfl):ED Γ X (.Call (.Name "sum" p) (e :: es) [] pos) (dCB sSum t) :=
 wl (Q2 hc) (λH O ds vs φ Q ho hv h k=>by
  unfold sSum at h
  split at h
  ·rename_i l
   split at h
   ·rename_i ns en
    obtain ⟨v,ws,rfl,⟨a,xs,rfl,q,r⟩,rfl⟩:=hv
    have el:=rj en
    subst el
    have:=u6 r
    subst this
    exact ⟨a,ns,rfl,SqL.of q,k _ _ H (Same.refl H) (by exact rfl) h⟩
   ·exact h.elim
  ·exact h.elim) hm (by kernel_rfl) ha hg (by decide) (by decide) he hpl
end
def frzS:DE->Nat->DE
 | [],_=>[]
 | x :: r,0=>x.map (λr=>dv r.d) :: r
 | x :: r,i + 1=>x :: frzS r i
def Wp:∀ (ρ:DE) (i j:Nat),(frzS ρ i)[j]?=if j=i then ρ[j]?.map (λx=>x.map λr=>dv r.d) else ρ[j]?
 | [],i,j=>by simp [frzS]
 | x :: r,0,0=>rfl
 | x :: r,0,j + 1=>by simp [frzS]
 | x :: r,i + 1,0=>by simp [frzS]
 | x :: r,i + 1,j + 1=>by
  have:=Wp r i j
  simp only [frzS,List.getElem?_cons_succ,this]
  by_cases h:j=i
  ·simp [h]
  ·rw [if_neg h,if_neg (by omega)]
def Wo:∀ (ρ:DE) (i:Nat),(frzS ρ i).length=ρ.length
 | [],_=>rfl
 | _ :: _,0=>rfl
 | x :: r,i + 1=>by simp [frzS,Wo r i]
def REnv.frz1 {K:W.Frag} {H₀ H:Hp} {σ:St} {ρ:DE} {o:List (Nat × Addr)} (R:REnv K H₀ H σ ρ o) (i:Nat):∃ o',REnv K H₀ H σ (frzS ρ i) o' /\ ∀ p ∈ o',p ∈ o:=by
 refine ⟨o.filter λp=>decide (p.1 ≠ i),?_,λp hp=>(List.mem_filter.mp hp).1⟩
 have sub:∀ p ∈ o.filter (λp=>decide (p.1 ≠ i)),p ∈ o:=λp hp=>(List.mem_filter.mp hp).1
 have subA:∀ a ∈ (o.filter (λp=>decide (p.1 ≠ i))).map Prod.snd,a ∈ o.map Prod.snd:=λa ha=>by
  obtain ⟨p,hp,e⟩:=zah.mp ha
  exact zah.mpr ⟨p,sub p hp,e⟩
 exact {
  same:=R.same
  fresh:=λp hp=>R.fresh p (sub p hp)
  trk:=λp hp=>R.trk p (sub p hp)
  mtb:=λp hp=>R.mtb p (sub p hp)
  nda:=List.Nodup.sublist (List.Sublist.map _ List.filter_sublist) R.nda
  len:=by rw [Wo]; exact R.len
  slots:=λj r e=>by
   rw [Wp] at e
   by_cases hj:j=i
   ·rw [if_pos hj] at e
    cases e1:ρ[j]? with
    | none=>rw [e1] at e; cases e
    | some x =>
     rw [e1] at e
     cases x with
     | none=>cases e
     | some r' =>
      have e':some (dv r'.d)=some r:=Option.some.inj e
      cases e'
      obtain ⟨v,ev,q⟩:=R.slots j r' e1
      refine ⟨v,ev,.inl ⟨rfl,?_⟩⟩
      rcases q with ⟨_,q⟩ | ⟨_,a,rfl,m,c⟩
      ·exact Rep.sub subA _ _ q
      ·refine (c.sub subA).rep λz=>?_
       obtain ⟨p,hp,ep⟩:=zah.mp z
       have:=X1 R.nda (sub p hp) m ep
       have hne:=of_decide_eq_true (List.mem_filter.mp hp).2
       rw [this] at hne
       exact hne hj
   ·rw [if_neg hj] at e
    obtain ⟨v,ev,q⟩:=R.slots j r e
    refine ⟨v,ev,?_⟩
    rcases q with ⟨k,q⟩ | ⟨k,a,e1,m,c⟩
    ·exact .inl ⟨k,Rep.sub subA _ _ q⟩
    ·exact .inr ⟨k,a,e1,List.mem_filter.mpr ⟨m,decide_eq_true hj⟩,c.sub subA⟩ }
def sFrz (i:Nat) (t:TDS):TDS:=λρ Z=>t (frzS ρ i) Z
def W2 (i:Nat) {X:Cx} {st:Stmt} {t:TDS} (h:SD Γ X st t):SD Γ X st (sFrz i t):=λH₀=>impS (h H₀) λD σ H h=>by
 obtain ⟨ρ,o,R,Z,hZ,k1,k2,k3,k4⟩:=h
 obtain ⟨o',R',sub⟩:=R.frz1 i
 have g:Grow (o.map Prod.snd) (o'.map Prod.snd) H H:=⟨λb u h n=>⟨h,λz=>n (by
  obtain ⟨p,hp,e⟩:=zah.mp z
  exact zah.mpr ⟨p,sub p hp,e⟩)⟩,λb xs h=>h,λb ob u h=>h⟩
 exact ⟨_,o',R',Z,hZ,λρ2 σ2 H2 o2 g2 R2 q2=>k1 ρ2 σ2 H2 o2 (g.trans g2) R2 q2,λρ2 σ2 H2 o2 g2 R2 q2=>k2 ρ2 σ2 H2 o2 (g.trans g2) R2 q2,λρ2 σ2 H2 o2 g2 R2 q2=>k3 ρ2 σ2 H2 o2 (g.trans g2) R2 q2,k4⟩
section
variable {X:Cx} {x:Str} {e ke:Expr} {te tk:TD} {np pos pos':Pos}
def Li (i:Nat) (tk te:TD):TDS:=λρ Z=>match slot ρ i with
 | some ⟨.own,.lst ds⟩=>te ρ λr=>tk ρ λkr=>(match r.k with | .own=>False | _=>True) /\ (match kr.d with
  | .int k=>(match ixN ds.length k with
   | some j=>Z.nx (setS ρ i (dO (.lst (ds.set j r.d))))
   | none=>False)
  | _=>False)
 | _=>False
def Y6 (i:Nat) (hu:X.A.units + 64 < cLine) (hk:ED Γ X ke tk) (he:ED Γ X e te) (hN:X.N[i]?=some x:=by rfl) (hv:Vis X.env.scope x:=by first | exact Or.inl rfl | exact Or.inr (Or.inl rfl) | exact Or.inr (Or.inr rfl)) (hd:(x == ("__debug__" : Str))=false:=by decide)
  (hcd:(x == ("__classdict__" : Str))=false:=by decide) (hs:swapsWithSole [.Subscript (.Name x np) ke pos'] e pos.line X.env=pure false:=by rfl) (hw:swappedStores [.Subscript (.Name x np) ke pos'] e X.env=pure none:=by rfl)
  (h1:(assignEach [.Subscript (.Name x np) ke pos'] X.env).map (·.2)=[assign (.Subscript (.Name x np) ke pos') X.env]:=by rfl)
  (ha:∀ v,assign (.Subscript (.Name x np) ke pos') X.env v=(do
   let ov <- holding [v] (eval (.Name x np) X.env)
   let iv <- holding [v,ov] (eval ke X.env)
   standAt pos'
   holding [v,ov,iv] (setItem ov iv v)
   release [v,ov,iv] []):=by intro _; rfl):SD Γ X (.Assign [.Subscript (.Name x np) ke pos'] e pos) (Li i tk te):=λH₀ =>
 impS (Gm (he H₀) (Gr (wa hN hv hd hcd) (hk H₀) Qs ha) hs hw h1) λD σ H h=>by
  obtain ⟨ρ,o,R,Z,hZ,k1,k2,k3,k4⟩:=h
  unfold Li at hZ
  split at hZ
  ·rename_i ds es
   obtain ⟨v0,ev0,q0⟩:=R.slots i _ (yi es)
   rcases q0 with ⟨k,_⟩ | ⟨_,a,rfl,m,c⟩
   ·cases k
   obtain ⟨xs,hx,rx⟩:=c
   refine ⟨ρ,o,R,_,hZ,λv r H1 s1 rv h1=>⟨.ref a,ev0,ρ,o,R.to s1,_,h1,λv2 r2 H2 s2 rv2 h2=>?_⟩⟩
   obtain ⟨h0,h2⟩:=h2
   have vw:=rv2.view
   split at h2
   ·rename_i k ek
    rw [ek] at vw
    cases (show v2=_ from vw)
    split at h2
    ·rename_i j ej
     have s12:=s1.trans s2
     have hx2:=s12 _ _ hx
     have rx2:=Reps.grow (Grow.same s12) _ _ rx
     refine ⟨a,xs,k,j,rfl,rfl,hx2,by rw [rx.length]; exact ej,?_⟩
     obtain ⟨R3,g3⟩:=(R.to s12).chg (d':=.lst (ds.set j r.d)) (ho:=.lst (xs.set j v)) (yi es) ev0 m ⟨λ_ z=>(by cases z),λ_ _ z=>(by cases z)⟩ λgr =>
      ⟨xs.set j v,zh,gr _ _ (rx2.set j ((rv.same s2).solid (wo h0)))⟩
     exact k1 _ σ _ o ((Grow.same s12).trans g3) R3 h2
    ·exact h2.elim
   ·exact h2.elim
  ·exact hZ.elim
end
def blsD:List D->Option (List Bool)
 | []=>some []
 | .bl b :: r=>(blsD r).map (b :: ·)
 | _ :: _=>none
def Q6:∀ {ds:List D} {bs:List Bool},blsD ds=some bs->ds=bs.map D.bl
 | [],bs,h=>by cases h; rfl
 | d :: r,bs,h=>by
  cases d with
  | bl n =>
   cases e:blsD r with
   | none=>unfold blsD at h; rw [e] at h; cases h
   | some ms =>
    unfold blsD at h
    rw [e] at h
    cases h
    rw [Q6 e]
    rfl
  | _=>cases h
def Wx:∀ (bs:List Bool),blsD (bs.map D.bl)=some bs
 | []=>rfl
 | b :: bs=>by rw [List.map_cons,blsD,Wx bs]; rfl
def W7 {K:W.Frag} {H:Hp} {O:List Addr}:∀ {bs:List Bool} {xs:List V},Reps K H O (bs.map D.bl) xs->xs=bs.map V.bl
 | [],_,h=>h
 | n :: bs,xs,h=>by
  obtain ⟨v,r,rfl,q,t⟩:=h
  rw [W7 t]
  cases (show v=_ from q)
  rfl
section
variable {X:Cx} {e:Expr} {es:List Expr} {t:TDs} {p pos:Pos}
def P1 (g:List Bool->Bool):FT:=λds φ=>match ds with
 | [.lst l]=>match blsD l with
  | some bs=>φ (dv (.bl (g bs)))
  | none=>False
 | _=>False
def Pz {f:List V->Bool} {g:List Bool->Bool} (hf:∀ bs:List Bool,f (bs.map V.bl)=g bs):Qc X.K (rAll X.K f) (P1 g):=by
 intro H O ds vs φ Q ho hv h k
 unfold P1 at h
 split at h
 ·rename_i l
  split at h
  ·rename_i bs en
   obtain ⟨v,ws,rfl,⟨a,xs,rfl,q,r⟩,rfl⟩:=hv
   have el:=Q6 en
   subst el
   have:=W7 r
   subst this
   refine ⟨a,_,rfl,.inl (SqL.of q),λy hy=>?_,?_⟩
   ·obtain ⟨b,_,rfl⟩:=zah.mp hy
    rfl
   ·rw [hf]
    exact k _ _ H (Same.refl H) (by exact rfl) h
  ·exact h.elim
 ·exact h.elim
def Jh (hm:X.mg "all" = none) (ha:EA Γ X (e :: es) t) (hc:X.calm=true:=by rfl) (hg:Gl X "all":=by rfl) (he:starEach (e :: es) X.env=(false,eval e X.env) :: starEach es X.env:=by rfl) (hpl:(backTo pos (starEach es X.env)).any (·.1)=false:=by rfl):ED Γ X (.Call (.Name "all" p) (e :: es) [] pos) (dCB (P1 λbs=>bs.all id) t) :=
 wl (Zq hc) (Pz λbs=>by
  induction bs with
  | nil=>rfl
  | cons b bs ih=>rw [List.map_cons,List.all_cons,List.all_cons,ih]; cases b <;> rfl) hm (by kernel_rfl) ha hg (by decide) (by decide) he hpl
end
end DL
namespace HT
open PySem PyProof.Rows
section
variable {prog:Program} {w:World} {A:Around} {E:Value->Shared->Prop} {s:Shared}
def getItem_tuple_whole {t sl:Addr} {items:Array Value} {vl vu:Value} {lo hi:Option Int} {Q:Value->Shared->Prop} (ht:IsTup s.heap t items) (hs:s.heap.IsSliceOf sl vl vu .none) (pl:IsPart vl lo) (pu:IsPart vu hi)
  (hw:sIx items.size 0 lo=0 /\ sIx items.size items.size hi=items.size)
  (h:∀ tk,Q (.ref t) { s with toks:=tk }):wpAny (model prog w) A (getItem (.ref t) (.ref sl)) Q E s:=by
 obtain ⟨os,hos,hcs,hds⟩:=id hs
 have hTs:s.TypeIs (.ref sl) "slice":=⟨os,hos,hcs⟩
 unfold getItem
 try with_reducible refine wpAny_holding ?_
 first | refine zaa (zab ?_) | skip
 refine zaa (wpAny_sequenceKey ht.typeIs (by decide) ?_)
 refine zaa (wpAny_callSpecial?_slot (name:=Str.ofString "__getitem__") ht.typeIs PyProof.Rows.slot_tuple_getitem
  (wpAny_call_entry PyProof.Rows.slot_tuple_getitem ht.typeIs entry_tuple_getitem ?_ (args_tuple_getitem _ _)))
 show wpAny _ _ (Builtin.Tuple.tupleItemsOf (.ref t) >>= _) _ _ s
 refine zaa (tupleItemsOf_ ht ?_)
 refine zaa (wpAny_typeOf hTs ?_)
 rw [if_pos (by decide)]
 refine zaa (wn hs pl pu ?_)
 have hyes:((((sIx items.size 0 lo:Nat):Int) == 0 && (1:Int) == 1 && (sIx items.size items.size hi - sIx items.size 0 lo) == items.size)=true):=by
  rw [hw.1,hw.2]
  simp
 show wpAny _ _ (if (((sIx items.size 0 lo:Nat):Int) == 0 && (1:Int) == 1 && (sIx items.size items.size hi - sIx items.size 0 lo) == items.size)=true then _ else _) _ _ s
 rw [if_pos hyes]
 refine zaa (m:=Builtin.Tuple.tupleIsExact _) (zaa (wpAny_typeOf ht.typeIs (zab ?_)))
 rw [if_pos (by decide)]
 exact zaa (wpAny_rule (zab ⟨_,rfl,zab (h s.toks)⟩))
def cat_tup0 {t b:Addr} {ws:List Value} {Q:Value->Shared->Prop} (ht:IsTup s.heap t #[]) (hb:IsTup s.heap b ws.toArray)
  (h1:Q (.ref b) s):wpAny (model prog w) A (binaryOp .Add (.ref t) (.ref b)) Q E s:=by
 obtain ⟨⟨cls,dd,data,sl⟩,ho,hc,n,hd⟩:=id ht
 obtain ⟨⟨cls2,dd2,data2,sl2⟩,ho2,hc2,n2,hd2⟩:=id hb
 simp only at hc hd hc2 hd2
 subst hc hd hc2 hd2
 exact concat_meets ⟨_,ho,rfl⟩ ⟨_,ho2,rfl⟩ noFill_tuple_add seq_tuple_add PySem.F.slot_tuple_add PySem.F.entry_tuple_add (PySem.F.args_tuple_add_2 _ _)
   (tuple_addW0 t b #[] ws.toArray n n2 dd dd2 sl sl2 (by simp)) ⟨ho,ho2,h1⟩
end
end HT
namespace L2
open PySem PySem.Spec PyProof.Rows
section
variable {X:Cx}
def rSlW (K:W.Frag):V->Option Int->Option Int->Hp->VK->Prop:=λx lo hi H Q=>∃ a xs,x=.ref a /\ SqT K H a xs /\
 (HT.sIx xs.length 0 lo=0 /\ HT.sIx xs.length xs.length hi=xs.length) /\ Q (.ref a) H
def La:SlR X (rSlW X.K):=by
 intro pn s σ H x v vl vu lo hi sl Q I rx hs pl pu h
 obtain ⟨a,xs,rfl,hx,hw,q⟩:=h
 cases rx
 obtain ⟨its,r,ht,hz⟩:=I.tuple hx
 have hlen:its.toArray.size=xs.length:=by rw [zap]; exact r.length.symm
 refine ⟨"tuple", _,PyProof.Rows.slot_tuple_getitem.lookup,ht.typeIs,?_⟩
 exact HT.getItem_tuple_whole ht hs pl pu (by rw [hlen]; exact hw) λtk=>⟨.ref a,H,I.tok tk,rfl,q⟩
def Gb (K:W.Frag):R2:=λx y H Q=>∃ a b ys,x=.ref a /\ y=.ref b /\ SqT K H a [] /\ SqT K H b ys /\ Q (.ref b) H
def Pn:OpR X (binaryOp .Add) (Gb X.K):=by
 intro pn s σ H x y v u Q I rx ry h
 obtain ⟨a,b,ys,rfl,rfl,ha,hb,q⟩:=h
 cases rx
 cases ry
 obtain ⟨its,r1,p1,_⟩:=I.tuple ha
 obtain ⟨its2,r2,p2,_⟩:=I.tuple hb
 cases r1
 exact HT.cat_tup0 p1 p2 ⟨.ref b,H,I,rfl,q⟩
end
end L2
namespace DL
open PySem PySem.Spec L2 L3
open PyProof.Rows hiding St
variable {Γ:Hp->Prop}
def RV.anew {K:W.Frag} {H0 H:Hp} {O:List Addr} {r:EV} {v:V} (h:RV K H0 H O r v) (p:ww r):RepN K H (λa=>a ∉ O /\ H0 a=none) r.d v:=by
 obtain ⟨k,d⟩:=r
 cases k with
 | val=>exact Rep.toN _ _ p h
 | own=>exact p.elim
 | new=>exact h
 | fre =>
  obtain ⟨a,rfl,m,n,c⟩:=h
  cases d with
  | lst ds=>obtain ⟨xs,q,r⟩:=c; exact ⟨a,xs,rfl,q,⟨n,m⟩,Reps.toN _ _ p r⟩
  | dk ks ds=>obtain ⟨xs,q,l,nd,r⟩:=c; exact ⟨a,xs,rfl,q,⟨n,m⟩,l,nd,Reps.toN _ _ p r⟩
  | dt ks ds=>obtain ⟨xs,q,l,nd,r⟩:=c; exact ⟨a,xs,rfl,q,⟨n,m⟩,l,nd,Reps.toN _ _ p r⟩
  | fd m'=>exact ⟨a,rfl,c,n,m⟩
  | dp rs=>obtain ⟨o,q,r⟩:=c; exact ⟨a,o,rfl,q,⟨n,m⟩,r⟩
  | _=>exact c.elim
def gd:List EV->Prop
 | []=>True
 | r :: rs=>ww r /\ gd rs
def RVs.anew {K:W.Frag} {H0 H:Hp} {O:List Addr}:∀ {rs:List EV} {vs:List V},RVs K H0 H O rs vs->gd rs->y4 K H (λa=>a ∉ O /\ H0 a=none) (rs.map EV.d) vs
 | [],_,h,_=>h
 | r :: rs,vs,h,p=>by
  obtain ⟨v,ws,e,h1,t⟩:=h
  exact ⟨v,ws,e,h1.anew p.1,RVs.anew t p.2⟩
section
variable {X:Cx} {a b e ix:Expr} {es:List Expr} {t:TDs} {ta tb te tk:TD} {pos:Pos}
def Eo (t:TDs):TD:=λρ φ=>t ρ λrs=>gd rs /\ Nat.ble rs.length 1000=true /\ φ ⟨.new,.tup (rs.map EV.d)⟩
def Jc {x1} (h:EA Γ X es t):ED Γ X (.Tuple es x1 pos) (Eo t):=λH₀=>impE (Np (h H₀)) λσ H Q q=>by
 obtain ⟨ρ,o,R,φ,hφ,k⟩:=q
 refine ⟨ρ,o,R,_,hφ,λvs rs H1 s1 rvs h1=>⟨by rw [rvs.length]; exact Ym h1.2.1,λp hp=>?_⟩⟩
 refine k _ ⟨.new,.tup (rs.map EV.d)⟩ _ (s1.trans (zr hp _)) ⟨p,vs,rfl,⟨SqT.of zh,zh⟩,y4.to (zr hp _) (λ_ z=>z) _ _ (rvs.anew h1.1)⟩ h1.2.2
def Jk (ta tb:TD):TD:=λρ φ=>ta ρ λx=>tb ρ λy=>match x.d,y.d with
 | .tup p,.tup q=>ww x /\ ww y /\ p.length + q.length <= sizeLine /\ φ ⟨.new,.tup (p ++ q)⟩
 | _,_=>False
def fx (ha:ED Γ X a ta) (hb:ED Γ X b tb):ED Γ X (.BinOp a .Add b pos) (Jk ta tb):=λH₀=>impE (Gs (Tv.or Pn) (ha H₀) (hb H₀)) λσ H Q q=>by
 obtain ⟨ρ,o,R,φ,hφ,k⟩:=q
 refine ⟨ρ,o,R,_,hφ,λv1 r1 H1 s1 rv1 h1=>⟨ρ,o,R.to s1,_,h1,λv2 r2 H2 s2 rv2 h2=>?_⟩⟩
 have n1:=λp=>(rv1.same s2).anew p
 have n2:=λp=>(rv2.start s1).anew p
 obtain ⟨k1,d1⟩:=r1
 obtain ⟨k2,d2⟩:=r2
 cases d1 with
 | tup p =>
  cases d2 with
  | tup q =>
   obtain ⟨p1,p2,hl,hn⟩:=h2
   obtain ⟨a1,xs,rfl,q1,r1⟩:=n1 p1
   obtain ⟨a2,ys,rfl,q2,r2⟩:=n2 p2
   have l1:=r1.length
   have l2:=r2.length
   cases p with
   | nil =>
    have e:xs=[]:=List.eq_nil_of_length_eq_zero l1
    subst e
    exact .inr ⟨a1,a2,ys,rfl,rfl,q1.1,q2.1,k _ ⟨.new,.tup q⟩ H2 (s1.trans s2) ⟨a2,ys,rfl,q2,r2⟩ hn⟩
   | cons d p =>
    refine .inl ⟨a1,a2,xs,ys,rfl,rfl,q1.1,q2.1,(λz=>by subst z; cases l1),by rw [l1,l2]; exact hl,λz=>?_,λz p' hp=>?_⟩
    ·subst z
     have e:q=[]:=List.eq_nil_of_length_eq_zero l2.symm
     subst e
     rw [List.append_nil] at hn
     exact k _ ⟨.new,.tup (d :: p)⟩ H2 (s1.trans s2) ⟨a1,xs,rfl,q1,r1⟩ hn
    ·exact k _ ⟨.new,.tup (d :: p ++ q)⟩ _ ((s1.trans s2).trans (zr hp _)) ⟨p',xs ++ ys,rfl,⟨SqT.of zh,zh⟩,y4.to (zr hp _) (λ_ z=>z) _ _ (r1.append r2)⟩ hn
  | _=>exact h2.elim
 | _=>exact h2.elim
def dSlT (te:TD) (tl th:TDo):TD:=λρ φ=>te ρ λx=>tl ρ λl=>th ρ λu=>match x.d with
 | .tup ds=>φ (dv (.tup (cutD ds l u)))
 | _=>False
def Vu {ds:List D} {l u:Option Int} (h:HT.sIx ds.length 0 l=0 /\ HT.sIx ds.length ds.length u=ds.length):cutD ds l u=ds:=by
 unfold cutD
 rw [h.1,h.2]
 simp
def Zg {lo hi:Option Expr} {tl th:TDo} {p2:Pos} (he:ED Γ X e te) (hl:EO Γ X lo tl) (hu:EO Γ X hi th):ED Γ X (.Subscript e (.Slice lo hi none p2) pos) (dSlT te tl th):=λH₀ =>
 impE (Wb (La.or Ng) (he H₀) (hl H₀) (hu H₀)) λσ H Q q=>by
  obtain ⟨ρ,o,R,φ,hφ,k⟩:=q
  refine ⟨ρ,o,R,_,hφ,λv r H1 s1 rv h1=>⟨ρ,o,R.to s1,_,h1,λl H2 s2 h2=>⟨ρ,o,R.to (s1.trans s2),_,h2,λu H3 s3 h3=>?_⟩⟩⟩
  have s12:=s1.trans s2
  have s13:=s12.trans s3
  have vw:=(rv.same (s2.trans s3)).view
  obtain ⟨kd,d⟩:=r
  cases d with
  | tup ds =>
   obtain ⟨a,xs,rfl,q,r⟩:=vw
   by_cases hw:HT.sIx ds.length 0 l=0 /\ HT.sIx ds.length ds.length u=ds.length
   ·refine .inl ⟨a,xs,rfl,q.1,by rw [r.length]; exact hw,?_⟩
    have h3':φ (dv (.tup ds)):=by
     have:=h3
     simp only [Vu hw] at this
     exact this
    exact k _ (dv (.tup ds)) _ s13 ⟨a,xs,rfl,q,r⟩ h3'
   ·refine .inr ⟨a,xs,rfl,q.1,by rw [r.length]; exact hw,λp hp=>?_⟩
    exact k _ _ _ (s13.trans (zr hp _)) (RV.start (qe hp (rf r l u)) s13) h3
  | _=>exact h3.elim
def popD (ds:List D):Option (List D × D):=match ds.getLast? with
 | some d=>some (ds.dropLast,d)
 | none=>none
def Pc (ds:List D) (d:D):popD (ds ++ [d])=some (ds,d):=by
 unfold popD
 simp
end
end DL
namespace DL
open PySem PySem.Spec L2 L3
open PyProof.Rows hiding St
def nsD (ns:List Int):List D:=ns.map D.int
def g1 (g:D->(EV->Prop)->Prop):FT:=λds φ=>match ds with
 | [d]=>g d φ
 | _=>False
def g2 (g:D->D->(EV->Prop)->Prop):FT:=λds φ=>match ds with
 | [d,e]=>g d e φ
 | _=>False
def Dt {g:D->(EV->Prop)->Prop} {ds:List D} {φ:EV->Prop} (h:g1 g ds φ):∃ d,ds=[d] /\ g d φ:=by
 unfold g1 at h
 split at h
 ·exact ⟨_,rfl,h⟩
 ·exact h.elim
def Ds {g:D->D->(EV->Prop)->Prop} {ds:List D} {φ:EV->Prop} (h:g2 g ds φ):∃ d e,ds=[d,e] /\ g d e φ:=by
 unfold g2 at h
 split at h
 ·exact ⟨_,_,rfl,h⟩
 ·exact h.elim
def zy {t u:TDS} {ρ:DE} {Z:DZ} (J:DE->Prop) (h1:t ρ { Z with nx:=J }) (h2:∀ ρ2,J ρ2->u ρ2 Z):sSeq (sCut t) u ρ Z:=⟨J,h1,h2⟩
def Y8 {i:Nat} {te:TD} {ρ:DE} {Z:DZ} {ds:List D} (e:slot ρ i=some (dO (.lst ds))) (h:te ρ λr=>(match r.k with | .own=>False | _=>True) /\ ds.length <= 100000 /\ Z.nx (setS ρ i (dO (.lst (ds ++ [r.d]))))):sApp i te ρ Z:=by
 unfold sApp
 rw [e]
 exact h
end DL
namespace L2
open PySem PySem.Spec PyProof.Rows
section
variable {prog:Program} {w:World} {A:Around} {R:Result->Shared->Prop} {I:Addr} {fp wr:List Addr} {n:Nat} {P:Nat->Value->Prop} {St:Nat->Heap->Prop} {kw:List (Str × Value)}
structure C1 (bt:Nat->Nat->Bool) (P:Nat->Value->Prop) (St:Nat->Heap->Prop) (S:Addr) (j:Nat) (vb:Value) (s:Shared):Prop where
 st:St (j + 1) s.heap
 pb:P (argBest bt j) vb
 ob:∃ c,s.heap.get? S=some { cls:=.type "list", dict:=none,data:=.seq #[vb,vb] c,slots:=#[] }
def u7:(toString "max" ++ toString ".loop" : String) = "max.loop":=by decide
def Pr (W:Walks prog w A.in1 I fp wr n P St) (bt:Nat->Nat->Bool) (hcmp:CmpOf prog w A.in1 .Gt P bt) (S:Addr) (hSf:S ∉ fp):∀ (k j:Nat) (s:Shared) (vb:Value),n=j + 1 + k->C1 bt P St S j vb s ->
  (∀ v h' tk,P (argBest bt (n - 1)) v->(∀ b o,b ∉ wr->b ≠ S->s.heap.get? b=some o->h'.get? b=some o)->R (.ok (.ret v)) { s with heap:=h',toks:=tk })->codeAny (model prog w) A (.builtin "max.loop" ⟨[.ref I,.none,.ref S],kw⟩) R s:=by
 have hSw:S ∉ wr:=λh=>hSf (W.sub _ h)
 intro k
 induction k with
 | zero =>
  intro j s vb hn M hR
  obtain ⟨hst,hPb,c,hS⟩:=M
  have e:n=j + 1:=hn
  refine codeAny_builtin F.entry_max_loop ?_
  rw [Around.under_plainId F.plain_max_loop _]; show wpAny _ A.in1 (seqItems? (.ref S) >>= _) _ _ s
  refine zaa (wpAny_seqItems hS rfl ?_); show wpAny _ A.in1 (tryCatch (pyNext (.ref I)) _ >>= _) _ _ s
  refine zaa (wpAny_tryCatch (W.done s _ _ (by rw [e]; exact hst) λh' tk hk'=>?_))
  have hS':=hk' S _ hSw hS; show wpAny _ A.in1 (updateSeq S (λ_=>#[]) >>= _) _ _ _
  refine zaa (wpAny_updateSeq hS' rfl (zaa (wpAny_letGo (zab ?_))))
  exact hR vb _ tk (by rw [e]; exact hPb) λb o hbw hbS z=>(Heap.get?_update_other _ _ (Ne.symm hbS)).trans (hk' b o hbw z)
 | succ k ih =>
  intro j s vb hn M hR
  obtain ⟨hst,hPb,c,hS⟩:=M
  refine codeAny_builtin F.entry_max_loop ?_
  rw [Around.under_plainId F.plain_max_loop _]; show wpAny _ A.in1 (seqItems? (.ref S) >>= _) _ _ s
  refine zaa (wpAny_seqItems hS rfl ?_); show wpAny _ A.in1 (tryCatch (pyNext (.ref I)) _ >>= _) _ _ s
  refine zaa (wpAny_tryCatch (W.item (j + 1) s _ _ (by omega) hst λv h' tk hP hst' hk'=>?_))
  have hS':=hk' S _ hSw hS; show wpAny _ A.in1 (tryCatch (holding [v,v] (richCompare .Gt v vb >>= _)) _ >>= _) _ _ _
  refine zaa (wpAny_tryCatch (wpAny_holding (zaa (hcmp (j + 1) (argBest bt j) v vb _ _ _ hP hPb (zaa (wpAny_holding (wpAny_truthy_bool (zaa (wpAny_letGo (zab ?_))))))))))
  cases hb:bt (j + 1) (argBest bt j) with
  | true =>
   simp only [if_true]; refine zaa (wpAny_updateSeq hS' rfl (zaa (wpAny_letGo ?_))); rw [u7]
   refine zab ⟨plainId_quiet F.plain_max_loop _,ih (j + 1) _ v (by omega) ⟨W.frame _ _ _ hst' λb hbf o z=>?_,by simp only [argBest,hb,if_true]; exact hP,_,Heap.get?_update_self _ hS' rfl⟩ λv' h'' tk'' hP' hk''=>?_⟩
   ·exact (Heap.get?_update_other _ _ (λy:S=b=>hSf (by rw [y]; exact hbf))).trans z
   ·exact hR v' h'' tk'' hP' λb o hbw hbS z=>hk'' b o hbw hbS ((Heap.get?_update_other _ _ (Ne.symm hbS)).trans (hk' b o hbw z))
  | false =>
   simp only [Bool.false_eq_true,if_false]; refine zaa (wpAny_letGo ?_); rw [u7]
   refine zab ⟨plainId_quiet F.plain_max_loop _,ih (j + 1) _ vb (by omega) ⟨hst',by simp only [argBest,hb,Bool.false_eq_true,if_false]; exact hPb,c,hS'⟩ λv' h'' tk'' hP' hk''=>?_⟩
   exact hR v' h'' tk'' hP' λb o hbw hbS z=>hk'' b o hbw hbS (hk' b o hbw z)
def cy {d:Value} {nm:Str} (W:Walks prog w A.in1 I fp wr n P St) (bt:Nat->Nat->Bool) (hcmp:CmpOf prog w A.in1 .Gt P bt) (S:Addr) (hSf:S ∉ fp) {s:Shared} {c:Nat} (hst:St 0 s.heap)
  (hS:s.heap.get? S=some { cls:=.type "list", dict:=none,data:=.seq #[] c,slots:=#[] })
  (hR:∀ v h' tk,(if n=0 then v=d else P (argBest bt (n - 1)) v)->(∀ b o,b ∉ wr->b ≠ S->s.heap.get? b=some o->h'.get? b=some o)->R (.ok (.ret v)) { s with heap:=h',toks:=tk }) :
  codeAny (model prog w) A (.builtin "max.loop" ⟨[.ref I,.none,.ref S],[(nm,d)]⟩) R s:=by
 have hSw:S ∉ wr:=λh=>hSf (W.sub _ h)
 refine codeAny_builtin F.entry_max_loop ?_
 rw [Around.under_plainId F.plain_max_loop _]; show wpAny _ A.in1 (seqItems? (.ref S) >>= _) _ _ s
 refine zaa (wpAny_seqItems hS rfl ?_); show wpAny _ A.in1 (tryCatch (pyNext (.ref I)) _ >>= _) _ _ s
 by_cases h0:n=0
 ·subst h0
  refine zaa (wpAny_tryCatch (W.done s _ _ hst λh' tk hk'=>?_))
  show wpAny _ A.in1 (rule _ >>= _) _ _ _
  refine zaa (wpAny_rule (zab ?_))
  exact hR d _ tk (by rw [if_pos rfl]) λb o hbw hbS z=>hk' b o hbw z
 ·refine zaa (wpAny_tryCatch (W.item 0 s _ _ (Nat.pos_of_ne_zero h0) hst λv h' tk hP hst' hk'=>?_))
  have hS':=hk' S _ hSw hS; show wpAny _ A.in1 (updateSeq S (λ_=>#[v,v]) >>= _) _ _ _
  refine zaa (wpAny_updateSeq hS' rfl ?_); rw [u7]
  refine zab ⟨plainId_quiet F.plain_max_loop _,Pr W bt hcmp S hSf (n - 1) 0 _ v (by omega) ⟨W.frame _ _ _ hst' λb hbf o z=>?_,hP,_,Heap.get?_update_self _ hS' rfl⟩ λv' h'' tk'' hP' hk''=>?_⟩
  ·exact (Heap.get?_update_other _ _ (λy:S=b=>hSf (by rw [y]; exact hbf))).trans z
  ·exact hR v' h'' tk'' (by rw [if_neg h0]; exact hP') λb o hbw hbS z=>hk'' b o hbw hbS ((Heap.get?_update_other _ _ (Ne.symm hbS)).trans (hk' b o hbw z))
end
section
variable {prog:Program} {w:World} {A:Around} {E:Value->Shared->Prop} {s:Shared} {l:Addr} {xs:Array (Int × Tok)}
def Nr (a v:Value):argsOk "max" ⟨[a],[(Str.ofString "default", v)]⟩:=by unfold argsOk; kernel_rfl
def Ps {d:Value} {Q:Value->Shared->Prop} (hh:A.handled=none) (hl:s.heap.IsList l (intItems xs))
  (h:∀ v h' tk,(if xs.size=0 then v=d else (intItems xs)[argBest (λi j=>decide (numAt xs i > numAt xs j)) (xs.size - 1)]?=some v)->(∀ b o,s.heap.get? b=some o->h'.get? b=some o)->Q v { s with heap:=h',toks:=tk }) :
  wpAny (model prog w) A (call (.builtin "max") [.ref l] [(Str.ofString "default", d)]) Q E s:=by
 refine kmb_tree F.kind_max F.plain_max F.entry_max (Nr _ _) ?_
 show wpAny _ A.in1 (Builtin.Builtins.bindParams "max" ["key", "default"] 0 ⟨[],[(Str.ofString "default", d)]⟩ >>= _) _ _ s
 refine zaa (wpAny_of_eq (show Builtin.Builtins.bindParams "max" ["key", "default"] 0 ⟨[],[(Str.ofString "default", d)]⟩=pure [none,some d] from rfl) ?_)
 refine zaa (zab ?_)
 refine zaa (iter_intList hl λs₂ e st hfp hlI=>?_)
 subst e
 refine zaa (wpAny_newObj_type ?_)
 rw [u7]
 have W:=Walks.list (prog:=prog) (w:=w) (A:=A.in1) hh s.heap.objs.size l hlI (intItems xs)
 have hSf:(s.heap.push { cls:=.type "list_iterator", data:=.fields #[.ref l,.int 0 0] }).objs.size ∉ [s.heap.objs.size,l]:=λhm=>Nat.lt_irrefl _ (hfp _ hm)
 refine zab ⟨plainId_quiet F.plain_max_loop _,cy W _ (CmpOf.ints_gt (numAt xs) (λ_ _=>intItems_at)) _ hSf (W.frame _ _ _ st λb _ o z=>zac _ z) (zad _ rfl) λv h' tk hP hk=>?_⟩
 refine h v h' tk (by simpa [intItems] using hP) λb o z=>hk b o ?_ ?_ (zac _ (zac _ z))
 ·have hlt:=zae z
  intro hm
  have e:b=s.heap.objs.size:=by simpa using hm
  rw [e] at hlt
  exact Nat.lt_irrefl _ hlt
 ·have hlt:=zae z
  rw [size_push']
  exact Nat.ne_of_lt (Nat.lt_succ_of_lt hlt)
end
section
variable {X:Cx}
def maxI:Int->List Int->Int
 | d,[]=>d
 | _,n :: ns=>ns.foldl max n
def fold_max:∀ (ns:List Int) (n:Int),(ns.foldl max n=n \/ ns.foldl max n ∈ ns) /\ n <= ns.foldl max n /\ ∀ m ∈ ns,m <= ns.foldl max n
 | [],n=>⟨.inl rfl,Int.le_refl _,λ_ h=>nomatch h⟩
 | k :: ns,n=>by
  obtain ⟨h1,h2,h3⟩:=fold_max ns (max n k)
  rw [List.foldl_cons]
  refine ⟨?_,by omega,λm hm=>?_⟩
  ·rcases h1 with h1 | h1
   ·by_cases hnk:k <= n
    ·left; rw [h1]; omega
    ·right; rw [h1,show max n k=k by omega]; exact zao ..
   ·exact .inr (zal _ h1)
  ·rcases zam.mp hm with rfl | hm
   ·omega
   ·exact h3 m hm
def Kk {d:Int} {ns:List Int} {m:Int} (h1:m ∈ ns) (h2:∀ k ∈ ns,k <= m):maxI d ns=m:=by
 cases ns with
 | nil=>cases h1
 | cons n ns =>
  obtain ⟨a,b,c⟩:=fold_max ns n
  show ns.foldl max n=m
  have e1:ns.foldl max n <= m:=by
   rcases a with a | a
   ·rw [a]; exact h2 n (zao ..)
   ·exact h2 _ (zal _ a)
  have e2:m <= ns.foldl max n:=by
   rcases zam.mp h1 with rfl | h1
   ·exact b
   ·exact c m h1
  omega
def Wy {xs:List (Int × Tok)} {ns:List Int} (e2:xs.map (·.1)=ns) {v:Value} {d:Int} (hp:xs.toArray.size ≠ 0) (hv:(intItems xs.toArray)[argBest (λi j=>decide (numAt xs.toArray i > numAt xs.toArray j)) (xs.toArray.size - 1)]?=some v):∃ t,v=.int (maxI d ns) t:=by
 obtain ⟨t,rfl⟩:=intItems_at hv
 obtain ⟨h1,h2⟩:=argBest_gt (numAt xs.toArray) (xs.toArray.size - 1)
 refine ⟨t,?_⟩
 have hns:ns=xs.toArray.toList.map (·.1):=by simpa using e2.symm
 rw [Kk (d:=d) (ns:=ns) (m:=numAt xs.toArray (argBest (λi j=>decide (numAt xs.toArray i > numAt xs.toArray j)) (xs.toArray.size - 1)))]
 ·rw [hns,numAt_eq]
  exact getD_mem (by rw [zLm,Array.length_toList]; omega)
 ·intro k hk
  rw [hns] at hk
  obtain ⟨j,hj,rfl⟩:=mem_getD hk
  rw [zLm,Array.length_toList] at hj
  rw [<- numAt_eq]
  exact h2 j (by omega)
def D2 (K:W.Frag) (te td:TE):TE:=λσ H Q=>te σ H λz H1=>∃ x,[z]=[x] /\ td σ H1 λy H2=>∃ (p:Addr) (ns:List Int) (d:Int),x=.ref p /\ y=.int d /\ SqL K H2 p (ns.map V.int) /\ Q (.int (maxI d ns)) H2
def K2 {e de:Expr} {te td:TE} {p kp pos:Pos} (hc:X.calm=true) (hg:Gl X "max") (hm:X.mg "max" = none) (he:PE X e te) (hd:PE X de td)
  (hs:starEach [e] X.env=(false,eval e X.env) :: starEach [] X.env:=by rfl)
  (hb:backTo pos (starEach [e] X.env)=(false,eval e X.env) :: backTo pos (starEach [] X.env):=by rfl) (hpl:(backTo pos (starEach [e] X.env)).any (·.1)=false:=by rfl)
  (hall:(backToKw pos (keywordEach [⟨some (Str.ofString "default"),de,kp⟩] X.env)).all (·.1.isSome)=true:=by rfl) (hkw:(backToKw pos (keywordEach [⟨some (Str.ofString "default"),de,kp⟩] X.env)).any (·.1.isNone)=false:=by rfl)
  (hz:∀ v:Value,((backToKw pos (keywordEach [⟨some (Str.ofString "default"),de,kp⟩] X.env)).filterMap (·.1)).zip [v]=[(Str.ofString "default", v)]:=by intro _; rfl) :
  PE X (.Call (.Name "max" p) [e] [⟨some (Str.ofString "default"),de,kp⟩] pos) (D2 X.K te td):=by
 intro pn s σ H Q I h
 refine wpAny_Call_Name_kw (ua I hg hm (show bootBuiltins "max" = some (.builtin "max") by kernel_rfl) ?_ (by decide) (by decide))
 refine callWith_kw ?_ hb hpl hall hkw
 have hA:=xx he tm hs pos pn s σ H (λvs H1=>∃ x,vs=[x] /\ td σ H1 λy H2=>∃ (p:Addr) (ns:List Int) (d:Int),x=.ref p /\ y=.int d /\ SqL X.K H2 p (ns.map V.int) /\ Q (.int (maxI d ns)) H2) I
  h
 refine thn hA λus s1 hq=>?_
 obtain ⟨vs,H1,I1,rv,x,rfl,q1⟩:=hq
 obtain ⟨u,rfl,ru⟩:=vv rv
 refine kws_cons (thn (hd pn s1 σ H1 _ I1 q1) λv s2 hq2=>kws_nil ?_)
 obtain ⟨y,H2,I2,ry,a,ns,d,rfl,rfl,hq,q⟩:=hq2
 rw [hz]
 cases ru
 obtain ⟨t,rfl⟩:=ry
 obtain ⟨its,rv2,pl,hz2⟩:=I2.list hq
 obtain ⟨xs,e1,e2⟩:=DL.ints_of rv2
 have hl:s2.heap.IsList a (intItems xs.toArray):=by
  have:=pl.isList
  rw [e1] at this
  unfold intItems
  simpa using this
 refine Ps (I2.ok.hd hc) hl λv h' tk hv hk=>?_
 by_cases hp:xs.toArray.size=0
 ·rw [if_pos hp] at hv
  subst hv
  have:xs=[]:=by simpa using hp
  subst this
  have en:ns=[]:=e2.symm
  subst en
  exact ⟨.int d,H2,I2.kept (t':=tk) hk,⟨t,rfl⟩,q⟩
 ·rw [if_neg hp] at hv
  obtain ⟨t',rfl⟩:=Wy (d:=d) e2 hp hv
  exact ⟨.int (maxI d ns),H2,I2.kept (t':=tk) hk,⟨t',rfl⟩,q⟩
end
end L2
namespace DL
open PySem PySem.Spec L2 L3
open PyProof.Rows hiding St
variable {Γ:Hp->Prop}
section
variable {X:Cx} {e de:Expr} {es:List Expr} {t:TDs} {te td:TD} {p kp pos:Pos}
def sMax:FT:=λds φ=>match ds with
 | [.lst l]=>match vc l with
  | some ns=>ns ≠ [] /\ φ (dv (.int (maxI 0 ns)))
  | none=>False
 | _=>False
def Jj (te td:TD):TD:=λρ φ=>te ρ λr=>td ρ λr2=>match r.d,r2.d with
 | .lst l,.int d=>(match vc l with
  | some ns=>φ (dv (.int (maxI d ns)))
  | none=>False)
 | _,_=>False
def Je (hm:X.mg "max" = none) (he:ED Γ X e te) (hd:ED Γ X de td) (hc:X.calm=true:=by rfl) (hg:Gl X "max":=by rfl) (hs:starEach [e] X.env=(false,eval e X.env) :: starEach [] X.env:=by rfl)
  (hb:backTo pos (starEach [e] X.env)=(false,eval e X.env) :: backTo pos (starEach [] X.env):=by rfl) (hpl:(backTo pos (starEach [e] X.env)).any (·.1)=false:=by rfl)
  (hall:(backToKw pos (keywordEach [⟨some (Str.ofString "default"),de,kp⟩] X.env)).all (·.1.isSome)=true:=by rfl) (hkw:(backToKw pos (keywordEach [⟨some (Str.ofString "default"),de,kp⟩] X.env)).any (·.1.isNone)=false:=by rfl)
  (hz:∀ v:Value,((backToKw pos (keywordEach [⟨some (Str.ofString "default"),de,kp⟩] X.env)).filterMap (·.1)).zip [v]=[(Str.ofString "default", v)]:=by intro _; rfl) :
  ED Γ X (.Call (.Name "max" p) [e] [⟨some (Str.ofString "default"),de,kp⟩] pos) (Jj te td):=λH₀=>impE (K2 hc hg hm (he H₀) (hd H₀) hs hb hpl hall hkw hz) λσ H Q q=>by
 obtain ⟨ρ,o,R,φ,hφ,k⟩:=q
 refine ⟨ρ,o,R,_,hφ,λv r H1 s1 rv h1=>⟨v,rfl,ρ,o,R.to s1,_,h1,λv2 r2 H2 s2 rv2 h2=>?_⟩⟩
 have w1:=(rv.same s2).view
 have w2:=rv2.view
 obtain ⟨k1,d1⟩:=r
 obtain ⟨k2,d2⟩:=r2
 cases d1 with
 | lst l =>
  cases d2 with
  | int d =>
   dsimp only at h2
   split at h2
   ·rename_i ns en
    obtain ⟨a,xs,rfl,q,r⟩:=w1
    cases (show v2=_ from w2)
    have el:=rj en
    subst el
    have:=u6 r
    subst this
    exact ⟨a,ns,d,rfl,rfl,SqL.of q,k _ _ H2 (s1.trans s2) (by exact rfl) h2⟩
   ·exact h2.elim
  | _=>exact h2.elim
 | _=>exact h2.elim
end
end DL
namespace L2
open PySem PySem.Spec PyProof.Rows
def ve:entryFor table "dict.update.loop" = some Builtin.«dict.update.loop»:=entryFor_of_tree (by kernel_rfl)
def xa:plainId "dict.update.loop" = true:=by decide +kernel
def j4:typeLookup (.type "list") "keys" = pure none:=by rw [typeLookup_type,builtinLookup_eq_fast]; kernel_rfl
section
variable {prog:Program} {w:World} {A:Around} {E:Value->Shared->Prop} {s:Shared}
def So {a:Addr} {xs:Array Value} {Q:Option Value->Shared->Prop} (hl:PlainL s.heap a xs) (hA:A.handled=none)
  (h:∀ h' tk,(∀ b o,s.heap.get? b=some o->h'.get? b=some o)->Q none { s with heap:=h',toks:=tk }):wpAny (model prog w) A (getAttr? (.ref a) "keys") Q E s:=by
 obtain ⟨o,k,hx,hc,hd,hdat⟩:=hl
 obtain ⟨c,dct,dat,sl⟩:=o
 simp only at hc hdat hd
 subst hc hdat hd
 obtain ⟨hp,g,d,tk,os⟩:=s
 have hT:∀ tk',(⟨hp,g,d,tk',os⟩:Shared).TypeIs (.ref a) "list":=λ_=>⟨_,hx,rfl⟩
 have f1:=sub_AttributeError
 have f3:=F.slot_list_getattribute.lookup
 have f4:=F.slot_list_getattribute.bind (.ref a)
 have f5:=am_list_getattr_none
 unfold getAttr? getAttrBy? getAttrBy
 repeat (any_goals (first | assumption | exact hT _ | ((with_reducible show wpAny _ _ (call (Value.builtin "list.__getattribute__") _ _) _ _ _); refine call_meets F.slot_list_getattribute (hT _) am_entry_list_getattribute (F.args_list_getattribute_2 _ _) (meets_getattribute_miss_list a xs k sl "keys" _ j4 (by decide +kernel) (by size_fits)) ⟨hx,hA,λh' tk' e hx'=>?_⟩) | wp_step))
 obtain ⟨t',u',he⟩:=hx'.there
 show wpAny _ _ (getattributeRaised _ _ _ _ _ _ _) _ _ _
 unfold getattributeRaised
 repeat (any_goals (first | assumption | wp_step))
 exact h _ _ hx'.keeps
end
section
variable {prog:Program} {w:World} {K:Type} [DecidableEq K] {knd:KeyKind prog w K} {A:Around} {s:Shared} {R:Result->Shared->Prop}
end
end L2
namespace DL
open PySem PySem.Spec L2 L3
open PyProof.Rows hiding St
variable {Γ:Hp->Prop}
section
variable {X:Cx} {e ke:Expr} {es:List Expr} {t:TDs} {te tk:TD} {p p2 pos pos2:Pos}
def kD:Key->D
 | .inl i=>.int i
 | .inr x=>.str x
end
end DL
namespace L2
open PySem PySem.Spec PyProof.Rows
section
variable {X:Cx} {tg:Expr} {pn:List (Addr × Obj)} {σ:St} {H:Hp} {s:Shared} {a:Addr} {ob:Obj} {kvs:List (Key × V)}
end
end L2
namespace L3
open PySem PySem.Spec L2
open PyProof.Rows hiding St
def Ite (K:W.Frag) (l:Addr):It :=
 ⟨λi H=>∃ xs x,SqL K H l xs /\ xs[i]?=some x,
  λi H v H'=>∃ T x,H T=none /\ v=.ref T /\ (∀ xs,SqL K H l xs->xs[i]?=some x) /\ H'=upd H T (.tup [.int i,x]),
  λi H=>∃ xs,SqL K H l xs /\ xs.length <= i⟩
def U8 {P:Program} {w:World} {K:W.Frag} {es:List Expr} {kk:Nat} {tp:Pos} {e it l:Addr} (hne:e ≠ it) :
  Turn P w K (.Tuple es kk tp) (Ite K l) [e,it] e (λi h=>(∃ old,IsEnum h e it i old) /\ h.IsListIter it l i) where
 mem:=by simp
 obj:=λi h Z b hb=>by
  obtain ⟨⟨old,h1⟩,o,h2,h3,h4⟩:=Z
  simp only [zam,List.not_mem_nil,or_false] at hb
  rcases hb with rfl | rfl
  ·exact ⟨_,h1,λv q=>(by cases q)⟩
  ·exact ⟨o,h2,λv q=>by rw [h4] at q; cases q⟩
 keep:=λi h h' Z k=>by
  obtain ⟨⟨old,h1⟩,h2⟩:=Z
  exact ⟨⟨old,k e (by simp) _ h1⟩,h2.at λo q=>k it (by simp) o q⟩
 item:=by
  intro X hP hw hK hc i pn s σ H E I hf Z hg
  subst hP hw hK
  obtain ⟨xs,x,e1,hx⟩:=hg
  obtain ⟨its1,r1,pl,hz⟩:=I.list e1
  obtain ⟨u,hu,ru⟩:=r1.get hx
  obtain ⟨⟨old,z1⟩,z2⟩:=Z
  have fe:=hf e (by simp)
  have fi:=hf it (by simp)
  refine wpAny_pyNext_enum_item z1 z2 pl.isList (x:=u) (by simpa using hu) hne λg zo zi pr hsz kp=>?_
  have hn:H s.heap.objs.size=none:=I.fresh
  have hout:∀ b,b ∉ [e,it]->b ≠ e /\ b ≠ it:=λb hb=>by
   simp only [zam,List.not_mem_nil,or_false,not_or] at hb
   exact hb
  have off:∀ b ho,H b=some ho->b ≠ e /\ b ≠ it:=λb ho q=>⟨zb q fe.1,zb q fi.1⟩
  have un:Un (frs X.stack) [e,it] H (upd H s.heap.objs.size (.tup [.int i,x])) s.heap g :=
   ⟨λb o q _ _ hx=>kp b o (hout b hx).1 (hout b hx).2 q,λb o q _ _ hx=>⟨o.slots,kp b o (hout b hx).1 (hout b hx).2 q⟩,λb o q n _=>by rw [zg (Nat.ne_of_lt (zae q))]; exact n,λb o q hx=>⟨o,kp b o (hout b hx).1 (hout b hx).2 q⟩,
    λb zs q=>by rw [zg (zb q hn)]; exact q,λb o zs q=>by rw [zg (zb q hn)]; exact q,λb ps q=>⟨#[],by rw [zg (zb q hn),q]; simp⟩⟩
  have hok:HOk X.prog X.w (upd H s.heap.objs.size (.tup [.int i,x])) g:=λb o q=>by
   by_cases hb:b=s.heap.objs.size
   ·subst hb
    rw [zh] at q
    cases q
    refine ⟨by simp only [zLc,zLn]; rw [sizeLine_eq]; decide,[.int i s.toks,u],.cons ⟨_,rfl⟩ (.cons ru .nil),⟨_,pr,rfl,_,rfl⟩,_,pr,rfl⟩
   ·rw [zg hb] at q
    refine (I.hok b o q).stay (λc ob hc q2=>kp c ob ?_ ?_ q2) (λc q=>by rw [zg (zb q hn)]; exact q) λc zs q=>by rw [zg (zb q hn)]; exact q
    ·rcases hc with rfl | hc
     ·exact (off _ _ q).1
     ·exact (off _ _ hc).1
    ·rcases hc with rfl | hc
     ·exact (off _ _ q).2
     ·exact (off _ _ hc).2
  have I2:Inv X pn σ (upd H s.heap.objs.size (.tup [.int i,x])) { s with heap:=g,toks:=s.toks + 1 }:=I.call' (s':={ s with heap:=g,toks:=s.toks + 1 }) (ch:=[e,it]) rfl un hok I.bare λb hb=>by
   have q:=hf b hb
   exact ⟨q.2.2.2.1,q.2.1,q.2.2.2.2.1,q.2.2.2.2.2⟩
  have none5:∀ b ∈ [e,it],upd H s.heap.objs.size (.tup [.int i,x]) b=none:=λb hb=>by
   have lb:b < s.heap.objs.size:=by
    obtain ⟨o,q2,_⟩:=z2
    simp only [zam,List.not_mem_nil,or_false] at hb
    rcases hb with rfl | rfl
    ·exact zae z1
    ·exact zae q2
   rw [zg (Nat.ne_of_lt lb)]
   exact (hf b hb).1
  refine ⟨_,rfl,wpAny_letOwnedTupleGo_enum zo λg2 z3 sb=>?_⟩
  refine ⟨.ref s.heap.objs.size,_,I2.turned (t':=s.toks + 1) (λb o hb q=>sb.extBut b o hb q) (none5 e (by simp)) fe.2.1 fe.2.2.2.1 fe.2.2.2.2.1 fe.2.2.2.2.2,rfl,⟨_,x,hn,rfl,(λzs q=>by rw [<- I.list_inj e1 q]; exact hx),rfl⟩,?_,none5⟩
  exact ⟨⟨_,by exact_mod_cast z3⟩,zi.at λo q=>sb.extBut _ o (Ne.symm hne) q⟩
 done:=by
  intro X hP hw hK hc i pn s σ H E I hf Z hg
  subst hP hw hK
  obtain ⟨xs,e1,hend⟩:=hg
  obtain ⟨its1,r1,pl,hz⟩:=I.list e1
  obtain ⟨⟨old,z1⟩,z2⟩:=Z
  have fi:=hf it (by simp)
  have l1':=r1.length
  exact wpAny_pyNext_enum_end (I.ok.hd hc) z1 z2 pl.isList (by simp; omega) λg kp=>⟨rfl,I.turned (t':=s.toks) (λb o hb q=>kp b o hb q) fi.1 fi.2.1 fi.2.2.2.1 fi.2.2.2.2.1 fi.2.2.2.2.2⟩
 self:=λ_ _ _ _ _ Z h=>by
  obtain ⟨⟨old,z1⟩,_⟩:=Z
  exact wpAny_pyIter_enum z1 h
def ky:bootBuiltins "enumerate" = some (.type "enumerate"):=by kernel_rfl
def Do (K:W.Frag) (ta:TA):TI:=λσ H R=>ta σ H λvs H1=>∃ l xs,vs=[.ref l] /\ SqL K H1 l xs /\ R (Ite K l) H1
def Lz {X:Cx} {es:List Expr} {kk:Nat} {tp:Pos} {a:Expr} {ta:TA} {p pos:Pos} (hg:Gl X "enumerate") (hm:X.mg "enumerate" = none) (ha:PA X [a] ta)
  (he:starEach [a] X.env=(false,eval a X.env) :: starEach [] X.env:=by rfl):PI X (.Tuple es kk tp) (.Call (.Name "enumerate" p) [a] [] pos) (Do X.K ta):=by
 intro pn s σ H R I h
 refine wpAny_Call_Name_kw (ua I hg hm ky ?_ (by decide) (by decide))
 refine PyProof.Rows.callWith_type1 (thn (ha pos pn s σ H _ I h) λus s1 ⟨vs,H1,I1,r1,l,xs,e,e1,q⟩=>?_) he (by rfl)
 subst e
 obtain ⟨u,rfl,ru⟩:=vv r1
 cases ru
 obtain ⟨its1,r1,pl,hz⟩:=I1.list e1
 refine call_enumerate_list pl.isList λg z1 z2 hsz kp=>wpAny_pyIter_enum z1 ?_
 refine ⟨_,_,_,_,H1,rfl,I1.kept (t':=s1.toks) kp,U8 (by exact Nat.succ_ne_self _),⟨⟨_,z1⟩,z2⟩,λb hb=>?_,q⟩
 have lb:s1.heap.objs.size <= b:=by
  simp only [zam,List.not_mem_nil,or_false] at hb
  rcases hb with rfl | rfl
  ·exact Nat.le_add_right _ _
  ·exact zaj _
 exact I1.fpOk lb (I1.hok.fresh lb)
end L3
namespace DL
open PySem PySem.Spec L2 L3
open PyProof.Rows hiding St
variable {Γ:Hp->Prop}
section
variable {X:Cx}
def enD (l:List D):List D:=l.zipIdx.map λq=>.tup [.int (q.2:Nat),q.1]
def iE (t:TDs):TID:=λρ φ=>t ρ λrs=>match rs with
 | [r]=>(match r.k with | .own=>False | _=>True) /\ (match r.d with
  | .lst l=>φ (enD l)
  | _=>False)
 | _=>False
def Ks {K:W.Frag} {l:Addr} {ds:List D}:ItD K (Ite K l) (enD ds) (λH O=>Rep K H O (.lst ds) (.ref l)) where
 go:=λH O i d hp e=>by
  obtain ⟨a,xs,ea,q,_,r⟩:=hp
  cases ea
  unfold enD at e
  rw [zai,List.getElem?_zipIdx] at e
  cases ex:ds[i]? with
  | none=>rw [ex] at e; cases e
  | some x =>
   rw [ex] at e
   have ed:d=.tup [.int (i:Nat),x]:=by simpa using e.symm
   subst ed
   obtain ⟨u,eu,ru⟩:=r.get ex
   refine ⟨⟨xs,u,SqL.of q,eu⟩,λz H' yl=>?_⟩
   obtain ⟨T,u',hT,rfl,eu',rfl⟩:=yl
   have eu':=eu' _ (SqL.of q)
   rw [eu] at eu'
   cases eu'
   have sm:Same H (upd H T (.tup [.int i,u])):=λb w hb=>by rw [zg (zb hb hT)]; exact hb
   refine ⟨sm,T,[.int i,u],rfl,⟨.inl (.inl zh),zh⟩,?_⟩
   exact ⟨.int i,[u],rfl,by exact rfl,u,[],rfl,Rep.grow (Grow.same sm) _ _ ru,rfl⟩
 stop:=λH O hp=>by
  obtain ⟨a,xs,ea,q,_,r⟩:=hp
  cases ea
  exact ⟨xs,SqL.of q,by unfold enD; rw [zLm,List.length_zipIdx,r.length]; exact zaj _⟩
 keep:=λO O' H H' hp g=>Rep.grow g _ _ hp
def Zf {es:List Expr} {kk:Nat} {tp:Pos} {a:Expr} {t:TDs} {p pos:Pos} (hm:X.mg "enumerate" = none) (ha:EA Γ X [a] t) (hg:Gl X "enumerate":=by rfl)
  (he:starEach [a] X.env=(false,eval a X.env) :: starEach [] X.env:=by rfl):EI Γ X (.Tuple es kk tp) (.Call (.Name "enumerate" p) [a] [] pos) (iE t):=λH₀=>impI (Lz hg hm (ha H₀) he) λσ H R q=>by
 obtain ⟨ρ,o,RE,φ,hφ,k⟩:=q
 refine ⟨ρ,o,RE,_,hφ,λvs rs H1 s1 rvs h1=>?_⟩
 split at h1
 ·rename_i r
  obtain ⟨n1,h1⟩:=h1
  obtain ⟨v1,w1,rfl,q1,rfl⟩:=rvs
  have p1:=q1.solid (wo n1)
  obtain ⟨kd,d⟩:=r
  cases d with
  | lst l =>
   obtain ⟨a,xs,rfl,q,no,r⟩:=id p1
   exact ⟨a,xs,rfl,SqL.of q,k _ _ _ H1 s1 Ks p1 h1⟩
  | _=>exact h1.elim
 ·exact h1.elim
end
end DL
namespace L2
open PySem PySem.Spec PyProof.Rows
def yo {α:Type} (xs:List α) (lo hi st:Option Int):List α :=
 let b:=sliceBounds lo hi st xs.length
 (sliceRange b.1 b.2.1 b.2.2).filterMap λi=>xs[i]?
section
variable {X:Cx} {e:Expr} {te:TE} {lo hi:Option Expr} {st:Expr} {tl th ts:TO} {pos p2:Pos}
def rn {xs:List V} {us:List Value} (r:Vals xs us):∀ is:List Nat,Vals (is.filterMap λi=>xs[i]?) (is.filterMap λi=>us[i]?)
 | []=>.nil
 | i :: is=>by
  rw [List.filterMap_cons,List.filterMap_cons]
  cases ex:xs[i]? with
  | none =>
   rw [r.none_of ex]
   exact rn r is
  | some x =>
   obtain ⟨u,eu,ru⟩:=r.get ex
   rw [eu]
   exact .cons ru (rn r is)
def Ex (K:W.Frag) (te:TE) (tl th ts:TO):TE:=λσ H Q=>te σ H λx H1=>tl σ H1 λl H2=>th σ H2 λu H3=>ts σ H3 λk H4=>∃ a xs,x=.ref a /\ SqL K H4 a xs /\ k ≠ some 0 /\ ∀ p,H4 p=none->Q (.ref p) (upd H4 p (.lst (yo xs l u k)))
def K1 (he:PE X e te) (hl:PO X lo tl) (hu:PO X hi th) (hs:PO X (some st) ts):PE X (.Subscript e (.Slice lo hi (some st) p2) pos) (Ex X.K te tl th ts):=by
 intro pn s σ H Q I h
 refine Subscript_ (thn (he pn s σ H _ I h) λv s1 ⟨x,H1,I1,r1,q1⟩=>?_)
 refine wpAny_Slice (thn (hl pn s1 σ H1 _ I1 q1) λvl s2 ⟨l,H2,I2,pl,q2⟩=>thn (hu pn s2 σ H2 _ I2 q2) λvu s3 ⟨u,H3,I3,pu,q3⟩=>thn (hs pn s3 σ H3 _ I3 q3) λvk s4 ⟨k,H4,I4,pk,a,xs,e1,sq,k0,q⟩=>?_)
 subst e1
 cases r1
 have I5:Inv X pn σ H4 { s4 with heap:=s4.heap.push { cls:=.type "slice", data:=.fields #[vl,vu,vk] } }:=I4.kept (t':=s4.toks) λb ob q=>zac _ q
 obtain ⟨its,r,plain,hz⟩:=I5.list sq
 have hlen:its.length=xs.length:=r.length.symm
 show wpAny (model X.prog X.w) X.A (subscriptTail e (.Slice lo hi (some st) p2) (.ref a) (.ref s4.heap.objs.size)) (EP X pn σ Q) X.xe { s4 with heap:=s4.heap.push { cls:=.type "slice", data:=.fields #[vl,vu,vk] } }
 refine tail_any (ops:=[.ref a,.ref s4.heap.objs.size]) plain.isList.typeIs list_getitem_lookup ?_ (by with_unfolding_all rfl)
 refine wpAny_getItem_list_slice plain.isList (Heap.IsSliceOf.new ..) pl pu pk k0 ?_ (by simp; omega)
 refine ⟨.ref _,_,I5.laid (t':=s4.toks) (o:=.lst (yo xs l u k)) (λb ob q=>zac _ q) (zaj _) ?_,rfl,q _ (I5.hok.fresh (zaj _))⟩
 have hp:(slicePick its.toArray l u k).toList=yo its l u k:=by
  unfold slicePick yo
  simp
 have hv:Vals (yo xs l u k) (yo its l u k):=by
  unfold yo
  rw [hlen]
  exact rn r _
 have hle:(yo its l u k).length <= its.length:=by
  have:=slicePick_size_le its.toArray l u k
  rw [<- Array.length_toList,hp] at this
  simpa using this
 refine ⟨by rw [hv.length]; omega,yo its l u k,0,hv,?_⟩
 rw [zad _ rfl,<- hp]
end
end L2
namespace DL
open PySem PySem.Spec L2 L3
open PyProof.Rows hiding St
variable {Γ:Hp->Prop}
section
variable {X:Cx} {e:Expr} {te:TD} {pos:Pos}
def Er (te:TD) (tl th ts:TDo):TD:=λρ φ=>te ρ λx=>tl ρ λl=>th ρ λu=>ts ρ λk=>k ≠ some 0 /\ match x.d with
 | .lst ds=>φ (df (.lst (yo ds l u k)))
 | .scr ns=>φ (df (.lst ((yo ns l u k).map D.int)))
 | _=>False
def qf {K:W.Frag} {H:Hp} {O:List Addr} {ds:List D} {xs:List V} (r:Reps K H O ds xs):∀ is:List Nat,Reps K H O (is.filterMap λi=>ds[i]?) (is.filterMap λi=>xs[i]?)
 | []=>rfl
 | i :: is=>by
  rw [List.filterMap_cons,List.filterMap_cons]
  cases ex:ds[i]? with
  | none =>
   have:xs[i]?=none:=by
    rw [List.getElem?_eq_none_iff] at ex ⊢
    rw [r.length]
    exact ex
   rw [this]
   exact qf r is
  | some d =>
   obtain ⟨v,ev,rv⟩:=r.get ex
   rw [ev]
   exact ⟨v,_,rfl,rv,qf r is⟩
def Y9 {K:W.Frag} {H:Hp} {O:List Addr} {ds:List D} {xs:List V} (r:Reps K H O ds xs) (l u k:Option Int):Reps K H O (yo ds l u k) (yo xs l u k):=by
 unfold yo
 rw [r.length]
 exact qf r _
def gj {α β:Type} (f:α->β) (xs:List α) (l u k:Option Int):yo (xs.map f) l u k=(yo xs l u k).map f:=by
 unfold yo
 rw [zLm,List.map_filterMap]
 dsimp only
 congr 1
 funext i
 rw [zai]
def Rg {lo hi:Option Expr} {st:Expr} {tl th ts:TDo} {p2:Pos} (he:ED Γ X e te) (hl:EO Γ X lo tl) (hu:EO Γ X hi th) (hs:EO Γ X (some st) ts):ED Γ X (.Subscript e (.Slice lo hi (some st) p2) pos) (Er te tl th ts):=λH₀ =>
 impE (K1 (he H₀) (hl H₀) (hu H₀) (hs H₀)) λσ H Q q=>by
  obtain ⟨ρ,o,R,φ,hφ,kk⟩:=q
  refine ⟨ρ,o,R,_,hφ,λv r H1 s1 rv h1=>⟨ρ,o,R.to s1,_,h1,λl H2 s2 h2=>⟨ρ,o,R.to (s1.trans s2),_,h2,λu H3 s3 h3=>⟨ρ,o,R.to ((s1.trans s2).trans s3),_,h3,λk H4 s4 h4=>?_⟩⟩⟩⟩
  have s14:=((s1.trans s2).trans s3).trans s4
  have vw:=(rv.same ((s2.trans s3).trans s4)).view
  obtain ⟨h0,h4⟩:=h4
  obtain ⟨kd,d⟩:=r
  cases d with
  | lst ds =>
   obtain ⟨a,xs,rfl,q,r⟩:=vw
   refine ⟨a,xs,rfl,SqL.of q,h0,λp hp=>?_⟩
   exact kk _ _ _ (s14.trans (zr hp _)) (RV.start (vd (λa e=>R.ofree (s14.free e)) hp (Y9 r l u k)) s14) h4
  | scr ns =>
   obtain ⟨a,rfl,q⟩:=vw
   refine ⟨a,_,rfl,q.seq,h0,λp hp=>?_⟩
   rw [gj]
   exact kk _ _ _ (s14.trans (zr hp _)) (RV.start (vd (λa e=>R.ofree (s14.free e)) hp (Reps.ints _)) s14) h4
  | _=>exact h4.elim
end
abbrev TK:=List Key
instance decMemTK (k:TK) (ks:List TK):Decidable (k ∈ ks):=decidable_of_iff (ks.any (λx=>decide (x=k))=true) (by simp)
section
variable {α:Type}
def yb:List TK->List α->TK->Option α
 | k' :: ks,d :: ds,k=>if k'=k then some d else yb ks ds k
 | _,_,_=>none
def wc (ks:List TK) (k:TK):List TK:=if k ∈ ks then ks else ks ++ [k]
def x4:List TK->List α->TK->α->List α
 | k' :: ks,d' :: ds,k,d=>if k'=k then d :: ds else d' :: x4 ks ds k d
 | _,_,_,d=>[d]
end
def vz:∀ (ks:List TK) (xs:List V) (k:TK),valV (ks.zip xs) k=yb ks xs k
 | [],xs,k=>by cases xs <;> rfl
 | k' :: ks,[],k=>rfl
 | k' :: ks,x :: xs,k=>by
  rw [List.zip_cons_cons,yb]
  by_cases e:k'=k
  ·rw [if_pos e,u0 (by exact e)]
  ·rw [if_neg e,u3 (by exact e),vz ks xs k]
def vi {α:Type}:∀ {ks:List TK} {xs:List α} {k:TK},ks.length=xs.length->(yb ks xs k=none ↔ k ∉ ks)
 | [],xs,k,h=>by cases xs <;> simp [yb] at *
 | k' :: ks,[],k,h=>by simp at h
 | k' :: ks,x :: xs,k,h=>by
  rw [yb]
  by_cases e:k'=k
  ·simp [e]
  ·rw [if_neg e,vi (by simpa using h)]
   simp [e,Ne.symm e]
def Wg:∀ (ks:List TK) (xs:List V) (k:TK) (v:V),k ∉ ks->(ks.zip xs).map (λkv=>if kv.1=k then (kv.1,v) else kv)=ks.zip xs
 | [],xs,k,v,_=>by cases xs <;> rfl
 | k' :: ks,[],k,v,_=>rfl
 | k' :: ks,x :: xs,k,v,h=>by
  rw [List.zip_cons_cons,List.map_cons,Wg ks xs k v λz=>h (zal _ z)]
  rw [if_neg (by intro z; exact h (zam.mpr (.inl z.symm)))]
def d8:∀ {ks:List TK} {xs:List V} {k:TK},ks.length=xs.length->(((ks.zip xs).any λkv=>decide (kv.1=k))=true ↔ k ∈ ks)
 | [],xs,k,h=>by cases xs <;> simp at *
 | k' :: ks,[],k,h=>by simp at h
 | k' :: ks,x :: xs,k,h=>by
  rw [List.zip_cons_cons,List.any_cons,Bool.or_eq_true,d8 (by simpa using h)]
  simp [eq_comm]
def Sa:∀ {ks:List TK} {xs:List V} {k:TK} {v:V},ks.Nodup->ks.length=xs.length->k ∈ ks->(ks.zip xs).map (λkv=>if kv.1=k then (kv.1,v) else kv)=ks.zip (x4 ks xs k v)
 | [],_,_,_,_,_,h=>by cases h
 | k' :: ks,[],_,_,_,h,_=>by simp at h
 | k' :: ks,x :: xs,k,v,nd,hl,h=>by
  obtain ⟨n1,n2⟩:=List.nodup_cons.mp nd
  rw [List.zip_cons_cons,List.map_cons,x4]
  by_cases e:k'=k
  ·subst e
   rw [if_pos rfl,if_pos rfl,Wg ks xs k' v n1,List.zip_cons_cons]
  ·rw [if_neg e,if_neg e,List.zip_cons_cons,Sa n2 (by simpa using hl) ((zam.mp h).resolve_left (Ne.symm e))]
def ul {α:Type}:∀ {ks:List TK} {xs:List α} {k:TK} {v:α},ks.length=xs.length->k ∉ ks->x4 ks xs k v=xs ++ [v]
 | [],xs,k,v,h,_=>by
  cases xs with
  | nil=>rfl
  | cons=>simp at h
 | k' :: ks,[],_,_,h,_=>by simp at h
 | k' :: ks,x :: xs,k,v,h,hn=>by
  rw [x4,if_neg (λz=>hn (zam.mpr (.inl z.symm))),ul (by simpa using h) λz=>hn (zal _ z)]
  rfl
def T8 {ks:List TK} {xs:List V} {k:TK} {v:V} (nd:ks.Nodup) (hl:ks.length=xs.length):putK (ks.zip xs) k v=(wc ks k).zip (x4 ks xs k v):=by
 unfold putK wc
 by_cases h:k ∈ ks
 ·rw [if_pos ((d8 hl).mpr h),if_pos h,Sa nd hl h]
 ·rw [if_neg (λz=>h ((d8 hl).mp z)),if_neg h,ul hl h,List.zip_append hl]
  rfl
def Rp {α:Type}:∀ {ks:List TK} {xs:List α} {k:TK} {v:α},ks.length=xs.length->(wc ks k).length=(x4 ks xs k v).length:=λ{ks xs k v} h=>by
 by_cases hk:k ∈ ks
 ·unfold wc
  rw [if_pos hk]
  induction ks generalizing xs with
  | nil=>cases hk
  | cons k' ks ih =>
   cases xs with
   | nil=>simp at h
   | cons x xs =>
    rw [x4]
    by_cases e:k'=k
    ·rw [if_pos e]; simpa using h
    ·rw [if_neg e]
     have:=ih (xs:=xs) (by simpa using h) ((zam.mp hk).resolve_left (Ne.symm e))
     simp [this]
 ·rw [ul h hk]
  unfold wc
  rw [if_neg hk]
  simp [h]
def Yo {ks:List TK} {k:TK} (nd:ks.Nodup):(wc ks k).Nodup:=by
 unfold wc
 split
 ·exact nd
 ·rename_i h
  exact List.nodup_append.mpr ⟨nd,by simp,by intro a ha b hb e; simp at hb; subst hb; exact h (e ▸ ha)⟩
section
variable {K:W.Frag} {H:Hp} {O:List Addr}
def wz:∀ {ks:List TK} {ds:List D} {xs:List V} {k:TK},Reps K H O ds xs->(∀ d,yb ks ds k=some d->∃ v,yb ks xs k=some v /\ Rep K H O d v) /\ (yb ks ds k=none->yb ks xs k=none)
 | [],ds,xs,k,r=>⟨(λd h=>by cases ds <;> cases h),(λ_=>by cases xs <;> rfl)⟩
 | k' :: ks,[],xs,k,r=>by
  cases r
  exact ⟨(λd h=>by cases h),λ_=>rfl⟩
 | k' :: ks,d' :: ds,xs,k,r=>by
  obtain ⟨v,ws,rfl,q,t⟩:=r
  rw [yb,yb]
  by_cases e:k'=k
  ·rw [if_pos e,if_pos e]
   exact ⟨(λd h=>by cases h; exact ⟨v,rfl,q⟩),(λh=>by cases h)⟩
  ·rw [if_neg e,if_neg e]
   exact wz t
def jf:∀ {ks:List TK} {ds:List D} {xs:List V} {k:TK} {d:D} {v:V},Reps K H O ds xs->Rep K H O d v->Reps K H O (x4 ks ds k d) (x4 ks xs k v)
 | [],ds,xs,k,d,v,r,q=>by
  have e1:x4 ([]:List TK) ds k d=[d]:=by cases ds <;> rfl
  have e2:x4 ([]:List TK) xs k v=[v]:=by cases xs <;> rfl
  rw [e1,e2]
  exact Reps.one q
 | k' :: ks,[],xs,k,d,v,r,q=>by
  cases r
  exact Reps.one q
 | k' :: ks,d' :: ds,xs,k,d,v,r,q=>by
  obtain ⟨v',ws,rfl,q',t⟩:=r
  rw [x4,x4]
  by_cases e:k'=k
  ·rw [if_pos e,if_pos e]
   exact ⟨v,ws,rfl,q,t⟩
  ·rw [if_neg e,if_neg e]
   exact ⟨v',_,rfl,q',jf t q⟩
end
def Yp:List D->Option (List Key)
 | []=>some []
 | d :: ds=>match keyD d,Yp ds with
  | some k,some ks=>some (k :: ks)
  | _,_=>none
def keyT:D->Option TK
 | .tup ds=>Yp ds
 | _=>none
def jo {K:W.Frag} {H:Hp} {O:List Addr}:∀ {ds:List D} {xs:List V} {k:TK},Reps K H O ds xs->Yp ds=some k->xs=k.map kV
 | [],xs,k,r,e=>by cases r; cases e; rfl
 | d :: ds,xs,k,r,e=>by
  obtain ⟨v,ws,rfl,q,t⟩:=r
  rw [Yp] at e
  split at e
  ·rename_i k1 k2 e1 e2
   cases e
   rw [List.map_cons,<- jo t e2,<- Wl q.view e1]
  ·cases e
def ub {K:W.Frag} {H:Hp} {O:List Addr} {d:D} {v:V} {k:TK} (h:View K H O d v) (e:keyT d=some k):∃ b,v=.ref b /\ H b=some (.tup (k.map kV)):=by
 cases d with
 | tup ds =>
  obtain ⟨b,xs,rfl,q,r⟩:=h
  exact ⟨b,rfl,by rw [<- jo r e]; exact q.2⟩
 | _=>cases e
def Z4 {α:Type} {ks:List TK} {xs:List α} {k:TK} (h:ks.length=xs.length):(yb ks xs k).isSome=decide (k ∈ ks):=by
 by_cases hk:k ∈ ks
 ·rw [decide_eq_true hk]
  cases e:yb ks xs k with
  | none=>exact absurd hk ((vi h).mp e)
  | some _=>rfl
 ·rw [decide_eq_false hk,(vi h).mpr hk]
  rfl
section
variable {X:Cx} {a b c e o:Expr} {es:List Expr} {ta tb tc te td:TD} {t:TDs} {pos:Pos}
def uj:ED Γ X (.Dict [] [] pos) (λ_ φ=>φ (df (.dt [] []))):=λH₀=>impE gk λσ H Q q=>by
 obtain ⟨ρ,o,R,φ,hφ,k⟩:=q
 intro p hp
 exact k (.ref p) (df (.dt [] [])) _ (zr hp _) ⟨p,rfl,hp,R.ofree hp,[],zh,rfl,List.nodup_nil,rfl⟩ hφ
def Tu (hu:X.A.units + 1 < cLine):OpR X (compareOp .NotIn) (λx y H Q=>∃ a kvs,∃ k:TK,∃ b,y=.ref a /\ H a=some (.dT kvs) /\ x=.ref b /\ H b=some (.tup (k.map kV)) /\ Q (.bl (!(valV kvs k).isSome)) H):=by
 intro pn s σ H x y v u Q I rx ry h
 obtain ⟨a,kvs,k,b,rfl,ha,rfl,hb,q⟩:=h
 cases ry
 exact Ji hu I (DGet.t ha hb) rx λs' I'=>⟨.bl _,H,I',rfl,q⟩
def sInT (neg:Bool):D->D->(EV->Prop)->Prop:=λx y φ=>match y with
 | .dt ks _=>(match keyT x with | some k=>φ (dv (.bl (if neg then !decide (k ∈ ks) else decide (k ∈ ks)))) | none=>False)
 | _=>False
def Py {K:W.Frag} {neg:Bool}:sv K (λx y H Q=>∃ a kvs,∃ k:TK,∃ b,y=.ref a /\ H a=some (.dT kvs) /\ x=.ref b /\ H b=some (.tup (k.map kV)) /\ Q (.bl (if neg then !(valV kvs k).isSome else (valV kvs k).isSome)) H) (sInT neg):=by
 intro H O x y vx vy φ Q ho hx hy h k
 unfold sInT at h
 split at h
 ·split at h
  ·rename_i ks ds kk ek
   obtain ⟨a,xs,rfl,q,l,nd,r⟩:=hy
   obtain ⟨b,rfl,hb⟩:=ub hx ek
   refine ⟨a,_,kk,b,rfl,q,rfl,hb,?_⟩
   rw [vz,Z4 (by rw [l,r.length])]
   exact k _ _ H (Same.refl H) (by exact rfl) h
  ·exact h.elim
 ·exact h.elim
def Re (hu:X.A.units + 64 < cLine) (ha:ED Γ X a ta) (hb:ED Γ X b tb) (hm:behindInMarks .NotIn b=false:=by with_unfolding_all rfl):ET Γ X (.Compare a [.NotIn] [b] pos) (tBo (d2 (sInT true) ta tb)):=jw (Tu (by omega)) Py ha hb hm
def sIxT:D->D->(EV->Prop)->Prop:=λx y φ=>match x with
 | .dt ks ds=>(match keyT y with
  | some k=>(match yb ks ds k with
   | some d=>φ (dv d)
   | none=>False)
  | none=>False)
 | _=>False
def O7 (hu:X.A.units + 1 < cLine):IxR X (λx y H Q=>∃ a kvs,∃ k:TK,∃ v b,x=.ref a /\ H a=some (.dT kvs) /\ y=.ref b /\ H b=some (.tup (k.map kV)) /\ valV kvs k=some v /\ Q v H):=by
 intro value slice pn s σ H x y v u Q I rx ry h hs
 obtain ⟨a,kvs,k,w,b,rfl,ha,rfl,hb,e,q⟩:=h
 cases rx
 have g:DGet H a (.ref b) (some w):=by rw [<- e]; exact DGet.t ha hb
 exact tail_any (qz I g) PySem.F.slot_dict_getitem.lookup (Zk hu I g ry λw' s' I' rw'=>⟨w,H,I',rw',q⟩) hs
def Px:sv X.K (λx y H Q=>∃ a kvs,∃ k:TK,∃ v b,x=.ref a /\ H a=some (.dT kvs) /\ y=.ref b /\ H b=some (.tup (k.map kV)) /\ valV kvs k=some v /\ Q v H) sIxT:=by
 intro H O x y vx vy φ Q ho hx hy h k
 cases x with
 | dt ks ds =>
  obtain ⟨a,xs,rfl,q,l,nd,r⟩:=hx
  unfold sIxT at h
  dsimp only at h
  split at h
  ·rename_i kk ek
   split at h
   ·rename_i d ed
    obtain ⟨v,ev,rv⟩:=(wz (ks:=ks) (k:=kk) r).1 d ed
    obtain ⟨b,rfl,hb⟩:=ub hy ek
    exact ⟨a,_,kk,v,b,rfl,q,rfl,hb,by rw [vz]; exact ev,k _ _ H (Same.refl H) (RV.val rv) h⟩
   ·exact h.elim
  ·exact h.elim
 | _=>exact h.elim
def Zh (hu:X.A.units + 64 < cLine) (ha:ED Γ X a ta) (hb:ED Γ X b tb) (hs:d9 b:=by intro _ _; rfl):ED Γ X (.Subscript a b pos) (d2 sIxT ta tb):=λH₀=>impE (K3 (O7 (by omega)) (ha H₀) (hb H₀) hs) (Si Px)
def Rv (td tk tx:TD):TD:=λρ φ=>td ρ λr=>match r.d with
 | .dt ks ds=>tk ρ λy=>tx ρ λz=>(match z.k with | .own=>False | _=>True) /\ (match keyT y.d with
  | some k=>φ (dv ((yb ks ds k).getD z.d))
  | none=>False)
 | _=>False
def rk {f:Expr} {tf:TD} {apos cpos:Pos} (hu:X.A.units + 64 < cLine) (ho:ED Γ X o td) (he:ED Γ X e te) (hf:ED Γ X f tf) (m:M2 X o "get" apos e f cpos:=by exact ⟨rfl,rfl,rfl,rfl⟩):ED Γ X (.Call (.Attribute o "get" apos) [e,f] [] cpos) (Rv td te tf):=λH₀ =>
 impE (Ph (by omega) (ho H₀) (he H₀) (hf H₀) m) λσ H Q q=>by
  obtain ⟨ρ,o,R,φ,hφ,kk⟩:=q
  refine ⟨ρ,o,R,_,hφ,λv r H1 s1 rv h1=>?_⟩
  obtain ⟨kd,d⟩:=r
  cases d with
  | dt ks ds =>
   obtain ⟨a,xs,rfl,q,l,nd,rp⟩:=rv.view
   refine ⟨a,rfl,.inr ⟨_,.inl q⟩,ρ,o,R.to s1,_,h1,λv2 r2 H2 s2 rv2 h2=>⟨ρ,o,R.to (s1.trans s2),_,h2,λv3 r3 H3 s3 rv3 h3=>?_⟩⟩
   obtain ⟨h0,h3⟩:=h3
   split at h3
   ·rename_i k ek
    have q3:=s3 _ _ (s2 _ _ q)
    obtain ⟨b,rfl,hb⟩:=ub (rv2.same s3).view ek
    have rp3:=Reps.grow (Grow.same (s2.trans s3)) _ _ rp
    refine ⟨_,DGet.t q3 hb,?_⟩
    rw [vz]
    have s13:=s1.trans (s2.trans s3)
    cases el:yb ks ds k with
    | none =>
     rw [(wz (ks:=ks) (k:=k) rp3).2 el]
     rw [el] at h3
     exact kk _ _ H3 s13 (RV.val (rv3.solid (wo h0))) h3
    | some d =>
     obtain ⟨w,ew,rw⟩:=(wz (ks:=ks) (k:=k) rp3).1 d el
     rw [ew]
     rw [el] at h3
     exact kk _ _ H3 s13 (RV.val rw) h3
   ·exact h3.elim
  | _=>exact h1.elim
end
section
variable {X:Cx} {x:Str} {e ke:Expr} {te tk:TD} {np pos pos':Pos}
def u5 (i:Nat) (tk te:TD):TDS:=λρ Z=>match slot ρ i with
 | some ⟨.own,.dt ks ds⟩=>te ρ λr=>tk ρ λkr=>(match r.k with | .own=>False | _=>True) /\ ds.length <= 100000 /\ (match keyT kr.d with
  | some k=>Z.nx (setS ρ i (dO (.dt (wc ks k) (x4 ks ds k r.d))))
  | none=>False)
 | _=>False
def rc (i:Nat) (hu:X.A.units + 64 < cLine) (hk:ED Γ X ke tk) (he:ED Γ X e te) (hN:X.N[i]?=some x:=by rfl) (hv:Vis X.env.scope x:=by first | exact Or.inl rfl | exact Or.inr (Or.inl rfl) | exact Or.inr (Or.inr rfl)) (hd:(x == ("__debug__" : Str))=false:=by decide)
  (hcd:(x == ("__classdict__" : Str))=false:=by decide) (hs:swapsWith e (some (.Subscript (.Name x np) ke pos')) pos.line X.env=pure false:=by rfl):SD Γ X (.Assign [.Subscript (.Name x np) ke pos'] e pos) (u5 i tk te):=λH₀ =>
 impS (Td (by omega) (wa hN hv hd hcd) (hk H₀) (he H₀) hs) λD σ H h=>by
  obtain ⟨ρ,o,R,Z,hZ,k1,k2,k3,k4⟩:=h
  unfold u5 at hZ
  split at hZ
  ·rename_i ks ds es
   obtain ⟨v0,ev0,q0⟩:=R.slots i _ (yi es)
   rcases q0 with ⟨k,_⟩ | ⟨_,a,rfl,m,c⟩
   ·cases k
   obtain ⟨xs,hx,hl,nd,rx⟩:=c
   refine ⟨ρ,o,R,_,hZ,λv r H1 s1 rv h1=>⟨.ref a,ev0,ρ,o,R.to s1,_,h1,λv2 r2 H2 s2 rv2 h2=>?_⟩⟩
   obtain ⟨h0,hlen,h2⟩:=h2
   split at h2
   ·rename_i k ek
    obtain ⟨b,rfl,hb⟩:=ub rv2.view ek
    have s12:=s1.trans s2
    have hx2:=s12 _ _ hx
    have rx2:=Reps.grow (Grow.same s12) _ _ rx
    have xl:ks.length=xs.length:=by rw [hl,rx.length]
    refine ⟨a,_,rfl,DPut.t hx2 hb ?_,?_⟩
    ·rw [List.length_zip,xl,Nat.min_self,rx.length]
     exact Nat.lt_of_le_of_lt hlen (by decide)
    ·rw [T8 nd xl]
     obtain ⟨R3,g3⟩:=(R.to s12).chg (d':=.dt (wc ks k) (x4 ks ds k r.d)) (ho:=.dT ((wc ks k).zip (x4 ks xs k v))) (yi es) ev0 m ⟨λ_ z=>(by cases z),λ_ _ z=>(by cases z)⟩ λgr =>
      ⟨x4 ks xs k v,zh,Rp hl,Yo nd,gr _ _ (jf rx2 ((rv.same s2).solid (wo h0)))⟩
     exact k1 _ σ _ o ((Grow.same s12).trans g3) R3 h2
   ·exact h2.elim
  ·exact hZ.elim
end
end DL
namespace L2
open PySem PySem.Spec PySem.W PyProof.Rows
def RawD (h:Heap) (d:Addr) (rows:Array DictEntry) (ep:Nat):Prop:=∃ o,h.get? d=some o /\ o.ExactDict /\ o.data=.dict rows ep
def RawD.ty {s:Shared} {d:Addr} {rows:Array DictEntry} {ep:Nat} (x:RawD s.heap d rows ep):s.TypeIs (.ref d) "dict":=let ⟨o,g,c,_⟩:=x; ⟨o,g,c.1⟩
def RawD.to {h k:Heap} {d:Addr} {rows:Array DictEntry} {ep:Nat} (x:RawD h d rows ep) (f:∀ o,h.get? d=some o->k.get? d=some o):RawD k d rows ep:=let ⟨o,g,r⟩:=x; ⟨o,f o g,r⟩
def RawD.lt {h:Heap} {d:Addr} {rows:Array DictEntry} {ep:Nat} (x:RawD h d rows ep):d < h.objs.size:=let ⟨_,g,_⟩:=x; zae g
section
variable {prog:Program} {w:World} {A:Around} {E:Value->Shared->Prop} {s:Shared} {D J:Addr} {rows:Array DictEntry} {ep i:Nat}
def T5 {Q:Value->Shared->Prop} (nb:(D == sysModules)=false) (x:RawD s.heap D rows ep)
  (q:Q (.ref s.heap.objs.size) { s with heap:=s.heap.push { cls:=.type "dict_keyiterator", data:=.fields #[.ref D,.int 0 0,.int rows.size 0,.int ep 0] } }) :
  wpAny (model prog w) A (pyIter (.ref D)) Q E s:=by
 have ty:=x.ty
 obtain ⟨o,g,c,e⟩:=id x
 refine wpAny_pyIter_slot ty F.slot_dict_iter (wpAny_call_entry F.slot_dict_iter ty F.entry_dict_iter (?body) (F.args_dict_iter_1 _))
 unfold Builtin.«dict.__iter__»
 apply zaa
 unfold Builtin.Dict.dictSlotNone
 apply zaa
 refine wpAny_notOrdered_dict ty (?_:_)
 show wpAny _ _ (pure (Value.ref D)) _ _ s
 apply zab
 show wpAny _ _ (Builtin.Dict.showsAll D >>= _) _ _ s
 unfold Builtin.Dict.showsAll
 rw [if_neg (show ¬ ((D == sysModules)=true) by rw [nb]; decide)]
 apply zaa; apply zab
 apply zaa; refine wpAny_dictEntries g e ?_
 apply zaa; refine wpAny_dictEpoch g e ?_
 apply zaa
 refine wpAny_newObj_type (zab ⟨_,rfl, "dict_keyiterator", _,⟨_,zad _ rfl,rfl⟩,F.slot_dict_keyiterator_next.lookup,(?_:_)⟩)
 simpa [rawInt] using q
def P5 {k:DictEntry} {Q:Option Value->Shared->Prop} (y:s.heap.IsKeyIter J D i rows.size ep) (x:RawD s.heap D rows ep) (ek:rows[i]?=some k)
  (q:∀ h',h'.IsKeyIter J D (i + 1) rows.size ep->Heap.SameBut J s.heap h'->Q (some k.key) { s with heap:=h' }):wpAny (model prog w) A (pyNext (.ref J)) Q E s:=by
 obtain ⟨o,g,c,e⟩:=id y
 obtain ⟨o2,g2,c2,e2⟩:=id x
 have hi:i < rows.size:=(Array.getElem?_eq_some_iff.mp ek).1
 have hk:rows[i]=k:=(Array.getElem?_eq_some_iff.mp ek).2
 unfold pyNext
 apply zaa
 refine wpAny_attempt (wpAny_callSpecial?_slot (name:=Str.ofString "__next__") y.typeIs F.slot_dict_keyiterator_next (wpAny_call_entry F.slot_dict_keyiterator_next y.typeIs F.entry_dict_keyiterator_next (?_:_) (F.args_dict_keyiterator_next_1 _)))
 apply zaa; apply zab
 apply zaa; apply zaa
 first | refine zaa (wpAny_typeNameOfWhole_keyiter y.typeIs (zab ?_)) | refine zaa (wpAny_typeNameOf_keyiter y.typeIs (zab ?_))
 apply zaa; refine wpAny_fieldsOf g e ?_
 have ot:Builtin.Dict_items.ownsTuple "dict_keyiterator" = false:=by decide
 simp only [ot,Bool.false_eq_true,if_false]
 show wpAny _ _ (if (Value.ref D == Value.none)=true then _ else _) _ _ s
 rw [if_neg (show ¬ ((Value.ref D == Value.none)=true) from λz=>by cases z)]
 apply zaa; apply zab
 apply zaa; refine wpAny_dictEntries g2 e2 ?_
 rw [if_neg (show ¬ _ by simp)]
 apply zaa; apply zab
 apply zaa; refine wpAny_dictEpoch g2 e2 ?_
 rw [if_neg (show ¬ _ by simp)]
 apply zab
 simp only [show ¬ ((i:Int) < 0) by omega,if_false,Int.toNat_natCast,Array.getElem?_eq_getElem hi]
 apply zaa
 first | refine zaa (wpAny_typeNameOfWhole_keyiter y.typeIs (zab ?_)) | refine zaa (wpAny_typeNameOf_keyiter y.typeIs (zab ?_))
 apply zaa; refine wpAny_isOneOf_keyiter y.typeIs ?_
 show wpAny _ _ (setField (.ref J) 1 (rawInt ((i:Int) + 1)) >>= _) _ _ s
 apply zaa; refine wpAny_setField g e (by simp) ?_
 have y2:(s.heap.update J (Obj.mapFields (·.setIfInBounds 1 (rawInt ((i:Int) + 1))))).IsKeyIter J D (i + 1) rows.size ep:=by
  refine ⟨_,Heap.get?_update_self _ g (Obj.isFreed_of_fields (Obj.data_mapFields e _)),(Obj.cls_mapFields ..).trans c,?_⟩
  rw [Obj.data_mapFields e]
  simp [rawInt]
 apply zaa; apply wpAny_holding
 apply zaa
 refine wpAny_isOneOf_keyiter (s:={ s with heap:=s.heap.update J (Obj.mapFields (·.setIfInBounds 1 (rawInt ((i:Int) + 1)))) }) y2.typeIs ?_
 show wpAny _ _ (pure rows[i].key) _ _ _
 rw [hk]
 exact zab (zab ⟨_,rfl,zab (q _ y2 (Heap.SameBut.update ..))⟩)
def Ln {Q:Option Value->Shared->Prop} (hh:A.handled=none) (y:s.heap.IsKeyIter J D rows.size rows.size ep) (x:RawD s.heap D rows ep)
  (q:∀ h',Heap.ExtBut J s.heap h'->Q none { s with heap:=h' }):wpAny (model prog w) A (pyNext (.ref J)) Q E s:=by
 obtain ⟨o,g,c,e⟩:=id y
 obtain ⟨o2,g2,c2,e2⟩:=id x
 unfold pyNext
 apply zaa
 refine wpAny_attempt (wpAny_callSpecial?_slot (name:=Str.ofString "__next__") y.typeIs F.slot_dict_keyiterator_next (wpAny_call_entry F.slot_dict_keyiterator_next y.typeIs F.entry_dict_keyiterator_next (?_:_) (F.args_dict_keyiterator_next_1 _)))
 apply zaa; apply zab
 apply zaa; apply zaa
 first | refine zaa (wpAny_typeNameOfWhole_keyiter y.typeIs (zab ?_)) | refine zaa (wpAny_typeNameOf_keyiter y.typeIs (zab ?_))
 apply zaa; refine wpAny_fieldsOf g e ?_
 have ot:Builtin.Dict_items.ownsTuple "dict_keyiterator" = false:=by decide
 simp only [ot,Bool.false_eq_true,if_false]
 show wpAny _ _ (if (Value.ref D == Value.none)=true then _ else _) _ _ s
 rw [if_neg (show ¬ ((Value.ref D == Value.none)=true) from λz=>by cases z)]
 apply zaa; apply zab
 apply zaa; refine wpAny_dictEntries g2 e2 ?_
 rw [if_neg (show ¬ _ by simp)]
 apply zaa; apply zab
 apply zaa; refine wpAny_dictEpoch g2 e2 ?_
 rw [if_neg (show ¬ _ by simp)]
 apply zab
 simp only [show ¬ ((rows.size:Int) < 0) by omega,if_false,Int.toNat_natCast,Array.getElem?_eq_none (zaj rows.size)]
 apply zaa
 first | refine zaa (wpAny_typeNameOfWhole_keyiter y.typeIs (zab ?_)) | refine zaa (wpAny_typeNameOf_keyiter y.typeIs (zab ?_))
 show wpAny _ _ (setField (.ref J) 0 .none >>= _) _ _ s
 apply zaa; refine wpAny_setField g e (by simp) ?_
 show wpAny _ _ (newExc (.type "StopIteration") [] >>= _) _ _ _
 apply zaa
 simp only [newExc,newTuple]
 apply zaa; refine wpAny_newObj_type ?_ (by size_fits)
 apply zaa (m:=firstArgMember _ _); refine wpAny_of_eq (a:=Value.none) (by first | rfl | (simp only [firstArgMember]; rfl)) ?_
 refine wpAny_newObj_type ?_ (by size_fits)
 simp only [raiseNew]
 apply zaa; apply wpAny_handled
 rw [show A.in1.handled=none from hh]
 refine zaa (zab (wpAny_throw (?_:_)))
 apply zaa
 refine wpAny_isInstance (T:="StopIteration") (b:=true) ⟨_,zad _ rfl,rfl⟩ isSubtype_stop ?_
 exact zab (q _ (((Heap.SameBut.update ..).extBut.push _).push _))
def T4 (hh:A.handled=none) (ne:D ≠ J):Walks prog w A J [J,D] [J] rows.size (λi v=>∃ k,rows[i]?=some k /\ v=k.key) (λi h=>h.IsKeyIter J D i rows.size ep /\ RawD h D rows ep) where
 sub:=λb m=>by simp at m; simp [m]
 frame:=λ_ _ _ st f=>⟨st.1.at λo e=>f J (by simp) o e,st.2.to λo e=>f D (by simp) o e⟩
 item:=λi s Q E hi st f=>by
  obtain ⟨k,ek⟩:∃ k,rows[i]?=some k:=⟨rows[i],by simp [hi]⟩
  refine P5 st.1 st.2 ek λh' y' sb=>?_
  exact f _ h' s.toks ⟨k,ek,rfl⟩ ⟨y',st.2.to λo e=>sb.extBut D o ne e⟩ λb o m e=>sb.extBut b o (λz=>m (by simp [z])) e
 done:=λs Q E st f=>Ln hh st.1 st.2 λh' eb=>f h' s.toks λb o m e=>eb b o (λz=>m (by simp [z])) e
 self:=λ_ _ _ _ st f=>wpAny_pyIter_keyiter st.1 f
def Lm (nb:(D == sysModules)=false):KdlSrc prog w "dict" D D rows.size (λi v=>∃ k,rows[i]?=some k /\ v=k.key) (λh=>RawD h D rows ep) where
 type:=λ_ x=>x.ty
 there:=λ_ x=>⟨x.lt,x.lt⟩
 keep:=λ_ _ x f=>x.to λo e=>f D (.inl rfl) o e
 notList:=by decide
 notTuple:=by decide
 hint:=λ_ _ _ _ x f=>kdl_hint_dict x.ty f
 iter:=λ_ _ hh x=>⟨_,_,(λ_ _ f=>T5 nb x f),T4 hh (Nat.ne_of_lt x.lt),⟨⟨_,zad _ rfl,rfl,rfl⟩,x.to λo e=>zac _ e⟩⟩
end
section
variable {n:Nat} {cmp:Nat->Nat->(Bool->Shared->Prop)->Shared->Prop} {s:Shared}
abbrev POrd (n:Nat) (p:Array Nat):Prop:=p.Perm (List.toArray (List.range n))
def POrd.lt {p:Array Nat} (h:POrd n p) (hn:0 < n) (i:Nat):p.getD i 0 < n:=by
 by_cases hi:i < p.size
 ·have e:p.getD i 0=p[i]:=by simp [Array.getD,hi]
  rw [e]
  have m:p[i] ∈ List.toArray (List.range n):=h.mem_iff.mp (Array.getElem_mem hi)
  simpa using m
 ·have e:p.getD i 0=0:=by simp [Array.getD,hi]
  omega
def POrd.rev {p:Array Nat} (h:POrd n p) (i j:Nat):POrd n (kas_rev p i j):=(mirror_perm p i j _).trans h
def POrd.bub {p:Array Nat} (h:POrd n p) (i j:Nat):POrd n (bubble p i j):=(bubble_perm p i j).trans h
end
def TupZ (h:Heap) (b:Addr) (ns:List Int):Prop:=∃ o its k,h.get? b=some o /\ o.cls=.type "tuple" /\ o.data=.seq its k /\ Vals (ns.map V.int) its.toList
def TupZ.to {h k:Heap} {b:Addr} {ns:List Int} (x:TupZ h b ns) (f:∀ o,h.get? b=some o->k.get? b=some o):TupZ k b ns:=let ⟨o,its,n,g,r⟩:=x; ⟨o,its,n,f o g,r⟩
section
variable {prog:Program} {w:World} {A:Around} {E:Value->Shared->Prop} {s:Shared}
def U9 {Q:SortKind->Shared->Prop}:∀ (bs:List Addr) (kss:List (List Int)),bs ≠ []->bs.length=kss.length->(∀ (i:Nat) b ns,bs[i]?=some b->kss[i]?=some ns->TupZ s.heap b ns /\ ns ≠ [])->Q (tuples' true) s->wpAny (model prog w) A (keyKind' (bs.map Value.ref).toArray) Q E s:=by
 intro bs kss hne hl hb q
 have key:∀ (bs:List Addr) (kss:List (List Int)),bs.length=kss.length->(∀ (i:Nat) b ns,bs[i]?=some b->kss[i]?=some ns->TupZ s.heap b ns /\ ns ≠ [])->∃ fs:List Value,fs.length=bs.length /\ KatTups s.heap (bs.map Value.ref) fs /\ ∀ v ∈ fs,∃ n t,v=Value.int n t:=by
  intro bs
  induction bs with
  | nil=>intro kss _ _; exact ⟨[],rfl,trivial,λv hv=>nomatch hv⟩
  | cons b bs ih =>
   intro kss hl hb
   cases kss with
   | nil=>cases hl
   | cons ns kss =>
    obtain ⟨fs,e1,e2,e3⟩:=ih kss (by simpa using hl) λi b' ns' h1 h2=>hb (i + 1) b' ns' (by simpa using h1) (by simpa using h2)
    obtain ⟨⟨o,its,k,g,c,d,v⟩,nn⟩:=hb 0 b ns rfl rfl
    cases ns with
    | nil=>exact absurd rfl nn
    | cons n ns =>
     rw [List.map_cons] at v
     generalize el:its.toList=l at v
     cases v with
     | @cons _ u _ us r1 t1 =>
      obtain ⟨t,rfl⟩:=r1
      refine ⟨Value.int n t :: fs,by simp [e1],KatTups.cons g c d ?_ e2,λv hv=>?_⟩
      ·rw [<- Array.getElem?_toList,el]
       rfl
      ·rcases zam.mp hv with rfl | hv
       ·exact ⟨n,t,rfl⟩
       ·exact e3 v hv
 obtain ⟨fs,e1,e2,e3⟩:=key bs kss hl hb
 refine kat_kind (T:=Value.type "int") e2 ?_ (λv hv=>?_) (by decide) ?_
 ·rw [e1]
  exact List.length_pos_iff.mpr hne
 ·obtain ⟨n,t,rfl⟩:=e3 v hv
  exact .now
 ·exact q
end
def U3 {α:Type}:∀ l:List α,(l.zip l).map (λx=>x.2)=l
 | []=>rfl
 | a :: l=>by rw [List.zip_cons_cons,List.map_cons,U3 l]
def Ju (H:Hp) (kvs:List (List Key × V)) (bs:List Addr):Prop:=bs.length=kvs.length /\ ∀ (i:Nat) b kv,bs[i]?=some b->kvs[i]?=some kv->H b=some (.tup (kv.1.map kV))
def Ep {X:Cx} {pn:List (Addr × Obj)} {σ:St} {H:Hp} {s:Shared} {a:Addr} {kvs:List (List Key × V)} (I:Inv X pn σ H s) (ha:H a=some (.dT kvs)) :
  ∃ (rows:Array DictEntry) (ep:Nat) (bs:List Addr),RawD s.heap a rows ep /\ (a == sysModules)=false /\ rows.size=kvs.length /\ kvs.length <= sizeLine /\ Ju H kvs bs /\ ∀ (i:Nat) e,rows[i]?=some e->∃ b,bs[i]?=some b /\ e.key=.ref b:=by
 obtain ⟨z,nb,xs,r,o,es,ep,g,c,d,et,nd⟩:=(show yf X.prog X.w H s.heap a (.dT kvs) from I.hok a _ ha)
 have key:∀ {l:List (List Key × V)} {m:List (List Key × Addr × Value)},KT H l m->l.length=m.length /\ ∀ (i:Nat) q kv,m[i]?=some q->l[i]?=some kv->H q.2.1=some (.tup (kv.1.map kV)):=by
  intro l m t
  induction t with
  | nil=>exact ⟨rfl,λi q kv e=>by simp at e⟩
  | @cons p q ps qs hq t ih =>
   refine ⟨by simp [ih.1],λi q' kv e1 e2=>?_⟩
   cases i with
   | zero =>
    have a1:q=q':=by simpa using e1
    have a2:p=kv:=by simpa using e2
    subst a1 a2
    exact hq.2.1
   | succ i=>exact ih.2 i q' kv (by simpa using e1) (by simpa using e2)
 obtain ⟨k1,k2⟩:=key r
 have hsz:es.size=kvs.length:=by rw [<- Array.length_toList,et,zLm,k1]
 refine ⟨es,ep,xs.map (·.2.1),⟨o,g,c,d⟩,nb,hsz,z,⟨by rw [zLm,k1],λi b kv e1 e2=>?_⟩,λi e he=>?_⟩
 ·rw [zai] at e1
  obtain ⟨q,eq,rfl⟩:=zar.mp e1
  exact k2 i q kv eq e2
 ·rw [<- Array.getElem?_toList,et,zai] at he
  obtain ⟨q,eq,rfl⟩:=zar.mp he
  exact ⟨q.2.1,by rw [zai,eq]; rfl,rfl⟩
def Vk {rows:Array DictEntry} {acc:Array Value} {bs:List Addr} {n:Nat} (h:ItemsOf (λi v=>∃ k,rows[i]?=some k /\ v=k.key) acc n) (hn:bs.length=n) (hb:∀ (i:Nat) e,rows[i]?=some e->∃ b,bs[i]?=some b /\ e.key=.ref b):acc.toList=bs.map Value.ref:=by
 apply List.ext_getElem?
 intro i
 rw [zai]
 have hs:acc.toList.length=n:=by simpa using h.1
 by_cases hi:i < n
 ·have e1:acc[i]?=some (acc[i]'(by simpa using (by omega:i < acc.toList.length))):=Array.getElem?_eq_getElem _
  obtain ⟨k,e2,e3⟩:=h.2 i _ e1
  obtain ⟨b,e4,e5⟩:=hb i k e2
  rw [Array.getElem?_toList,e1,e4,e3,e5]
  rfl
 ·rw [List.getElem?_eq_none (by omega),List.getElem?_eq_none (by omega)]
  rfl
def dh:∀ bs:List Addr,Vals (bs.map V.ref) (bs.map Value.ref)
 | []=>.nil
 | b :: bs=>.cons rfl (dh bs)
def qu:Key->Option Int
 | .inl i=>some i
 | .inr _=>none
def vn:∀ ns:List Int,(ns.map (Sum.inl:Int->Key)).filterMap qu=ns
 | []=>rfl
 | n :: ns=>by rw [List.map_cons,List.filterMap_cons]; show n :: _=_; rw [vn ns]
end L2
namespace DL
open PySem PySem.Spec L2 L3
open PyProof.Rows hiding St
variable {Γ:Hp->Prop}
def tkD (k:TK):D:=.tup (k.map kD)
def Yb {K:W.Frag} {H:Hp} {O:List Addr}:∀ k:TK,Reps K H O (k.map kD) (k.map kV)
 | []=>rfl
 | .inl i :: k=>⟨_,_,rfl,rfl,Yb k⟩
 | .inr x :: k=>⟨_,_,rfl,rfl,Yb k⟩
def G8 {K:W.Frag} {H:Hp} {O:List Addr} {k:TK} {b:Addr} (h:H b=some (.tup (k.map kV))):Rep K H O (tkD k) (.ref b):=⟨b,_,rfl,⟨SqT.of h,h⟩,Yb k⟩
def W6 {K:W.Frag} {H:Hp} {O:List Addr}:∀ (ps:List (Addr × TK)),(∀ p ∈ ps,H p.1=some (.tup (p.2.map kV)))->Reps K H O (ps.map λp=>tkD p.2) ((ps.map Prod.fst).map V.ref)
 | [],_=>rfl
 | p :: ps,h=>⟨_,_,rfl,G8 (h p zao),W6 ps λq hq=>h q (zal _ hq)⟩
def qi {α β:Type} {f:α->β} {as bs:List β} (h:as.Perm bs):∀ l:List α,l.map f=as->∃ l':List α,l'.Perm l /\ l'.map f=bs:=by
 induction h with
 | nil=>intro l e; exact ⟨l,List.Perm.refl _,e⟩
 | @cons x as bs h ih =>
  intro l e
  cases l with
  | nil=>cases e
  | cons a l =>
   rw [List.map_cons] at e
   injection e with e1 e2
   obtain ⟨l',p',e'⟩:=ih l e2
   exact ⟨a :: l',p'.cons a,by rw [List.map_cons,e1,e']⟩
 | @swap x y l0 =>
  intro l e
  match l,e with
  | a :: b :: l,e =>
   rw [List.map_cons,List.map_cons] at e
   injection e with e1 e2
   injection e2 with e2 e3
   exact ⟨b :: a :: l,List.Perm.swap a b l,by rw [List.map_cons,List.map_cons,e1,e2,e3]⟩
 | @trans as bs cs h1 h2 ih1 ih2 =>
  intro l e
  obtain ⟨l1,p1,e1⟩:=ih1 l e
  obtain ⟨l2,p2,e2⟩:=ih2 l1 e1
  exact ⟨l2,p2.trans p1,e2⟩
def Ss {H:Hp} {ks:List TK} {xs:List V} {bs:List Addr} (h:Ju H (ks.zip xs) bs) (hl:ks.length=xs.length):bs.length=ks.length /\ ∀ p ∈ bs.zip ks,H p.1=some (.tup (p.2.map kV)):=by
 have e:bs.length=ks.length:=by rw [h.1,List.length_zip,hl,Nat.min_self]
 refine ⟨e,λp hp=>?_⟩
 obtain ⟨i,ei⟩:=List.getElem?_of_mem hp
 obtain ⟨e1,e2⟩:=List.getElem?_zip_eq_some.mp ei
 have hi:=(zag.mp e2).1
 exact h.2 i p.1 (p.2,xs[i]'(by omega)) e1 (by rw [List.getElem?_zip_eq_some]; exact ⟨e2,zaf _⟩)
def Ml {α β:Type} {as:List α} {bs:List β} (h:as.length=bs.length):(as.zip bs).map Prod.fst=as:=List.map_fst_zip (Nat.le_of_eq h)
def qq:∀ k:TK,Yp (k.map kD)=some k
 | []=>rfl
 | .inl i :: k=>by rw [List.map_cons,Yp,qq k]; rfl
 | .inr i :: k=>by rw [List.map_cons,Yp,qq k]; rfl
def gx (k:TK):keyT (tkD k)=some k:=qq k
def Y1 (ns:List Int):tkD (ns.map Sum.inl)=.tup (ns.map D.int):=by
 unfold tkD
 rw [List.map_map]
 rfl
def bg (ns:List Int):keyT (.tup (ns.map D.int))=some (ns.map Sum.inl):=by
 rw [<- Y1,gx]
end DL
namespace L2
open PySem PySem.Spec PySem.W PyProof.Rows
structure Ord (n:Nat) (lt:Nat->Nat->Bool):Prop where
 asym:∀ i j,i < n->j < n->lt i j=true->lt j i=false
 tot:∀ i j,i < n->j < n->i ≠ j->lt i j=false->lt j i=true
 trans:∀ i j k,i < n->j < n->k < n->lt i j=true->lt j k=true->lt i k=true
section
variable {n:Nat} {lt:Nat->Nat->Bool} {cmp:Nat->Nat->(Bool->Shared->Prop)->Shared->Prop} {s:Shared}
abbrev at0 (p:Array Nat) (i:Nat):Nat:=p.getD i 0
def w8 {p:Array Nat} {i:Nat}:at0 p i=(p[i]?).getD 0:=by
 unfold at0
 simp
def POrd.size {p:Array Nat} (h:POrd n p):p.size=n:=by
 have:=h.size_eq
 simpa using this
def POrd.inj {p:Array Nat} (h:POrd n p) {i j:Nat} (hi:i < n) (hj:j < n) (e:at0 p i=at0 p j):i=j:=by
 have nd:p.toList.Nodup:=by
  have h1:p.toList.Perm (List.range n):=by simpa using h.toList
  exact h1.nodup_iff.mpr List.nodup_range
 have hs:=h.size
 have e1:at0 p i=p.toList[i]'(by simpa [hs] using hi):=by rw [w8,Array.getElem?_eq_getElem (by omega)]; simp
 have e2:at0 p j=p.toList[j]'(by simpa [hs] using hj):=by rw [w8,Array.getElem?_eq_getElem (by omega)]; simp
 rw [e1,e2] at e
 have pw:=List.pairwise_iff_getElem.mp nd
 rcases Nat.lt_trichotomy i j with z | z | z
 ·exact absurd e (pw i j _ _ z)
 ·exact z
 ·exact absurd e.symm (pw j i _ _ z)
def Up (lt:Nat->Nat->Bool) (p:Array Nat) (m:Nat):Prop:=∀ a b,a < b->b < m->lt (at0 p a) (at0 p b)=true
def Down (lt:Nat->Nat->Bool) (p:Array Nat) (m:Nat):Prop:=∀ a b,a < b->b < m->lt (at0 p b) (at0 p a)=true
abbrev AskL (n:Nat) (lt:Nat->Nat->Bool) (cmp:Nat->Nat->(Bool->Shared->Prop)->Shared->Prop) (s:Shared):Prop:=∀ i j C,i < n->j < n->C (lt i j) s->cmp i j C s
def Mr (o:Ord n lt) (hn:0 < n) {p:Array Nat} (h:POrd n p) {k:Nat} (h1:1 <= k) (hk:k < n) (u:Up lt p k) (e:lt (at0 p (k - 1)) (at0 p k)=true):Up lt p (k + 1):=λa b hab hb=>by
 by_cases hbk:b < k
 ·exact u a b hab hbk
 ·obtain rfl:b=k:=by omega
  by_cases ha:a=b - 1
  ·rw [ha]; exact e
  ·exact o.trans _ _ _ (h.lt hn _) (h.lt hn _) (h.lt hn _) (u a (b - 1) (by omega) (by omega)) e
def Rr (o:Ord n lt) (hn:0 < n) {p:Array Nat} (h:POrd n p) {k:Nat} (h1:1 <= k) (hk:k < n) (u:Down lt p k) (e:lt (at0 p k) (at0 p (k - 1))=true):Down lt p (k + 1):=λa b hab hb=>by
 by_cases hbk:b < k
 ·exact u a b hab hbk
 ·obtain rfl:b=k:=by omega
  by_cases ha:a=b - 1
  ·rw [ha]; exact e
  ·exact o.trans _ _ _ (h.lt hn _) (h.lt hn _) (h.lt hn _) e (u a (b - 1) (by omega) (by omega))
def Q8 (o:Ord n lt) (hn:0 < n) (hc:AskL n lt cmp s) {p:Array Nat} (h:POrd n p) {Q:Nat->Shared->Prop} {N:Nat} (hN:N <= n) (q:∀ m,1 <= m->m <= N->Up lt p m->(m < N->lt (at0 p m) (at0 p (m - 1))=true)->Q m s) :
  ∀ f k,1 <= k->k + f=N->Up lt p k->(kas_asc p f k).kasWp cmp Q s
 | 0,k,h1,hk,u=>q k h1 (by omega) u λz=>absurd z (by omega)
 | f + 1,k,h1,hk,u=>hc _ _ _ (h.lt hn _) (h.lt hn _) (by
  dsimp only
  cases e:lt (p.getD k 0) (p.getD (k - 1) 0) with
  | true=>exact q k h1 (by omega) u λ_=>e
  | false =>
   refine Q8 o hn hc h hN q f (k + 1) (by omega) (by omega) (Mr o hn h h1 (by omega) u ?_)
   exact o.tot _ _ (h.lt hn _) (h.lt hn _) (λz=>absurd (h.inj (by omega) (by omega) z) (by omega)) e)
def Zj (o:Ord n lt) (hn:0 < n) (hc:AskL n lt cmp s) {p:Array Nat} (h:POrd n p) {Q:Array Nat × Nat × Nat->Shared->Prop} {N:Nat} (hN:N <= n) (q:∀ m,1 <= m->m <= N->Down lt p m->Q (p,m,0) s) :
  ∀ f k,1 <= k->k + f=N->Down lt p k->(kas_desc f p k 0).kasWp cmp Q s
 | 0,k,h1,hk,u=>q k h1 (by omega) u
 | f + 1,k,h1,hk,u=>hc _ _ _ (h.lt hn _) (h.lt hn _) (by
  dsimp only
  cases e:lt (p.getD k 0) (p.getD (k - 1) 0) with
  | true =>
   show (kas_desc f p (k + 1) 0).kasWp cmp Q s
   exact Zj o hn hc h hN q f (k + 1) (by omega) (by omega) (Rr o hn h h1 (by omega) u e)
  | false =>
   refine hc _ _ _ (h.lt hn _) (h.lt hn _) ?_
   dsimp only
   have e2:lt (p.getD (k - 1) 0) (p.getD k 0)=true:=o.tot _ _ (h.lt hn _) (h.lt hn _) (λz=>absurd (h.inj (by omega) (by omega) z) (by omega)) e
   rw [e2]
   exact q k h1 (by omega) u)
def G7 {p:Array Nat} (h:POrd n p) {k:Nat} (hk:k <= n) (u:Down lt p k):Up lt (kas_rev p 0 k) k:=λa b hab hb=>by
 have hs:=h.size
 have g:∀ x,x < k->at0 (kas_rev p 0 k) x=at0 p (k - 1 - x):=λx hx=>by
  rw [w8,w8]
  unfold kas_rev
  rw [getElem?_mirror_all (by omega),if_pos (by omega)]
  congr 2
  omega
 rw [g a (by omega),g b hb]
 exact u _ _ (by omega) (by omega)
def Oz (o:Ord n lt) (hn:2 <= n) (hc:AskL n lt cmp s) {p:Array Nat} (h:POrd n p) {Q:Nat × Array Nat->Shared->Prop} (q:∀ m p,POrd n p->1 <= m->m <= n->Up lt p m->Q (m,p) s):(kas_count n p).kasWp cmp Q s:=by
 unfold kas_count
 rw [KasT.kasWp_bind]
 refine Q8 o (by omega) hc h (zaj n) (λm m1 mn u e=>?_) (n - 1) 1 (zaj _) (by omega) (λa b hab hb=>absurd hab (by omega))
 split
 ·exact q m p h m1 mn u
 ·rename_i hne
  have hlt:m < n:=by
   have:m ≠ n:=λz=>hne (by rw [z]; simp)
   omega
  split
  ·refine hc _ _ _ (h.lt (by omega) _) (h.lt (by omega) _) ?_
   dsimp only
   rw [show lt (p.getD 0 0) (p.getD (m - 1) 0)=true from u 0 (m - 1) (by omega) (by omega)]
   exact q m p h m1 mn u
  ·obtain rfl:m=1:=by omega
   have e1:=e hlt
   unfold kas_descPart
   rw [KasT.kasWp_bind]
   refine Zj o (by omega) hc h (zaj n) (λk k1 kn d=>?_) (n - (1 + 1)) (1 + 1) (by omega) (by omega) (λa b hab hb=>?_)
   ·dsimp only
    rw [if_neg (by decide)]
    unfold kas_tail3
    rw [KasT.kasWp_bind]
    exact Q8 o (by omega) hc (h.rev 0 k) (zaj n) (λm' m1' mn' u' _=>q m' _ (h.rev 0 k) m1' mn' u') (n - k) k k1 (by omega) (G7 h kn d)
   ·obtain ⟨rfl,rfl⟩:a=0 /\ b=1:=by omega
    exact e1
def gh (o:Ord n lt) (hn:0 < n) (hc:AskL n lt cmp s) {p:Array Nat} (h:POrd n p) {k:Nat} (hk:k < n) (u:Up lt p k) {Q:Nat->Shared->Prop} (q:∀ l,l <= k->(∀ a,a < l->lt (at0 p a) (at0 p k)=true)->(∀ a,l <= a->a < k->lt (at0 p k) (at0 p a)=true)->Q l s) :
  ∀ f l r,l <= r->r <= k->r - l <= f->(∀ a,a < l->lt (at0 p a) (at0 p k)=true)->(∀ a,r <= a->a < k->lt (at0 p k) (at0 p a)=true)->(kas_place p k f l r).kasWp cmp Q s
 | 0,l,r,h1,h2,h3,h4,h5=>q l (by omega) h4 λa ha hak=>h5 a (by omega) hak
 | f + 1,l,r,h1,h2,h3,h4,h5=>by
  unfold kas_place
  split
  ·exact q l (by omega) h4 λa ha hak=>h5 a (by omega) hak
  ·rename_i hlr
   refine hc _ _ _ (h.lt hn _) (h.lt hn _) ?_
   dsimp only
   have lem:∀ x y,x <= y->y < k->lt (at0 p k) (at0 p x)=true->lt (at0 p k) (at0 p y)=true:=λx y hxy hy e=>by
    by_cases z:x=y
    ·rw [<- z]; exact e
    ·exact o.trans _ _ _ (h.lt hn _) (h.lt hn _) (h.lt hn _) e (u x y (by omega) hy)
   cases e:lt (p.getD k 0) (p.getD ((l + r) / 2) 0) with
   | true=>exact gh o hn hc h hk u q f l ((l + r) / 2) (by omega) (by omega) (by omega) h4 λa ha hak=>lem _ a ha hak e
   | false =>
    have e2:lt (at0 p ((l + r) / 2)) (at0 p k)=true:=o.tot _ _ (h.lt hn _) (h.lt hn _) (λz=>absurd (h.inj (by omega) (by omega) z) (by omega)) e
    refine gh o hn hc h hk u q f ((l + r) / 2 + 1) r (by omega) (by omega) (by omega) (λa ha=>?_) h5
    by_cases z:a=(l + r) / 2
    ·rw [z]; exact e2
    ·exact o.trans _ _ _ (h.lt hn _) (h.lt hn _) (h.lt hn _) (u a _ (by omega) (by omega)) e2
def Et (o:Ord n lt) {p:Array Nat} (h:POrd n p) {k l:Nat} (hk:k < n) (hl:l <= k) (u:Up lt p k) (h4:∀ a,a < l->lt (at0 p a) (at0 p k)=true) (h5:∀ a,l <= a->a < k->lt (at0 p k) (at0 p a)=true):Up lt (bubble p k (k - l)) (k + 1):=λa b hab hb=>by
 have hs:=h.size
 have g:∀ x,at0 (bubble p k (k - l)) x=if x=l then at0 p k else if l < x /\ x <= k then at0 p (x - 1) else at0 p x:=λx=>by
  rw [w8,getElem?_bubble (by omega) _ (by omega)]
  rw [show k - (k - l)=l by omega]
  split
  ·rw [w8]
  ·split
   ·rw [w8]
   ·rw [w8]
 rw [g a,g b]
 by_cases a1:a=l
 ·rw [if_pos a1,if_neg (by omega),if_pos (by omega)]
  exact h5 (b - 1) (by omega) (by omega)
 ·rw [if_neg a1]
  by_cases b1:b=l
  ·rw [if_pos b1,if_neg (by omega)]
   exact h4 a (by omega)
  ·rw [if_neg b1]
   by_cases a2:l < a /\ a <= k
   ·rw [if_pos a2,if_pos (by omega)]
    exact u _ _ (by omega) (by omega)
   ·rw [if_neg a2]
    by_cases b2:l < b /\ b <= k
    ·rw [if_pos b2]
     exact u _ _ (by omega) (by omega)
    ·rw [if_neg b2]
     exact u _ _ (by omega) (by omega)
def Me (o:Ord n lt) (hn:0 < n) (hc:AskL n lt cmp s) {Q:Array Nat->Shared->Prop} (q:∀ p,POrd n p->Up lt p n->Q p s):∀ f (p:Array Nat) k,POrd n p->k + f=n->Up lt p k->(kas_bin f p k).kasWp cmp Q s
 | 0,p,k,h,hk,u=>q p h (by rw [<- show k=n by omega]; exact u)
 | f + 1,p,k,h,hk,u=>by
  unfold kas_bin
  rw [KasT.kasWp_bind]
  refine gh o hn hc h (by omega) u (λl hl h4 h5=>?_) k 0 k (by omega) (zaj _) (by omega) (λa ha=>absurd ha (by omega)) (λa ha hak=>absurd hak (by omega))
  exact Me o hn hc q f _ (k + 1) (h.bub _ _) (by omega) (Et o h (by omega) hl u h4 h5)
def L8 (o:Ord n lt) (hn:2 <= n) (hc:AskL n lt cmp s) {Q:Array Nat->Shared->Prop} (q:∀ p,POrd n p->Up lt p n->Q p s):(kas_sort n).kasWp cmp Q s:=by
 unfold kas_sort
 rw [KasT.kasWp_bind]
 refine Oz o hn hc (Array.Perm.refl _) λm p h m1 mn u=>?_
 dsimp only
 split
 ·rw [show max m 1=m by omega]
  exact Me o (by omega) hc q _ _ _ h (by omega) u
 ·rename_i hlt
  exact q p h (by rw [<- show m=n by omega]; exact u)
end
def lexB:List Int->List Int->Bool
 | x :: xs,y :: ys=>if x=y then lexB xs ys else decide (x < y)
 | _,_=>false
def ixL (kss:List (List Int)) (i j:Nat):Bool:=lexB (kss.getD i []) (kss.getD j [])
def rh:∀ {xs ys:List Int},lexB xs ys=true->lexB ys xs=false
 | [],ys,h=>by cases h
 | x :: xs,[],h=>by cases h
 | x :: xs,y :: ys,h=>by
  unfold lexB at h ⊢
  by_cases e:x=y
  ·rw [if_pos e] at h
   rw [if_pos e.symm]
   exact rh h
  ·rw [if_neg e] at h
   rw [if_neg (Ne.symm e)]
   have:=of_decide_eq_true h
   exact decide_eq_false (by omega)
def Sj:∀ {xs ys:List Int},xs.length=ys.length->xs ≠ ys->lexB xs ys=false->lexB ys xs=true
 | [],[],_,n,_=>absurd rfl n
 | [],_ :: _,l,_,_=>by cases l
 | _ :: _,[],l,_,_=>by cases l
 | x :: xs,y :: ys,l,n,h=>by
  unfold lexB at h ⊢
  by_cases e:x=y
  ·rw [if_pos e] at h
   rw [if_pos e.symm]
   exact Sj (by simpa using l) (λz=>n (by rw [e,z])) h
  ·rw [if_neg e] at h
   rw [if_neg (Ne.symm e)]
   have:=of_decide_eq_false h
   exact decide_eq_true (by omega)
def b6:∀ {xs ys zs:List Int},lexB xs ys=true->lexB ys zs=true->lexB xs zs=true
 | [],_,_,h,_=>by cases h
 | _ :: _,[],_,h,_=>by cases h
 | _ :: _,_ :: _,[],_,h=>by cases h
 | x :: xs,y :: ys,z :: zs,h1,h2=>by
  unfold lexB at h1 h2 ⊢
  by_cases e1:x=y
  ·rw [if_pos e1] at h1
   by_cases e2:y=z
   ·rw [if_pos e2] at h2
    rw [if_pos (e1.trans e2)]
    exact b6 h1 h2
   ·rw [if_neg e2] at h2
    rw [if_neg (by rw [e1]; exact e2),e1]
    exact h2
  ·rw [if_neg e1] at h1
   have q1:=of_decide_eq_true h1
   by_cases e2:y=z
   ·rw [<- e2,if_neg e1]
    exact h1
   ·rw [if_neg e2] at h2
    have q2:=of_decide_eq_true h2
    rw [if_neg (by omega)]
    exact decide_eq_true (by omega)
def Fa {kss:List (List Int)} (nd:kss.Nodup) (m:Nat) (hl:∀ x ∈ kss,x.length=m):Ord kss.length (ixL kss):=by
 have g:∀ i,i < kss.length->kss.getD i [] ∈ kss:=λi hi=>by
  rw [zaq,zaf hi]
  exact List.getElem_mem hi
 refine ⟨λi j _ _ h=>rh h,λi j hi hj hij h=>Sj (by rw [hl _ (g i hi),hl _ (g j hj)]) (λe=>hij ?_) h,λi j k _ _ _ h1 h2=>b6 h1 h2⟩
 rw [zaq,zaq,zaf hi,zaf hj] at e
 have pw:=List.pairwise_iff_getElem.mp nd
 rcases Nat.lt_trichotomy i j with z | z | z
 ·exact absurd e (pw i j _ _ z)
 ·exact z
 ·exact absurd e.symm (pw j i _ _ z)
def Qj {n:Nat} {lt:Nat->Nat->Bool} {p:Array Nat} (h:POrd n p) (u:Up lt p n):p.toList.Pairwise (λa b=>lt a b=true):=by
 rw [List.pairwise_iff_getElem]
 intro i j hi hj hij
 have hs:=h.size
 have hi':i < p.size:=by simpa using hi
 have hj':j < p.size:=by simpa using hj
 have:=u i j hij (by omega)
 rw [w8,w8,Array.getElem?_eq_getElem hi',Array.getElem?_eq_getElem hj'] at this
 simpa using this
def V9 (us:List Value) {n:Nat} (hn:us.length=n):us=(List.range n).map λi=>us.getD i Value.none:=by
 apply List.ext_getElem?
 intro i
 rw [zai]
 by_cases hi:i < n
 ·rw [List.getElem?_range hi,zaf (by omega)]
  simp [zaq,zaf (show i < us.length by omega)]
 ·rw [List.getElem?_eq_none (by omega),List.getElem?_eq_none (by simp; omega)]
  rfl
def Ve {kvs:List (List Key × V)} (hint:∀ kv ∈ kvs,∃ ns:List Int,kv.1=ns.map Sum.inl) (nd:(kvs.map (·.1)).Nodup):(kvs.map λkv=>kv.1.filterMap qu).Nodup:=by
 unfold List.Nodup at *
 rw [List.pairwise_map] at *
 refine List.Pairwise.imp_of_mem (λ{a b} ha hb h e=>h ?_) nd
 obtain ⟨n1,e1⟩:=hint a ha
 obtain ⟨n2,e2⟩:=hint b hb
 rw [e1,e2,vn,vn] at e
 rw [e1,e2,e]
def Ms {l:List (List Int)} (h2:2 <= l.length) (nd:l.Nodup) (h:∀ x ∈ l,x=[]):False:=by
 match l,h2,nd,h with
 | a :: b :: r,_,nd,h =>
  have e1:=h a (by simp)
  have e2:=h b (by simp)
  exact (List.nodup_cons.mp nd).1 (by rw [e1,e2]; simp)
section
variable {prog:Program} {w:World} {A:Around} {E:Value->Shared->Prop} {s:Shared}
def b7 {b:Bool} {Q:Bool->Shared->Prop}:∀ (xs ys:List Int) (us vs:List Value) (i:Nat),xs.length=ys.length->Vals (xs.map V.int) us->Vals (ys.map V.int) vs->Q (lexB xs ys) s->KatLex prog w A b false Q (us.zip vs) i s
 | [],ys,us,vs,i,hl,h1,h2,q=>by
  rw [List.map_nil] at h1
  cases h1
  exact kat_nil q
 | x :: xs,[],us,vs,i,hl,h1,h2,q=>by cases hl
 | x :: xs,y :: ys,us,vs,i,hl,h1,h2,q=>by
  rw [List.map_cons] at h1 h2
  cases h1 with
  | cons r1 t1 =>
   cases h2 with
   | cons r2 t2 =>
    obtain ⟨t,rfl⟩:=r1
    obtain ⟨u,rfl⟩:=r2
    rw [List.zip_cons_cons]
    unfold lexB at q
    refine kat_cons (wpAny_eqBool_int ?_)
    refine kat_go (λe=>?_) λe=>?_
    ·have e':x=y:=by simpa using e
     rw [if_pos e'] at q
     exact kat_yes (b7 xs ys _ _ _ (by simpa using hl) t1 t2 q)
    ·have e':¬ x=y:=by simpa using e
     rw [if_neg e'] at q
     refine kat_no ?_
     cases hb:(b && i == 0) with
     | true=>exact oneLt_int q
     | false=>exact kat_one _ _ (lt_int q)
def Mu {x y:Addr} {xs ys:List Int} {b:Bool} {C:Bool->Shared->Prop} (hx:TupZ s.heap x xs) (hy:TupZ s.heap y ys) (hl:xs.length=ys.length) (q:C (lexB xs ys) s):wpAny (model prog w) A (keyLt' (tuples' b) (.ref x) (.ref y)) C E s:=by
 obtain ⟨o1,i1,k1,g1,_,d1,v1⟩:=hx
 obtain ⟨o2,i2,k2,g2,_,d2,v2⟩:=hy
 refine kat_lt g1 d1 g2 d2 ?_
 have l1:i1.size=xs.length:=by have:=v1.length; simpa using this.symm
 have l2:i2.size=ys.length:=by have:=v2.length; simpa using this.symm
 rw [show decide (i1.size < i2.size)=false from decide_eq_false (by omega)]
 exact b7 xs ys _ _ 0 hl v1 v2 q
def V7 {l:Addr} {bs:List Addr} {kss:List (List Int)} {n:Nat} {P:PySem.Fin->Shared->Prop} (g:s.heap.get? l=some (seqObj "list" (bs.map Value.ref).toArray n)) (hm:l ∉ bs)
  (hl:bs.length=kss.length) (hb:∀ (i:Nat) b ns,bs[i]?=some b->kss[i]?=some ns->TupZ s.heap b ns) (hz:2 <= bs.length->∀ ns ∈ kss,ns ≠ []) (o:2 <= bs.length->Ord bs.length (ixL kss)) (he:∀ ns ∈ kss,∀ ms ∈ kss,ns.length=ms.length) (h64:bs.length < 64)
  (q:∀ h' (ix:List Nat) n',ix.Perm (List.range bs.length)->ix.Pairwise (λa b=>ixL kss a b=true)->(∀ b o,b ≠ l->s.heap.get? b=some o->h'.get? b=some o)->h'.get? l=some (seqObj "list" (ix.map λi=>(bs.map Value.ref).getD i Value.none).toArray n')->P (.done (.ret .none)) { s with heap:=h' }) :
  wpAny (model prog w) A (Builtin.«list.sort» ⟨[.ref l],[]⟩) P E s:=by
 have ll:l < s.heap.objs.size:=zae g
 have hlen:(bs.map Value.ref).length=bs.length:=zLm ..
 obtain ⟨e1,g1⟩:∃ e1,(s.heap.update l (Obj.mapSeq λ_=>(#[]:Array Value))).get? l=some (seqObj "list" #[] e1):=⟨_,get?_update_seq g λ_=>#[]⟩
 have sb1:=Heap.SameBut.update s.heap l (Obj.mapSeq λ_=>(#[]:Array Value))
 rw [list_sort_plain]
 apply zaa; refine listItems_at g rfl ?_
 apply zaa; refine listUpdate_at g rfl ?_ (by rw [zap,sizeLine_eq,hlen]; omega) (Nat.zero_le _)
 apply zaa; refine seqEpoch_at g1 rfl ?_
 apply zaa; refine wpAny_newTuple ?_ (by show (bs.map Value.ref).length <= _; rw [sizeLine_eq,hlen]; omega)
 apply zaa; refine wpAny_newList ?_ (Nat.zero_le _)
 apply wpAny_holding
 show wpAny (model prog w) A _ P E { s with heap:=((s.heap.update l (Obj.mapSeq λ_=>(#[]:Array Value))).push (seqObj "tuple" (bs.map Value.ref).toArray 0)).push (seqObj "list" #[] 0) }
 generalize eh:((s.heap.update l (Obj.mapSeq λ_=>(#[]:Array Value))).push (seqObj "tuple" (bs.map Value.ref).toArray 0)).push (seqObj "list" #[] 0)=h3
 have k3:∀ b o,b ≠ l->s.heap.get? b=some o->h3.get? b=some o:=λb o nb e=>by
  rw [<- eh]
  exact zac _ (zac _ ((sb1.2 b nb).trans e))
 have g3:h3.get? l=some (seqObj "list" #[] e1):=by
  rw [<- eh]
  exact zac _ (zac _ g1)
 have fin:∀ (ix:List Nat) (us:List Value),us=(ix.map λi=>(bs.map Value.ref).getD i Value.none)->ix.Perm (List.range bs.length)->ix.Pairwise (λa b=>ixL kss a b=true)->P (.done (.ret .none)) { s with heap:=h3.update l (Obj.mapSeq λ_=>us.toArray) }:=λix us eu pu pw=>by
  subst eu
  obtain ⟨c2,g4⟩:∃ c2,(h3.update l (Obj.mapSeq λ_=>(ix.map λi=>(bs.map Value.ref).getD i Value.none).toArray)).get? l=some (seqObj "list" (ix.map λi=>(bs.map Value.ref).getD i Value.none).toArray c2):=⟨_,get?_update_seq g3 λ_=>(ix.map λi=>(bs.map Value.ref).getD i Value.none).toArray⟩
  exact q _ ix c2 pu pw (λb o nb e=>((Heap.SameBut.update h3 l (Obj.mapSeq λ_=>(ix.map λi=>(bs.map Value.ref).getD i Value.none).toArray)).2 b nb).trans (k3 b o nb e)) g4
 dsimp only
 by_cases h2:(bs.map Value.ref).toArray.size < 2
 ·rw [if_pos h2,if_pos h2]
  apply zaa; apply zab
  rw [StateT.run_pure]
  apply zaa; apply zab
  dsimp only
  have eo:(arrOf (SortSt.mk' general' ((bs.map Value.ref).toArray.zip (bs.map Value.ref).toArray) #[] 7 none)).map (·.2)=(bs.map Value.ref).toArray:=by
   show ((bs.map Value.ref).toArray.zip (bs.map Value.ref).toArray).map (·.2)=_
   apply Array.toList_inj.mp
   simp
   exact U3 _
  rw [eo]
  apply zaa; refine seqEpoch_at (s:={ s with heap:=h3 }) g3 rfl ?_
  apply zaa; refine listUpdate_at (s:={ s with heap:=h3 }) g3 rfl ?_ (Nat.zero_le _) (by rw [zap,sizeLine_eq,hlen]; omega)
  simp only [bne_self_eq_false,Bool.false_eq_true,if_false]
  exact zab (fin (List.range bs.length) _ (V9 _ (by rw [hlen])) (List.Perm.refl _) (by
   have hz2:bs.length < 2:=by rw [zap,hlen] at h2; exact h2
   match bs.length,hz2 with
   | 0,_=>exact List.Pairwise.nil
   | 1,_=>exact List.pairwise_singleton _ _))
 ·rw [if_neg h2,if_neg h2]
  have h2':2 <= bs.length:=by rw [zap,hlen] at h2; omega
  have tz:∀ (i:Nat) b ns,bs[i]?=some b->kss[i]?=some ns->TupZ h3 b ns:=λi b ns x1 x2=>(hb i b ns x1 x2).to λo e=>k3 b o (λz=>hm (z ▸ zan x1)) e
  apply zaa
  refine U9 (s:={ s with heap:=h3 }) bs kss (λz=>by rw [z] at h2'; exact absurd h2' (by decide)) hl (λi b ns x1 x2=>⟨tz i b ns x1 x2,hz h2' ns (zan x2)⟩) ?_
  apply zaa
  have hask:AskL bs.length (ixL kss) (kas_ask prog w A (tuples' true) (bs.map Value.ref)) { s with heap:=h3 }:=λi j C hi hj f=>by
   unfold kas_ask
   have ei:(bs.map Value.ref).getD i Value.none=.ref bs[i]:=by rw [zaq,zai,zaf hi]; rfl
   have ej:(bs.map Value.ref).getD j Value.none=.ref bs[j]:=by rw [zaq,zai,zaf hj]; rfl
   rw [ei,ej]
   refine Mu (s:={ s with heap:=h3 }) (tz i _ (kss[i]'(hl ▸ hi)) (zaf hi) (zaf _)) (tz j _ (kss[j]'(hl ▸ hj)) (zaf hj) (zaf _)) (he _ (List.getElem_mem _) _ (List.getElem_mem _)) ?_
   have ci:kss.getD i []=kss[i]'(hl ▸ hi):=by rw [zaq,zaf (hl ▸ hi)]; rfl
   have cj:kss.getD j []=kss[j]'(hl ▸ hj):=by rw [zaq,zaf (hl ▸ hj)]; rfl
   unfold ixL at f
   rw [ci,cj] at f
   exact f
  have hrun:=kat_run (prog:=prog) (w:=w) (A:=A) (E:=E) (s:={ s with heap:=h3 }) (κ:=tuples' true) (ks:=bs.map Value.ref) (vs:=bs.map Value.ref)
   (Q:=λst' s'=>s'={ s with heap:=h3 } /\ failedOf st'=none /\ ∃ ix:List Nat,ix.Perm (List.range bs.length) /\ ix.Pairwise (λa b=>ixL kss a b=true) /\ (arrOf st').map (·.2)=(ix.map λi=>(bs.map Value.ref).getD i Value.none).toArray)
   (G:=λp s'=>s'={ s with heap:=h3 } /\ POrd bs.length p /\ Up (ixL kss) p bs.length) rfl (by rw [hlen]; exact h2') (by rw [hlen]; exact h64)
   (λp st' s' a1 a2 a3 a4=>⟨a4.1,a3,_,by simpa using a4.2.1.toList,Qj a4.2.1 a4.2.2,kat_snds rfl a2⟩) (by rw [hlen]; exact L8 (o h2') h2' hask λp hp hu=>⟨rfl,hp,hu⟩)
  refine wpAny_mono hrun ?_ λ_ _ e=>e
  rintro ⟨⟨⟩,st'⟩ s' ⟨rfl,hf,ix,pu,pw,eu⟩
  dsimp only
  rw [eu]
  apply zaa; refine seqEpoch_at (s:={ s with heap:=h3 }) g3 rfl ?_
  apply zaa; refine listUpdate_at (s:={ s with heap:=h3 }) g3 rfl ?_ (Nat.zero_le _) (by rw [zap,sizeLine_eq,zLm,pu.length_eq,List.length_range]; omega)
  rw [hf]
  simp only [bne_self_eq_false,Bool.false_eq_true,if_false]
  exact zab (fin ix _ rfl pu pw)
end
section
variable {X:Cx}
def Zm (hc:X.calm=true):wg X (.builtin "sorted") (λxs H Q=>∃ a kvs,xs=[.ref a] /\ H a=some (.dT kvs) /\ kvs.length < 64 /\ (∃ m,∀ kv ∈ kvs,∃ ns:List Int,kv.1=ns.map Sum.inl /\ ns.length=m) /\ (kvs.map (·.1)).Nodup /\
  ∀ p bs (ix:List Nat),H p=none->Ju H kvs bs->ix.Perm (List.range kvs.length)->ix.Pairwise (λa b=>ixL (kvs.map λkv=>kv.1.filterMap qu) a b=true)->Q (.ref p) (upd H p (.lst ((ix.map λi=>bs.getD i 0).map V.ref)))):=by
 intro pn s σ H xs us Q I r h
 obtain ⟨a,kvs,rfl,ha,h64,⟨m0,hint'⟩,hnd,q⟩:=h
 have hint:∀ kv ∈ kvs,∃ ns:List Int,kv.1=ns.map Sum.inl:=λkv mk=>let ⟨ns,e,_⟩:=hint' kv mk; ⟨ns,e⟩
 have hlen0:∀ kv ∈ kvs,(kv.1.filterMap qu).length=m0:=λkv mk=>by
  obtain ⟨ns,e,el⟩:=hint' kv mk
  rw [e,vn]
  exact el
 have hnd2:(kvs.map λkv=>kv.1.filterMap qu).Nodup:=Ve hint hnd
 have hne:2 <= kvs.length->∀ kv ∈ kvs,kv.1 ≠ []:=λh2 kv mk z=>by
  have hm0:m0=0:=by rw [<- hlen0 kv mk,z]; rfl
  exact Ms (l:=kvs.map λkv=>kv.1.filterMap qu) (by rw [zLm]; exact h2) hnd2 λx hx=>by
   obtain ⟨kv',mk',rfl⟩:=zah.mp hx
   exact List.length_eq_zero_iff.mp (by rw [hlen0 kv' mk',hm0])
 obtain ⟨u,rfl,ru⟩:=vv r
 cases ru
 obtain ⟨rows,ep,bs,rd,nb,sz,z,ka,kb⟩:=Ep I ha
 refine Calls.call_function_entry kind_sorted plain_sorted entry_sorted (args_sorted1 _) (?_:_)
 unfold Builtin.«sorted»
 apply zaa (m:=checkCount "sorted" 1 1 _); apply zab
 apply zaa
 refine kdu_collect (Lm nb) (I.ok.hd hc) rd (by omega) λh1 tk acc k1 hacc=>?_
 rw [Vk hacc (by rw [ka.1,sz]) kb]
 apply zaa; refine wpAny_newList ?_ (by rw [zLm,sizeLine_eq,ka.1]; omega)
 have hb1:∀ b ∈ bs,b < h1.objs.size:=λb m=>by
  obtain ⟨i,e⟩:=List.getElem?_of_mem m
  have hi:=(zag.mp e).1
  obtain ⟨_,its,_,⟨o,g,_⟩,_⟩:=(show yf X.prog X.w H s.heap b (.tup _) from I.hok b _ (ka.2 i b (kvs[i]'(by rw [<- ka.1]; exact hi)) e (zaf _)))
  exact zae (k1 b o g)
 have I1:Inv X pn σ H { s with heap:=h1,toks:=tk }:=I.kept k1
 apply zaa
 refine wpAny_holding (wpAny_call_entry slot_list_sort ⟨_,zad _ rfl,rfl⟩ entry_list_sort (?_:_) (args_list_sort _))
 refine V7 (s:={ s with heap:=h1.push (seqObj "list" (bs.map Value.ref).toArray 0),toks:=tk }) (n:=0) (kss:=kvs.map λkv=>kv.1.filterMap qu) (zad _ rfl) (λm=>Nat.lt_irrefl _ (hb1 _ m)) (by rw [zLm,ka.1]) (λi b ns e1 e2=>?_) (λh2 ns hm=>?_) (λh2=>?_) (λns h1 ms h2=>?_) (by rw [ka.1]; exact h64) λh' ix n' pu pw keep gl=>?_
 ·rw [zai] at e2
  obtain ⟨kv,ek,rfl⟩:=zar.mp e2
  obtain ⟨ns,en⟩:=hint kv (zan ek)
  have hk:=ka.2 i b kv e1 ek
  rw [en] at hk ⊢
  rw [vn]
  obtain ⟨_,its,rv,⟨o,g,c,n,d⟩,_⟩:=(show yf X.prog X.w H s.heap b (.tup _) from I.hok b _ hk)
  refine ⟨o,its.toArray,n,zac _ (k1 b o g),c,d,?_⟩
  rw [List.map_map] at rv
  exact (show Vals (ns.map V.int) its from rv)
 ·obtain ⟨kv,mk,rfl⟩:=zah.mp hm
  obtain ⟨ns,en⟩:=hint kv mk
  have:=hne (by rw [<- ka.1]; exact h2) kv mk
  rw [en] at this ⊢
  rw [vn]
  exact λz=>this (by rw [z]; rfl)
 ·rw [ka.1,<- zLm (f:=λkv:List Key × V=>kv.1.filterMap qu) (as:=kvs)]
  exact Fa hnd2 m0 λx hx=>by
   obtain ⟨kv',mk',rfl⟩:=zah.mp hx
   exact hlen0 kv' mk'
 ·obtain ⟨k1',m1,rfl⟩:=zah.mp h1
  obtain ⟨k2',m2,rfl⟩:=zah.mp h2
  rw [hlen0 _ m1,hlen0 _ m2]
 ·have ecs:(ix.map λi=>(bs.map Value.ref).getD i Value.none)=(ix.map λi=>bs.getD i 0).map Value.ref:=by
   rw [List.map_map]
   refine List.map_congr_left λi mi=>?_
   have hi:i < bs.length:=List.mem_range.mp (pu.mem_iff.mp mi)
   simp [zaq,zaf hi]
  rw [ecs] at gl
  have pl:(ix.map λi=>bs.getD i 0).length=kvs.length:=by rw [zLm,pu.length_eq,List.length_range,ka.1]
  generalize ecc:(ix.map λi=>bs.getD i 0)=cs at *
  refine ⟨_,rfl,zab ⟨_,rfl,.ref h1.objs.size,_,I1.laid (h':=h') (t':=tk) (o:=.lst (cs.map V.ref)) (λb u e=>?_) (zaj _) ?_,rfl,by rw [<- ecc]; exact q _ bs ix (I1.hok.fresh (zaj _)) ka (by rw [<- ka.1]; exact pu) pw⟩⟩
  ·exact keep b u (Nat.ne_of_lt (zae e)) (zac _ e)
  ·exact ⟨by rw [zLm,pl]; exact z,_,n',dh cs,gl⟩
end
end L2
namespace DL
open PySem PySem.Spec L2 L3
open PyProof.Rows hiding St
variable {Γ:Hp->Prop}
def zK (k:TK):List Int:=k.filterMap qu
def ltK (j k:TK):Prop:=lexB (zK j) (zK k)=true
def V8 (ks:List TK):(List.range ks.length).map (λi=>ks.getD i [])=ks:=by
 apply List.ext_getElem?
 intro i
 rw [zai]
 by_cases hi:i < ks.length
 ·rw [List.getElem?_range hi,zaf hi]
  simp [zaq,zaf hi]
 ·rw [List.getElem?_eq_none (by simp; omega),List.getElem?_eq_none (by omega)]
  rfl
section
variable {X:Cx} {e:Expr} {es:List Expr} {t:TDs} {te:TD} {p pos:Pos}
def sSortedU:FT:=λds φ=>match ds with
 | [.dt ks _]=>ks.length < 64 /\ (∃ m,∀ k ∈ ks,∃ ns:List Int,k=ns.map Sum.inl /\ ns.length=m) /\ ∀ ks':List TK,ks'.Perm ks->ks'.Pairwise ltK->φ (df (.lst (ks'.map tkD)))
 | _=>False
def t7 (hm:X.mg "sorted" = none) (ha:EA Γ X (e :: es) t) (hc:X.calm=true:=by rfl) (hg:Gl X "sorted":=by rfl) (he:starEach (e :: es) X.env=(false,eval e X.env) :: starEach es X.env:=by rfl) (hpl:(backTo pos (starEach es X.env)).any (·.1)=false:=by rfl):ED Γ X (.Call (.Name "sorted" p) (e :: es) [] pos) (dCB sSortedU t) :=
 wl (Zm hc) (λH O ds vs φ Q ho hv h k=>by
  unfold sSortedU at h
  split at h
  ·rename_i ks l
   obtain ⟨v,ws,rfl,⟨a,xs,rfl,q,l,nd,r⟩,rfl⟩:=hv
   obtain ⟨h1,⟨m,h2⟩,h4⟩:=h
   have hl:ks.length=xs.length:=by rw [l,r.length]
   have hz:(ks.zip xs).length=ks.length:=by rw [List.length_zip,hl,Nat.min_self]
   have hf:(ks.zip xs).map (·.1)=ks:=Ml hl
   refine ⟨a,_,rfl,q,by rw [hz]; exact h1,⟨m,λkv mk=>h2 _ (List.of_mem_zip mk).1⟩,by rw [hf]; exact nd,λp bs ix hp kb pi pw=>?_⟩
   obtain ⟨z1,z2⟩:=Ss kb hl
   rw [hz] at pi
   have rr:=W6 (K:=X.K) (O:=O) (ix.map λi=>(bs.getD i 0,ks.getD i [])) λq hq=>by
    obtain ⟨i,mi,rfl⟩:=zah.mp hq
    have hi:i < ks.length:=List.mem_range.mp (pi.mem_iff.mp mi)
    refine z2 _ (zan (i:=i) ?_)
    rw [List.getElem?_zip_eq_some]
    simp [zaq,zaf hi,zaf (show i < bs.length by omega)]
   rw [List.map_map,List.map_map,List.map_map] at rr
   have hp1:(ix.map λi=>ks.getD i []).Perm ks:=by
    have:=pi.map λi=>ks.getD i []
    rw [V8] at this
    exact this
   have hpw:(ix.map λi=>ks.getD i []).Pairwise ltK:=by
    rw [List.pairwise_map]
    refine List.Pairwise.imp_of_mem (λ{i j} mi mj h=>?_) pw
    have hi:i < ks.length:=List.mem_range.mp (pi.mem_iff.mp mi)
    have hj:j < ks.length:=List.mem_range.mp (pi.mem_iff.mp mj)
    have ek:((ks.zip xs).map λkv=>kv.1.filterMap qu)=ks.map zK:=by
     rw [show ((ks.zip xs).map λkv=>kv.1.filterMap qu)=((ks.zip xs).map (·.1)).map zK by rw [List.map_map]; rfl,hf]
    rw [ek] at h
    unfold ixL at h
    have e1:(ks.map zK).getD i []=zK (ks.getD i []):=by simp [zaq,zaf hi]
    have e2:(ks.map zK).getD j []=zK (ks.getD j []):=by simp [zaq,zaf hj]
    rw [e1,e2] at h
    exact h
   have h5:=h4 _ hp1 hpw
   rw [List.map_map] at h5
   refine k _ _ _ (zr hp _) (vd ho hp ?_) h5
   rw [List.map_map]
   exact rr
  ·exact h.elim) hm (by kernel_rfl) ha hg (by decide) (by decide) he hpl
end
def vg (ns:List Int):zK (ns.map Sum.inl)=ns:=vn ns
end DL
namespace L2
open PySem PySem.Spec PySem.W PyProof.Rows
def vm (D:Addr) (i n ep:Nat) (x0 x1 o1 o2:Value):Obj:={ cls:=.type "dict_itemiterator", dict:=none,data:=.fields #[x0,x1,.ref D,.int i 0,.int n 0,.int ep 0,o1,o2],slots:=#[] }
def RawJ (h:Heap) (J D:Addr) (i n ep:Nat):Prop:=∃ x0 x1 o1 o2,h.get? J=some (vm D i n ep x0 x1 o1 o2) /\ ((x0=.none /\ x1=.bool false) \/ ∃ (b:Addr) (f:Bool) (ob:Obj),x0=rawInt b /\ x1=.bool f /\ h.get? b=some ob /\ b ≠ J)
def gm (e:DictEntry):Obj:={ cls:=.type "tuple", data:=.seq #[e.key,e.val] }
def RawJ.ty {s:Shared} {J D:Addr} {i n ep:Nat} (y:RawJ s.heap J D i n ep):s.TypeIs (.ref J) "dict_itemiterator":=let ⟨_,_,_,_,e,_⟩:=y; ⟨_,e,rfl⟩
section
variable {prog:Program} {w:World} {A:Around} {E:Value->Shared->Prop} {s:Shared} {D J b:Addr} {rows:Array DictEntry} {ep i:Nat} {o1 o2:Value} {f:Bool}
def W8 {Q:Value->Shared->Prop} (nb:(D == sysModules)=false) (x:RawD s.heap D rows ep)
  (q:Q (.ref s.heap.objs.size) { s with heap:=s.heap.push { cls:=.type "dict_items", data:=.fields #[.ref D] } }):wpAny (model prog w) A (call (.builtin "dict.items") [.ref D]) Q E s:=by
 have ty:=x.ty
 refine wpAny_call_entry F.slot_dict_items ty F.entry_dict_items (?body) (F.args_dict_items_1 _)
 unfold Builtin.«dict.items»
 apply zaa
 unfold Builtin.Dict.noArgs
 apply zaa
 refine wpAny_notOrdered_dict ty (?_:_)
 show wpAny _ _ (pure D) _ _ s
 apply zab
 show wpAny _ _ (Builtin.Dict.showsAll D >>= _) _ _ s
 unfold Builtin.Dict.showsAll
 rw [if_neg (show ¬ ((D == sysModules)=true) by rw [nb]; decide)]
 apply zaa; apply zab
 apply zaa
 exact wpAny_newObj_type (zab ⟨_,rfl,q⟩)
def jh {v:Addr} {Q:Value->Shared->Prop} (hv:s.heap.IsItemsView v D) (x:RawD s.heap D rows ep)
  (q:Q (.ref s.heap.objs.size) { s with heap:=s.heap.push { cls:=.type "dict_itemiterator", data:=.fields #[.none,.bool false,.ref D,.int 0 0,.int rows.size 0,.int ep 0,.none,.none] } }) :
  wpAny (model prog w) A (pyIter (.ref v)) Q E s:=by
 have ty:=hv.typeIs
 obtain ⟨o,g,c,d⟩:=id hv
 obtain ⟨o2,g2,c2,e2⟩:=id x
 refine wpAny_pyIter_slot ty F.slot_dict_items_iter (wpAny_call_entry F.slot_dict_items_iter ty F.entry_dict_items_iter (?body) (F.args_dict_items_iter_1 _))
 unfold Builtin.«dict_items.__iter__»
 apply zaa; apply zab
 apply zaa
 unfold Builtin.Dict_items.dictOf
 apply zaa
 refine wpAny_field g d (x:=.ref D) rfl (zab (?_:_))
 apply zaa
 unfold Builtin.Dict_items.newIterator
 apply zaa; refine wpAny_dictEntries g2 e2 ?_
 apply zaa; refine wpAny_dictEpoch g2 e2 ?_
 have ot:Builtin.Dict_items.ownsTuple "dict_itemiterator" = true:=by decide
 simp only [ot,if_true]
 refine wpAny_newObj_type (zab ⟨_,rfl, "dict_itemiterator", _,⟨_,zad _ rfl,rfl⟩,F.slot_dict_itemiterator_next.lookup,(?_:_)⟩) (?_:_)
 ·simpa [rawInt,Builtin.Dict_items.ownedTupleFields] using q
 ·simp only [sizeOk,Builtin.Dict_items.ownedTupleFields,zap,zLa,zLc,zLn,sizeLine_eq]
  omega
def W9 {Q:Option Value->Shared->Prop} (hh:A.handled=none) (y:RawJ s.heap J D rows.size rows.size ep) (x:RawD s.heap D rows ep)
  (q:∀ h',Heap.ExtBut J s.heap h'->Q none { s with heap:=h' }):wpAny (model prog w) A (pyNext (.ref J)) Q E s:=by
 have ty:=y.ty
 obtain ⟨x0,x1,o1,o2,e,c⟩:=id y
 obtain ⟨od,g2,c2,e2⟩:=id x
 unfold pyNext
 apply zaa
 refine wpAny_attempt (wpAny_callSpecial?_slot (name:=Str.ofString "__next__") ty F.slot_dict_itemiterator_next (wpAny_call_entry F.slot_dict_itemiterator_next ty F.entry_dict_itemiterator_next (?_:_) (F.args_dict_itemiterator_next_1 _)))
 apply zaa; apply zab
 apply zaa; apply zaa
 first | refine zaa (wpAny_typeNameOfWhole_itemiter ty (zab (?_:_))) | refine zaa (wpAny_typeNameOf_itemiter ty (zab (?_:_)))
 apply zaa; refine wpAny_fieldsOf e rfl ?_
 have ot:Builtin.Dict_items.ownsTuple "dict_itemiterator" = true:=by decide
 simp only [ot,if_true]
 show wpAny _ _ (if (Value.ref D == Value.none)=true then _ else _) _ _ s
 rw [if_neg (show ¬ ((Value.ref D == Value.none)=true) from λz=>by cases z)]
 apply zaa; apply zab
 apply zaa; refine wpAny_dictEntries g2 e2 ?_
 rw [if_neg (show ¬ _ by simp)]
 apply zaa; apply zab
 apply zaa; refine wpAny_dictEpoch g2 e2 ?_
 rw [if_neg (show ¬ _ by simp)]
 apply zab
 simp only [show ¬ ((rows.size:Int) < 0) by omega,if_false,Int.toNat_natCast,Array.getElem?_eq_none (zaj rows.size)]
 apply zaa
 first | refine zaa (wpAny_typeNameOfWhole_itemiter ty (zab (?_:_))) | refine zaa (wpAny_typeNameOf_itemiter ty (zab (?_:_)))
 show wpAny _ _ (setField (.ref J) 2 .none >>= _) _ _ s
 apply zaa; refine wpAny_setField e rfl (by simp) (?_:_)
 show wpAny _ _ (newExc (.type "StopIteration") [] >>= _) _ _ _
 apply zaa
 simp only [newExc,newTuple]
 apply zaa; refine wpAny_newObj_type ?_ (by size_fits)
 apply zaa (m:=firstArgMember _ _); refine wpAny_of_eq (a:=Value.none) (by first | rfl | (simp only [firstArgMember]; rfl)) ?_
 refine wpAny_newObj_type ?_ (by size_fits)
 simp only [raiseNew]
 apply zaa; apply wpAny_handled
 rw [show A.in1.handled=none from hh]
 refine zaa (zab (wpAny_throw (?_:_)))
 apply zaa
 refine wpAny_isInstance (T:="StopIteration") (b:=true) ⟨_,zad _ rfl,rfl⟩ isSubtype_stop ?_
 exact zab (q _ (((Heap.SameBut.update ..).extBut.push _).push _))
end
section
variable {X:Cx}
def dj:typeOf (.builtin "dict.items")=pure (.type "method_descriptor"):=by kernel_rfl
end
end L2
namespace DL
open PySem PySem.Spec L2 L3
open PyProof.Rows hiding St
variable {Γ:Hp->Prop}
def Ht {K:W.Frag} {H H':Hp} {a:Addr} {xs:List V} (kt:∀ b xs,H b=some (.tup xs)->H' b=some (.tup xs)) (kf:∀ b o u,H b=some (.frz o u)->H' b=some (.frz o u)) (h:SqR K H a xs):SqR K H' a xs:=by
 obtain ⟨h1,h2⟩:=h
 refine ⟨?_,kt _ _ h2⟩
 rcases h1 with (h | ⟨o,h⟩) | h
 ·exact .inl (.inl (kt _ _ h))
 ·exact .inl (.inr ⟨o,kf _ _ _ h⟩)
 ·exact .inr h
def Hw {K:W.Frag} {H H':Hp} {a:Addr} {ns:List Int} (kf:∀ b o u,H b=some (.frz o u)->H' b=some (.frz o u)) (h:Scr K H a ns):Scr K H' a ns:=by
 rcases h with ⟨o,h⟩ | h
 ·exact .inl ⟨o,kf _ _ _ h⟩
 ·exact .inr h
mutual
def RepN.go {K:W.Frag} {P P':Addr->Prop} {H H':Hp} (kt:∀ b xs,H b=some (.tup xs)->H' b=some (.tup xs)) (kf:∀ b o u,H b=some (.frz o u)->H' b=some (.frz o u)) (g:∀ b u,P b->H b=some u->H' b=some u /\ P' b):∀ (d:D) (v:V),RepN K H P d v->RepN K H' P' d v
 | .non,_,h=>h
 | .bl _,_,h=>h
 | .int _,_,h=>h
 | .str _,_,h=>h
 | .ty _,_,h=>h
 | .cn _,_,h=>h
 | .tup ds,v,h=>by
  obtain ⟨a,xs,e,q,r⟩:=h
  exact ⟨a,xs,e,Ht kt kf q,y4.go kt kf g ds xs r⟩
 | .lst ds,v,h=>by
  obtain ⟨a,xs,e,q,n,r⟩:=h
  exact ⟨a,xs,e,(g a _ n q).1,(g a _ n q).2,y4.go kt kf g ds xs r⟩
 | .scr ns,v,h=>by
  obtain ⟨a,e,q⟩:=h
  exact ⟨a,e,Hw kf q⟩
 | .dz rs,v,h=>by
  obtain ⟨a,e,q⟩:=h
  exact ⟨a,e,let ⟨o,z⟩:=q.1; ⟨o,kf _ _ _ z⟩,q.2⟩
 | .exc C,v,h=>by
  obtain ⟨a,e,q,n⟩:=h
  exact ⟨a,e,(g a _ n q).1,(g a _ n q).2⟩
 | .fd C,v,h=>by
  obtain ⟨a,e,q,n⟩:=h
  exact ⟨a,e,(g a _ n q).1,(g a _ n q).2⟩
 | .dp rs,v,h=>by
  obtain ⟨a,o,e,q,n,r⟩:=h
  exact ⟨a,o,e,(g a _ n q).1,(g a _ n q).2,r.gt kt⟩
 | .dk ks ds,v,h=>by
  obtain ⟨a,xs,e,q,n,l,nd,r⟩:=h
  exact ⟨a,xs,e,(g a _ n q).1,(g a _ n q).2,l,nd,y4.go kt kf g ds xs r⟩
 | .dt ks ds,v,h=>by
  obtain ⟨a,xs,e,q,n,l,nd,r⟩:=h
  exact ⟨a,xs,e,(g a _ n q).1,(g a _ n q).2,l,nd,y4.go kt kf g ds xs r⟩
 | .ob C ns ds,v,h=>by
  obtain ⟨a,dx,xs,e,q,n,l,nd,r⟩:=h
  exact ⟨a,dx,xs,e,(g a _ n q).1,(g a _ n q).2,l,nd,y4.go kt kf g ds xs r⟩
def y4.go {K:W.Frag} {P P':Addr->Prop} {H H':Hp} (kt:∀ b xs,H b=some (.tup xs)->H' b=some (.tup xs)) (kf:∀ b o u,H b=some (.frz o u)->H' b=some (.frz o u)) (g:∀ b u,P b->H b=some u->H' b=some u /\ P' b):∀ (ds:List D) (xs:List V),y4 K H P ds xs->y4 K H' P' ds xs
 | [],_,h=>h
 | d :: ds,xs,h=>by
  obtain ⟨v,r,e,q,t⟩:=h
  exact ⟨v,r,e,RepN.go kt kf g d v q,y4.go kt kf g ds r t⟩
end
section
variable {X:Cx} {σ:St} {scope:Scope} {T F:List Str} {js:List Nat} {tg iter elt:Expr} {ifs:List Expr} {pos:Pos} {ti:TID} {g2:TG} {g:TGD} {tc:TDb} {te:TD}
def Wv (ti:TID) (n:Nat) (js:List Nat) (g:TGD) (tc:TDb) (te:TD):TD:=λρ φ=>ti ρ λds=>∃ P:Nat->List D->Prop,ds.length <= 100000 /\ P 0 [] /\
 (∀ (i:Nat) (d:D) (es:List D),ds[i]?=some d->es.length <= i->P i es->g d (ρ0 n js ρ) λρ'=>tc ρ' λc=>(c=true->te ρ' λr=>ww r /\ P (i + 1) (es ++ [r.d])) /\ (c=false->P (i + 1) es)) /\ ∀ es,P ds.length es->φ ⟨.new,.lst es⟩
def Vh {H₀:Hp} (nd:js.Nodup) (hl:Zw X.K g2 g):∀ σ H Q,uz X.K H₀ (Wv ti T.length js g tc te) σ H Q->Uh (O3 X.K H₀ ti) T js g2 (b5 X.K H₀ tc) (uz X.K H₀ te) σ H Q:=λσ H Q q=>by
  obtain ⟨ρ,o,R,φ,hφ,k⟩:=q
  refine ⟨ρ,o,R,_,hφ,λJ ds P H1 s1 I hP ⟨PP,hlen,P0,turn,fin⟩ Da hDa=>?_⟩
  have R1:=R.to s1
  have gD:∀ {H':Hp},Same H1 H'->Grow (o.map Prod.snd) (Da :: o.map Prod.snd) H1 H':=λs=>⟨λb u h nb=>⟨s b u h,λz=>(zam.mp z).elim (λe=>zb h hDa e) nb⟩,λb xs h=>s b _ h,λb ob u h=>s b _ h⟩
  refine ⟨λi m ys H'=>m=ds.length - i /\ i <= ds.length /\ Same H1 H' /\ H' Da=some (.lst ys) /\ ∃ es,es.length <= i /\ PP i es /\ y4 X.K H' (λb=>b ∉ Da :: o.map Prod.snd /\ H1 b=none) es ys,
   ⟨_,rfl,Nat.zero_le _,zr hDa _,zh,[],zaj _,P0,rfl⟩,?_⟩
  rintro i m ys H' ⟨rfl,hi',s2,hD',es,le,pe,rp⟩
  refine ⟨hD',?_⟩
  have hP':=I.keep _ _ _ _ hP (gD s2)
  by_cases hlt:i < ds.length
  ·have ed:ds[i]?=some ds[i]:=by simp [hlt]
   obtain ⟨j1,j2⟩:=I.go H' _ i _ hP' ed
   refine .inr ⟨j1,λzs H2=>Same H1 H2 /\ H2 Da=some (.lst zs) /\ ∃ es,es.length <= i + 1 /\ PP (i + 1) es /\ y4 X.K H2 (λb=>b ∉ Da :: o.map Prod.snd /\ H1 b=none) es zs,λzs H2 ⟨a1,a2,a3⟩=>⟨_,(by omega:ds.length - (i + 1) < ds.length - i),rfl,hlt,a1,a2,a3⟩,λx H2 y=>?_⟩
   obtain ⟨s3,rx⟩:=j2 x H2 y
   have s13:=s2.trans s3
   have hD2:=s3 _ _ hD'
   have RB:=jg (n:=T.length) R1 nd hDa s13 hD2 T rfl
   have hO:((T.length + js.length,Da) :: o.map λp=>(ixO T.length js p.1,p.2)).map Prod.snd=Da :: o.map Prod.snd:=by
    rw [List.map_cons,List.map_map]
    rfl
   have rpl:ys.length <= 100000:=by
    rw [rp.length]
    omega
   refine hl H₀ H2 (st0 T js σ) (ρ0 T.length js ρ) _ _ x _ _ RB (by rw [hO]; exact rx) (turn i _ es ed le pe) λρ' σ' R' q'=>?_
   refine ⟨ρ',_,R',_,q',λc H3 s4 h4=>?_⟩
   have hD3:=s4 _ _ hD2
   cases c with
   | false =>
    exact iteF ⟨s13.trans s4,hD3,es,Nat.le_succ_of_le le,h4.2 rfl,y4.to (s3.trans s4) (λ_ z=>z) _ _ rp⟩
   | true =>
    refine iteT ⟨ρ',_,R'.to s4,_,h4.1 rfl,λv r H4 s5 rv h5=>?_⟩
    have hD4:=s5 _ _ hD3
    have rd:=rv.anew h5.1
    rw [hO] at rd
    have ne:∀ b u,H1 b=some u->b ≠ Da:=λb u h=>zb h hDa
    have gu:Grow (Da :: o.map Prod.snd) (Da :: o.map Prod.snd) H4 (upd H4 Da (.lst (ys ++ [v]))) :=
     ⟨λb u h n=>⟨by rw [zg (λz=>n (zam.mpr (.inl z)))]; exact h,n⟩,λb xs h=>by rw [zg (λz=>by rw [z,hD4] at h; cases h)]; exact h,λb ob u h=>by rw [zg (λz=>by rw [z,hD4] at h; cases h)]; exact h⟩
    refine ⟨hD4,Nat.lt_of_le_of_lt rpl (by decide),⟨λb u h=>?_,zh,es ++ [r.d],by rw [zLa]; exact Nat.succ_le_succ le,h5.2,?_⟩⟩
    ·rw [zg (ne b u h)]
     exact s5 _ _ (s4 _ _ (s13 b u h))
    ·refine y4.append (y4.go (λb xs h=>gu.tups b xs h) (λb ob u h=>gu.frzs b ob u h) (λb u z h=>⟨(gu.keep b u h z.1).1,z⟩) _ _ (y4.to (s3.trans (s4.trans s5)) (λ_ z=>z) _ _ rp)) ⟨v,[],rfl,?_,rfl⟩
     exact RepN.go (λb xs h=>gu.tups b xs h) (λb ob u h=>gu.frzs b ob u h) (λb u z h=>⟨(gu.keep b u h z.1).1,z.1,(s13.trans s4).free z.2⟩) _ _ rd
  ·have e:i=ds.length:=by omega
   subst e
   refine .inl ⟨I.stop H' _ hP',?_⟩
   exact k (.ref Da) ⟨.new,.lst es⟩ H' (s1.trans s2) ⟨Da,ys,rfl,hD',⟨R.ofree (s1.free hDa),s1.free hDa⟩,y4.to (Same.refl _) (λb z=>⟨λy=>z.1 (zal _ y),s1.free z.2⟩) _ _ rp⟩ (fin es pe)
def Ou (hi:EI Γ X tg iter ti) (S:zt X.env.scope scope T F) (hjs:Paired (λx j=>X.N[j]?=some x) F js) (nd:js.Nodup)
  (hg:∀ cl C fp s H,PG (yd X (T ++ F) scope cl C fp s H) tg g2) (hk:j8 T.length g2) (hl:Zw X.K g2 g)
  (ht:∀ cl C fp s H,EIf Γ (yd X (T ++ F) scope cl C fp s H) ifs tc) (he:∀ cl C fp s H,ED Γ (yd X (T ++ F) scope cl C fp s H) elt te)
  (hc:X.calm=true:=by rfl) (hs:∀ x,foldedSetIterable iter X.env x=pure x:=by intro _; rfl):ED Γ X (.ListComp elt [⟨tg,iter,ifs,0⟩] scope pos) (Wv ti T.length js g tc te):=λH₀ =>
 impE (Tp (tc:=b5 X.K H₀.1 tc) (te:=uz X.K H₀.1 te) hc (hi H₀) S hjs hg hk (λcl C fp s H=>ht cl C fp s H H₀) (λcl C fp s H=>he cl C fp s H H₀) hs) (Vh nd hl)
def Rw {ti:TID} {n:Nat} {js:List Nat} {g:TGD} {tc:TDb} {te:TD} {ρ:DE} {φ:EV->Prop} (ds:List D) (h:∀ ψ:List D->Prop,ψ ds->ti ρ ψ) (P:Nat->List D->Prop) (hl:ds.length <= 100000) (h0:P 0 [])
  (ht:∀ (i:Nat) (d:D) (es:List D),ds[i]?=some d->es.length <= i->P i es->g d (ρ0 n js ρ) λρ'=>tc ρ' λc=>(c=true->te ρ' λr=>ww r /\ P (i + 1) (es ++ [r.d])) /\ (c=false->P (i + 1) es)) (hφ:∀ es,P ds.length es->φ ⟨.new,.lst es⟩):Wv ti n js g tc te ρ φ:=h _ ⟨P,hl,h0,ht,hφ⟩
end
end DL
namespace L2
open PySem PySem.Spec PySem.W PyProof.Rows
section
variable {prog:Program} {w:World} {A:Around} {E:Value->Shared->Prop} {s:Shared} {D J b:Addr} {rows:Array DictEntry} {ep i:Nat} {o1 o2:Value} {f:Bool}
def T6 {k:DictEntry} {n:Nat} {Q:Value->Shared->Prop} (y:s.heap.get? J=some (vm D i n ep .none (.bool false) o1 o2))
  (q:∀ h',h'.get? J=some (vm D i n ep (rawInt s.heap.objs.size) (.bool false) k.key k.val)->h'.get? s.heap.objs.size=some (gm k)->h'.objs.size=s.heap.objs.size + 1->(∀ b o,b ≠ J->s.heap.get? b=some o->h'.get? b=some o)->Q (.ref s.heap.objs.size) { s with heap:=h' }) :
  wpAny (model prog w) A (Builtin.Dict_items.pairFromOwner (.ref J) 6 k.key k.val) Q E s:=by
 obtain ⟨hp,g,dr,tk,os⟩:=s
 have e:=y
 have lj:J < hp.objs.size:=zae e
 unfold Builtin.Dict_items.pairFromOwner
 apply zaa
 refine wpAny_newTuple ?_
 have e2:(hp.push (gm k)).get? J=some (vm D i n ep .none (.bool false) o1 o2):=zac _ e
 have t2:(hp.push (gm k)).get? hp.objs.size=some (gm k):=zad _ rfl
 have z2:(hp.push (gm k)).objs.size=hp.objs.size + 1:=Heap.size_push ..
 have k2:∀ b o,hp.get? b=some o->(hp.push (gm k)).get? b=some o:=λb o eb=>zac _ eb
 show wpAny _ _ (Builtin.Dict_items.ownedTupleIsFree (.ref J) >>= _) _ _ ⟨hp.push (gm k),g,dr,tk,os⟩
 generalize hp.push (gm k)=h2 at e2 t2 z2 k2
 apply zaa
 unfold Builtin.Dict_items.ownedTupleIsFree
 apply zaa
 refine wpAny_field e2 rfl (x:=.none) rfl (zab (?_:_))
 simp only [if_true]
 apply zaa; refine wpAny_field e2 rfl (x:=o1) rfl (?_:_)
 apply zaa; refine wpAny_field e2 rfl (x:=o2) rfl (?_:_)
 apply zaa; refine wpAny_setField_rec e2 (by simp) λh3 e3 s3=>?_
 replace s3:Heap.SameBut J h2 h3:=s3
 replace e3:h3.get? J=some (vm D i n ep .none (.bool false) k.key o2):=e3
 apply zaa; refine wpAny_setField_rec e3 (by simp) λh4 e4 s4=>?_
 replace s4:Heap.SameBut J h3 h4:=s4
 replace e4:h4.get? J=some (vm D i n ep .none (.bool false) k.key k.val):=e4
 apply zaa; refine wpAny_setField_rec e4 (by simp) λh5 e5 s5=>?_
 replace s5:Heap.SameBut J h4 h5:=s5
 replace e5:h5.get? J=some (vm D i n ep (rawInt hp.objs.size) (.bool false) k.key k.val):=e5
 apply zaa; refine wpAny_setField_rec e5 (by simp) λh6 e6 s6=>?_
 replace s6:Heap.SameBut J h5 h6:=s6
 replace e6:h6.get? J=some (vm D i n ep (rawInt hp.objs.size) (.bool false) k.key k.val):=e6
 have kk:∀ b o,b ≠ J->h2.get? b=some o->h6.get? b=some o:=λb o nb eb=>s6.extBut b o nb (s5.extBut b o nb (s4.extBut b o nb (s3.extBut b o nb eb)))
 have t6:=kk _ _ (Nat.ne_of_gt lj) t2
 refine zaa (wpAny_letGo (zab (q h6 e6 t6 ?_ λb o nb eb=>kk b o nb (k2 b o eb))))
 show h6.objs.size=hp.objs.size + 1
 rw [s6.1,s5.1,s4.1,s3.1,z2]
def ji {k:DictEntry} {Q:Option Value->Shared->Prop} (y:s.heap.get? J=some (vm D i rows.size ep .none (.bool false) o1 o2)) (x:RawD s.heap D rows ep) (ek:rows[i]?=some k)
  (q:∀ h',h'.get? J=some (vm D (i + 1) rows.size ep (rawInt s.heap.objs.size) (.bool false) k.key k.val)->h'.get? s.heap.objs.size=some (gm k)->h'.objs.size=s.heap.objs.size + 1->(∀ b o,b ≠ J->s.heap.get? b=some o->h'.get? b=some o)->Q (some (.ref s.heap.objs.size)) { s with heap:=h' }) :
  wpAny (model prog w) A (pyNext (.ref J)) Q E s:=by
 obtain ⟨hp,g,dr,tk,os⟩:=s
 have ty:Shared.TypeIs ⟨hp,g,dr,tk,os⟩ (.ref J) "dict_itemiterator":=⟨_,y,rfl⟩
 have e:=y
 obtain ⟨od,g2,c2,e2⟩:=id x
 have hi:i < rows.size:=(Array.getElem?_eq_some_iff.mp ek).1
 have hk:rows[i]=k:=(Array.getElem?_eq_some_iff.mp ek).2
 unfold pyNext
 apply zaa
 refine wpAny_attempt (wpAny_callSpecial?_slot (name:=Str.ofString "__next__") ty F.slot_dict_itemiterator_next (wpAny_call_entry F.slot_dict_itemiterator_next ty F.entry_dict_itemiterator_next (?_:_) (F.args_dict_itemiterator_next_1 _)))
 apply zaa; apply zab
 apply zaa; apply zaa
 first | refine zaa (wpAny_typeNameOfWhole_itemiter ty (zab (?_:_))) | refine zaa (wpAny_typeNameOf_itemiter ty (zab (?_:_)))
 apply zaa; refine wpAny_fieldsOf e rfl ?_
 have ot:Builtin.Dict_items.ownsTuple "dict_itemiterator" = true:=by decide
 simp only [ot,if_true]
 show wpAny _ _ (if (Value.ref D == Value.none)=true then _ else _) _ _ _
 rw [if_neg (show ¬ ((Value.ref D == Value.none)=true) from λz=>by cases z)]
 apply zaa; apply zab
 apply zaa; refine wpAny_dictEntries g2 e2 ?_
 rw [if_neg (show ¬ _ by simp)]
 apply zaa; apply zab
 apply zaa; refine wpAny_dictEpoch g2 e2 ?_
 rw [if_neg (show ¬ _ by simp)]
 apply zab
 simp only [show ¬ ((i:Int) < 0) by omega,if_false,Int.toNat_natCast,Array.getElem?_eq_getElem hi]
 apply zaa
 first | refine zaa (wpAny_typeNameOfWhole_itemiter ty (zab (?_:_))) | refine zaa (wpAny_typeNameOf_itemiter ty (zab (?_:_)))
 apply zaa; refine wpAny_isOneOf_itemiter ty ?_
 show wpAny _ _ (setField (.ref J) 3 (rawInt ((i:Int) + 1)) >>= _) _ _ _
 apply zaa; refine wpAny_setField_rec e (by simp) λh1 e1 s1=>?_
 replace s1:Heap.SameBut J hp h1:=s1
 have e1':h1.get? J=some (vm D (i + 1) rows.size ep .none (.bool false) o1 o2):=by
  have z:((i + 1:Nat):Int)=(i:Int) + 1:=by omega
  unfold vm
  rw [z]
  simpa [rawInt,vm] using e1
 have ty1:Shared.TypeIs ⟨h1,g,dr,tk,os⟩ (.ref J) "dict_itemiterator":=⟨_,e1',rfl⟩
 apply zaa; apply wpAny_holding
 apply zaa; refine wpAny_isOneOf_itemiter ty1 (?_:_)
 apply zaa; refine wpAny_isOneOf_itemiter ty1 (?_:_)
 show wpAny _ _ (Builtin.Dict_items.pairFromOwner (.ref J) 6 rows[i].key rows[i].val) _ _ ⟨h1,g,dr,tk,os⟩
 rw [hk]
 have z1:h1.objs.size=hp.objs.size:=s1.1
 refine T6 e1' λh' y' t' z' k'=>zab ⟨_,rfl,zab ?_⟩
 have q':=q h' (by rw [<- z1]; exact y') (by rw [<- z1]; exact t') (by rw [<- z1]; exact z') λb o nb eb=>k' b o nb (s1.extBut b o nb eb)
 dsimp only at q' ⊢
 rw [z1]
 exact q'
end
end L2
namespace L3
open PySem PySem.Spec PySem.W L2
open PyProof.Rows hiding St
section
variable {X:Cx} {pn:List (Addr × Obj)} {σ:St} {H:Hp} {s:Shared} {a:Addr} {ob:Obj} {kvs:List (List Key × V)}
def Inv.freezeT (I:Inv X pn σ H s) (e:H a=some (.dT kvs)) (h:s.heap.get? a=some ob):Inv X pn σ (upd H a (.frz ob (.dT kvs))) s:=by
 have q:=I.hok a _ e
 refine I.write (t':=s.toks) (h':=s.heap) (x:=a) (e:=a) (o:=.frz ob (.dT kvs)) (by rw [e]; exact True.intro) (.inl rfl) (λ_ _ _ z=>z) ⟨ob,h⟩ ⟨h,?_⟩
 exact q.stay (λ_ _ _ z=>z) (λb z=>by rw [zg (λy=>by subst y; rw [e] at z; cases z)]; exact z) λb xs z=>by rw [zg (λy=>by subst y; rw [e] at z; cases z)]; exact z
def M9 (I:Inv X pn σ H s) (e:H a=some (.dT kvs)):∃ ob,s.heap.get? a=some ob:=by
 obtain ⟨z,nb,xs,r,o,es,ep,g,c⟩:=(show yf X.prog X.w H s.heap a (.dT kvs) from I.hok a _ e)
 exact ⟨o,g⟩
def K4 {e:Expr} {t:TE} (h:PE X e t):PE X e (λσ H Q=>t σ H λv H'=>∃ a kvs,v=.ref a /\ H' a=some (.dT kvs) /\ ∀ ob,Q v (upd H' a (.frz ob (.dT kvs)))):=by
 intro pn s σ H Q I q
 refine thn (h pn s σ H _ I q) λu s1 ⟨v,H1,I1,r,a,kvs,ev,ha,q1⟩=>?_
 obtain ⟨ob,g⟩:=M9 I1 ha
 exact ⟨v,_,Inv.freezeT I1 ha g,r,q1 ob⟩
def vf:entryFor table "dict_itemiterator.__iter__" = some Builtin.«dict_keyiterator.__iter__» :=
 entryFor_alias (id':="dict_keyiterator.__iter__") (by kernel_rfl) rfl (by decide +kernel) (by kernel_rfl)
def Itm (a:Addr) (ob:Obj) (kvs:List (List Key × V)):It :=
 ⟨λi H=>H a=some (.frz ob (.dT kvs)) /\ i < kvs.length,
  λi H x H'=>∃ T c kv,H T=none /\ x=.ref T /\ kvs[i]?=some kv /\ H c=some (.tup (kv.1.map kV)) /\ H'=upd H T (.tup [.ref c,kv.2]),
  λi H=>H a=some (.frz ob (.dT kvs)) /\ i=kvs.length⟩
def Mf (ob:Obj) (rows:Array DictEntry) (ep:Nat):Prop:=ob.ExactDict /\ ob.data=.dict rows ep
def V4 {P:Program} {w:World} {K:W.Frag} {es:List Expr} {kk:Nat} {tp:Pos} (it:Addr) {rows:Array DictEntry} {ep:Nat} (ho:Mf ob rows ep) (hsz:rows.size=kvs.length) (hne:a ≠ it) :
  Turn P w K (.Tuple es kk tp) (Itm a ob kvs) [it] it (λi h=>∃ o1 o2,h.get? it=some (vm a i rows.size ep .none (.bool false) o1 o2)) where
 mem:=by simp
 obj:=λi h st b hb=>by
  have e:b=it:=by simpa using hb
  subst e
  obtain ⟨o1,o2,h1⟩:=st
  exact ⟨_,h1,λv z=>by cases z⟩
 keep:=λi h h' st k=>by
  obtain ⟨o1,o2,h1⟩:=st
  exact ⟨o1,o2,k it (by simp) _ h1⟩
 item:=by
  intro X hP hw hK hc i pn s σ H E I hf st hg
  subst hP hw hK
  obtain ⟨o1,o2,z1⟩:=st
  have fi:=hf it (by simp)
  obtain ⟨g1,g2⟩:=hg
  obtain ⟨q1,q2⟩:=(show yf X.prog X.w H s.heap a (.frz ob (.dT kvs)) from I.hok a _ g1)
  obtain ⟨zz,nb,xs,r,o,es',ep',gg,cc,dd,et,nd⟩:=(show yf X.prog X.w H s.heap a (.dT kvs) from q2)
  rw [q1] at gg
  cases gg
  have ee:es'=rows /\ ep'=ep:=by
   have:=dd.symm.trans ho.2
   cases this
   exact ⟨rfl,rfl⟩
  obtain ⟨rfl,rfl⟩:=ee
  have key:∀ {l:List (List Key × V)} {m:List (List Key × Addr × Value)},Paired (λ(p:List Key × V) (q:List Key × Addr × Value)=>p.1=q.1 /\ H q.2.1=some (.tup (p.1.map kV)) /\ RelV p.2 q.2.2) l m ->
    ∀ (i:Nat) kv,l[i]?=some kv->∃ q,m[i]?=some q /\ H q.2.1=some (.tup (kv.1.map kV)) /\ RelV kv.2 q.2.2:=by
   intro l m t
   induction t with
   | nil=>exact λi kv e=>by simp at e
   | @cons p q ps qs hq t ih =>
    intro i kv e
    cases i with
    | zero =>
     have a1:p=kv:=by simpa using e
     subst a1
     exact ⟨q,by simp,hq.2.1,hq.2.2⟩
    | succ i =>
     obtain ⟨q',e1,e2⟩:=ih i kv (by simpa using e)
     exact ⟨q',by simpa using e1,e2⟩
  obtain ⟨kv,ekv⟩:∃ kv,kvs[i]?=some kv:=⟨kvs[i],zaf g2⟩
  obtain ⟨q,e1,e2,e3⟩:=key r i kv ekv
  have ek:es'[i]?=some (entryOfKey (tupleKind (y9 X.prog X.w)) q):=by
   rw [<- Array.getElem?_toList,et,zai,e1]
   rfl
  refine ji z1 ⟨ob,q1,cc,dd⟩ ek λg zo pr hsz2 kp=>?_
  have hn:H s.heap.objs.size=none:=I.fresh
  have off:∀ b ho,H b=some ho->b ≠ it:=λb ho q=>zb q fi.1
  have un:Un (frs X.stack) [it] H (upd H s.heap.objs.size (.tup [.ref q.2.1,kv.2])) s.heap g :=
   ⟨λb o q _ _ hx=>kp b o (by simpa using hx) q,λb o q _ _ hx=>⟨o.slots,kp b o (by simpa using hx) q⟩,λb o q n _=>by rw [zg (Nat.ne_of_lt (zae q))]; exact n,λb o q hx=>⟨o,kp b o (by simpa using hx) q⟩,
    λb zs q=>by rw [zg (zb q hn)]; exact q,λb o zs q=>by rw [zg (zb q hn)]; exact q,λb ps q=>⟨#[],by rw [zg (zb q hn),q]; simp⟩⟩
  have hok:HOk X.prog X.w (upd H s.heap.objs.size (.tup [.ref q.2.1,kv.2])) g:=λb o qb=>by
   by_cases hb:b=s.heap.objs.size
   ·subst hb
    rw [zh] at qb
    cases qb
    exact ⟨by simp only [zLc,zLn]; rw [sizeLine_eq]; decide,[.ref q.2.1,q.2.2],.cons rfl (.cons e3 .nil),⟨_,pr,rfl,_,rfl⟩,_,pr,rfl⟩
   ·rw [zg hb] at qb
    refine (I.hok b o qb).stay (λc ob hc q2=>kp c ob ?_ q2) (λc q=>by rw [zg (zb q hn)]; exact q) λc zs q=>by rw [zg (zb q hn)]; exact q
    rcases hc with rfl | hc
    ·exact off _ _ qb
    ·exact off _ _ hc
  have I2:Inv X pn σ (upd H s.heap.objs.size (.tup [.ref q.2.1,kv.2])) { s with heap:=g }:=I.call' (s':={ s with heap:=g }) (ch:=[it]) rfl un hok I.bare λb hb=>by
   have q:=hf b hb
   exact ⟨q.2.2.2.1,q.2.1,q.2.2.2.2.1,q.2.2.2.2.2⟩
  have none5:∀ b ∈ [it],upd H s.heap.objs.size (.tup [.ref q.2.1,kv.2]) b=none:=λb hb=>by
   have e:b=it:=by simpa using hb
   subst e
   rw [zg (Nat.ne_of_lt (zae z1))]
   exact fi.1
  refine ⟨_,rfl,wpAny_letOwnedTupleGo_items zo λg2 z3 sb=>?_⟩
  refine ⟨.ref s.heap.objs.size,_,I2.turned (t':=s.toks) (λb o hb q=>sb.extBut b o hb q) (none5 it (by simp)) fi.2.1 fi.2.2.2.1 fi.2.2.2.2.1 fi.2.2.2.2.2,rfl,⟨_,q.2.1,kv,hn,rfl,ekv,e2,rfl⟩,?_,none5⟩
  exact ⟨_,_,by exact_mod_cast z3⟩
 done:=by
  intro X hP hw hK hc i pn s σ H E I hf st hg
  subst hP hw hK
  obtain ⟨o1,o2,z1⟩:=st
  have fi:=hf it (by simp)
  obtain ⟨g1,rfl⟩:=hg
  obtain ⟨q1,q2⟩:=(show yf X.prog X.w H s.heap a (.frz ob (.dT kvs)) from I.hok a _ g1)
  rw [<- hsz] at z1
  exact W9 (I.ok.hd hc) ⟨_,_,_,_,z1,.inl ⟨rfl,rfl⟩⟩ ⟨ob,q1,ho.1,ho.2⟩ λg kp=>⟨rfl,I.turned (t':=s.toks) (λb o hb q=>kp b o hb q) fi.1 fi.2.1 fi.2.2.2.1 fi.2.2.2.2.1 fi.2.2.2.2.2⟩
 self:=λ_ _ s _ _ st h=>by
  obtain ⟨o1,o2,z1⟩:=st
  have ty:s.TypeIs (.ref it) "dict_itemiterator":=⟨_,z1,rfl⟩
  refine wpAny_pyIter_slot ty PySem.F.slot_dict_itemiterator_iter (wpAny_call_entry PySem.F.slot_dict_itemiterator_iter ty vf ?_ (PySem.F.args_dict_itemiterator_iter_1 _))
  show wpAny _ _ (ret (.ref it)) _ _ s
  exact zab ⟨_,rfl, "dict_itemiterator", _,ty,PySem.F.slot_dict_itemiterator_next.lookup,h⟩
def iItm (to:TE):TI:=λσ H R=>to σ H λv H1=>∃ a ob kvs,v=.ref a /\ H1 a=some (.frz ob (.dT kvs)) /\ R (Itm a ob kvs) H1
def Pe {o:Expr} {to:TE} {es:List Expr} {kk:Nat} {tp apos cpos:Pos} (hO:PE X o to)
  (hbase:attributeBase o "items" X.env (eval o X.env)=eval o X.env:=by rfl) (hline:(apos.endLine == cpos.line)=true:=by rfl) :
  PI X (.Tuple es kk tp) (.Call (.Attribute o "items" apos) [] [] cpos) (iItm to):=by
 intro pn s σ H R I h
 refine wpAny_Call_method0_late hbase hline (thn (hO pn s σ H _ I h) λv s1 ⟨y,H1,I1,r1,a,ob,kvs,e1,h2,q⟩=>?_)
 subst e1
 cases r1
 obtain ⟨q1,q2⟩:=(show yf X.prog X.w H1 s1.heap a (.frz ob (.dT kvs)) from I1.hok a _ h2)
 obtain ⟨zz,nb,xs,r,o',rows,ep,gg,cc,dd,et,nd⟩:=(show yf X.prog X.w H1 s1.heap a (.dT kvs) from q2)
 rw [q1] at gg
 cases gg
 have hsz:rows.size=kvs.length:=by rw [<- Array.length_toList,et,zLm,<- r.length]
 have rd:∀ h:Heap,h.get? a=some ob->RawD h a rows ep:=λh e=>⟨ob,e,cc,dd⟩
 have hals:=zae q1
 refine ⟨"dict", "dict.items", PySem.F.plainAttrs_dict,PySem.F.slot_dict_items,dj,(rd _ q1).ty,λb e=>by cases e; exact ⟨ob,q1,cc.2.1⟩,Calls.callWith_builtin rfl (PySem.evalArgs_none ?_)⟩
 refine W8 nb (rd _ q1) ?_
 have I2:Inv X pn σ H1 { s1 with heap:=s1.heap.push { cls:=.type "dict_items", data:=.fields #[.ref a] } }:=I1.kept (t':=s1.toks) λb o e=>zac _ e
 refine jh (D:=a) (rows:=rows) (ep:=ep) ⟨_,zad _ rfl,rfl,rfl⟩ (rd _ (zac _ q1)) ?_
 refine ⟨_,[_],_,_,H1,rfl,I2.kept (t':=s1.toks) λb o e=>zac _ e,V4 (ob:=ob) (kvs:=kvs) _ (rows:=rows) (ep:=ep) ⟨cc,dd⟩ hsz ?_,⟨.none,.none,zad _ rfl⟩,λb hb=>?_,q⟩
 ·rw [size_push']
  exact Nat.ne_of_lt (Nat.lt_succ_of_lt hals)
 ·have e:b=(s1.heap.push { cls:=.type "dict_items", data:=.fields #[.ref a] }).objs.size:=by simpa using hb
  subst e
  exact I2.fpOk (zaj _) (I2.hok.fresh (zaj _))
end
end L3
namespace DL
open PySem PySem.Spec L2 L3
open PyProof.Rows hiding St
variable {Γ:Hp->Prop}
section
variable {X:Cx} {o e:Expr} {td te:TD}
def ikD (l:List Int):D:=.tup (l.map D.int)
def prD (p:List Int × Int):D:=.tup [ikD p.1,.int p.2]
def iZt (td:TD):TID:=λρ φ=>td ρ λr=>match r.d with
 | .dz rs=>φ (rs.map prD)
 | _=>False
def gc {K:W.Frag} {H:Hp} {O:List Addr} {c:Addr} {k:List Int} (h:H c=some (.tup ((k.map Sum.inl).map kV))):Rep K H O (ikD k) (.ref c):=by
 refine ⟨c,_,rfl,⟨SqT.of h,h⟩,?_⟩
 rw [List.map_map,show (kV ∘ Sum.inl:Int->V)=V.int from rfl]
 exact Reps.ints k
def O8 {K:W.Frag} {a:Addr} {ob:Obj} {rs:List (List Int × Int)}:ItD K (Itm a ob (dzV rs)) (rs.map prD) (λH _=>H a=some (.frz ob (.dT (dzV rs)))) where
 go:=λH O i d hP e=>by
  rw [zai] at e
  obtain ⟨p,ep,rfl⟩:=zar.mp e
  have hi:=(zag.mp ep).1
  refine ⟨⟨hP,by unfold dzV; rw [zLm]; exact hi⟩,λx H' ⟨T,c,kv,hT,ex,ekv,hc,eH⟩=>?_⟩
  subst ex eH
  have ek:kv=(p.1.map Sum.inl,V.int p.2):=by
   unfold dzV at ekv
   rw [zai,ep] at ekv
   cases ekv
   rfl
  subst ek
  have sm:Same H (upd H T (.tup [.ref c,V.int p.2])):=λb w hb=>by rw [zg (zb hb hT)]; exact hb
  refine ⟨sm,T,_,rfl,⟨.inl (.inl zh),zh⟩,?_⟩
  exact ⟨_,_,rfl,gc (sm _ _ hc),_,_,rfl,rfl,rfl⟩
 stop:=λH O hP=>⟨hP,by unfold dzV; rw [zLm,zLm]⟩
 keep:=λO O' H H' hP g=>g.3 _ _ _ hP
def uh {es:List Expr} {kk:Nat} {tp apos cpos:Pos} (ho:ED Γ X o td) (hbase:attributeBase o "items" X.env (eval o X.env)=eval o X.env:=by rfl) (hline:(apos.endLine == cpos.line)=true:=by rfl) :
  EI Γ X (.Tuple es kk tp) (.Call (.Attribute o "items" apos) [] [] cpos) (iZt td):=λH₀=>impI (Pe (ho H₀) hbase hline) λσ H R q=>by
 obtain ⟨ρ,oo,RE,φ,hφ,k⟩:=q
 refine ⟨ρ,oo,RE,_,hφ,λv r H1 s1 rv h1=>?_⟩
 obtain ⟨kd,d⟩:=r
 cases d with
 | dz rs =>
  obtain ⟨a,rfl,⟨ob,g⟩,nd⟩:=rv.view
  exact ⟨a,ob,_,rfl,g,k _ _ _ H1 s1 O8 g h1⟩
 | _=>exact h1.elim
def dtI (rs:List (List Int × Int)):D:=.dt (rs.map λp=>p.1.map Sum.inl) (rs.map λp=>D.int p.2)
def dFz (te:TD):TD:=λρ φ=>te ρ λr=>∃ rs,r=df (dtI rs) /\ φ (dv (.dz rs))
def yy {K:W.Frag} {H:Hp} {O:List Addr}:∀ {ns:List Int} {xs:List V},Reps K H O (ns.map D.int) xs->xs=ns.map V.int
 | [],_,h=>h
 | n :: ns,xs,h=>by
  obtain ⟨v,r,rfl,q,t⟩:=h
  rw [show v=V.int n from q,yy t]
  rfl
def Dv {K:W.Frag} {H:Hp} {O:List Addr} {a:Addr} {rs:List (List Int × Int)} (h:Con K H O (dtI rs) a):H a=some (.dT (dzV rs)) /\ (rs.map Prod.fst).Nodup:=by
 obtain ⟨xs,g,l,nd,r⟩:=h
 have ex:xs=(rs.map Prod.snd).map V.int:=yy (by rw [List.map_map]; exact r)
 have ez:∀ rs:List (List Int × Int),(rs.map λp=>p.1.map (Sum.inl:Int->Key)).zip ((rs.map Prod.snd).map V.int)=dzV rs:=λrs=>by
  induction rs with
  | nil=>rfl
  | cons p rs ih=>simp only [List.map_cons,List.zip_cons_cons,ih]; rfl
 rw [ex,ez] at g
 refine ⟨g,?_⟩
 rw [show (rs.map λp=>p.1.map (Sum.inl:Int->Key))=(rs.map Prod.fst).map (List.map Sum.inl) from by rw [List.map_map]; rfl] at nd
 exact (List.pairwise_map.mp nd).imp λh e=>h (by rw [e])
def Ot (he:ED Γ X e te):ED Γ X e (dFz te):=λH₀=>impE (K4 (he H₀)) λσ H Q q=>by
 obtain ⟨ρ,oo,R,φ,hφ,k⟩:=q
 refine ⟨ρ,oo,R,_,hφ,λv r H1 s1 rv h1=>?_⟩
 obtain ⟨rs,rfl,h1⟩:=h1
 obtain ⟨a,rfl,m,n,c⟩:=rv
 obtain ⟨g,nd⟩:=Dv c
 refine ⟨a,_,rfl,g,λob=>k _ (dv (.dz rs)) _ ?_ ⟨a,rfl,⟨ob,zh⟩,nd⟩ h1⟩
 intro b u hb
 rw [zg (zb hb m)]
 exact s1 _ _ hb
end
end DL
namespace L3
open PySem PySem.Spec PySem.W L2
open PyProof.Rows hiding St
section
variable {X:Cx} {k v:Expr} {tk tv:TE} {pos:Pos}
def L6 (tk tv:TE):TE:=λσ H Q=>∀ p,H p=none->Uc [(tk,tv)] σ (upd H p (.dT [])) λps H2=>H2 p=some (.dT []) /\ ∃ ks b y,ps=[(.ref b,y)] /\ H2 b=some (.tup (ks.map kV)) /\ Q (.ref p) (upd H2 p (.dT [(ks,y)]))
def To (hu:X.A.units + 1 < cLine) (hk:PE X k tk) (hv:PE X v tv):PE X (.Dict [some k] [v] pos) (L6 tk tv):=by
 intro pn s σ H Q I q
 have hn:=I.hok.fresh (zaj s.heap.objs.size)
 have I1:=I.laid (a:=s.heap.objs.size) (o:=.dT []) (h':=s.heap.push { cls:=.type "dict", data:=.dict #[] }) (t':=s.toks) (λ_ _ q=>zac _ q) (zaj _) (Wt s.heap I.big)
 rw [arm_eval_Dict,zip_pairTrees [some k] [v] X.env pos rfl rfl,dictDisplay_pairs _ (by simp [pairTrees]) (by simp [pairTrees])]
 refine zaa (wpAny_standAt (zaa ?_))
 unfold subDict
 refine zaa (wpAny_alloc ?_)
 refine zaa (wpAny_holding ?_)
 rw [if_pos (by simp [pairTrees])]
 refine zaa (thn (Pb hk hv Lv pn _ σ _ _ I1 (q _ hn)) λws s2 ⟨ps,H2,I2,rel,e,ks,b,y,eps,eb,q2⟩=>?_)
 subst eps
 obtain ⟨b',u,rfl⟩:∃ b' u,ws=[(b',u)]:=by
  cases rel with
  | cons h t=>cases t; exact ⟨_,_,rfl⟩
 obtain ⟨rb,ry⟩:RelV (.ref b) b' /\ RelV y u:=by
  cases rel with
  | cons h t=>exact h
 cases rb
 refine wpAny_holding ?_
 obtain ⟨z,hd,xs,r0,dd⟩:=Ek I2.hok e
 cases r0
 refine zaa ?_
 rw [List.forIn_cons]
 refine zaa (zaa (wpAny_dictSet_heap (hsz:=by simp) (knd:=tupleKind (y9 X.prog X.w)) (show X.A.units < cLine from Nat.lt_of_succ_lt hu) (uc I2.hok eb) dd λh' dd' hs=>zab ?_))
 dsimp only
 rw [List.forIn_nil]
 refine zab (zab (zab (zab ⟨.ref s.heap.objs.size,_,?_,rfl,q2⟩)))
 obtain ⟨qo,es,ep,hq,h2,h3,h4,_,h5⟩:=dd'
 refine fy I2 (by rw [e]; exact True.intro) hs ⟨qo,hq⟩ ⟨by simp [sizeLine_eq],hd,_,?_,qo,es,ep,hq,h2,h3,h4,h5⟩
 refine (.cons ⟨rfl,?_,ry⟩ .nil)
 rw [zg (Fl eb e (λz=>nomatch z))]
 exact eb
end
end L3
namespace DL
open PySem PySem.Spec L2 L3
open PyProof.Rows hiding St
variable {Γ:Hp->Prop}
section
variable {X:Cx} {a b:Expr} {ta tb:TD} {pos:Pos}
def Mb (ta tb:TD):TD:=λρ φ=>ta ρ λr=>tb ρ λx=>∃ k n,r.d=ikD k /\ x.d=.int n /\ φ (df (dtI [(k,n)]))
def Sz {K:W.Frag} {H:Hp} {O:List Addr} {k:List Int} {v:V} (h:View K H O (ikD k) v):∃ c,v=.ref c /\ H c=some (.tup ((k.map Sum.inl).map kV)):=by
 obtain ⟨c,xs,rfl,q,r⟩:=h
 refine ⟨c,rfl,?_⟩
 rw [List.map_map,show (kV ∘ Sum.inl:Int->V)=V.int from rfl,<- yy r]
 exact q.2
def Ws (hu:X.A.units + 64 < cLine) (ha:ED Γ X a ta) (hb:ED Γ X b tb):ED Γ X (.Dict [some a] [b] pos) (Mb ta tb):=λH₀=>impE (To (by omega) (ha H₀) (hb H₀)) λσ H Q q=>by
 obtain ⟨ρ,o,R,φ,hφ,kk⟩:=q
 intro p hp
 have s0:=zr hp (HO.dT [])
 refine ⟨ρ,o,R.to s0,_,hφ,λv1 r1 H1 s1 rv1 h1=>⟨ρ,o,R.to (s0.trans s1),_,h1,λv2 r2 H2 s2 rv2 h2=>?_⟩⟩
 obtain ⟨k,n,e1,e2,h2⟩:=h2
 obtain ⟨k1,d1⟩:=r1
 obtain ⟨k2,d2⟩:=r2
 cases e1
 cases e2
 have hp2:H2 p=some (.dT []):=s2 _ _ (s1 _ _ zh)
 obtain ⟨c,rfl,hc⟩:=Sz (rv1.same s2).view
 cases (show v2=V.int n from rv2.view)
 refine ⟨hp2,_,c,_,rfl,hc,?_⟩
 refine kk (.ref p) (df (dtI [(k,n)])) _ ?_ ⟨p,rfl,hp,R.ofree hp,[.int n],zh,rfl,by simp,_,_,rfl,rfl,rfl⟩ h2
 intro b u hb
 have nb:b ≠ p:=zb hb hp
 rw [zg nb]
 exact s2 _ _ (s1 _ _ (s0 _ _ hb))
end
abbrev RW:=List (List Int × Int)
def putR:RW->List Int->Int->RW
 | [],k,n=>[(k,n)]
 | q :: p,k,n=>if q.1=k then (q.1,q.2 + n) :: p else q :: putR p k n
def getR:RW->List Int->Int
 | [],_=>0
 | q :: p,k=>if q.1=k then q.2 else getR p k
def cntR (p:RW) (k:List Int) (n:Int):RW:=if n=0 then p else putR p k n
def kinl {a b:List Int}:(a.map (Sum.inl:Int->Key)=b.map Sum.inl) ↔ a=b:=List.map_inj_right (λa b e=>Sum.inl.inj e)
def cr (p:RW) (k:List Int) (n:Int):(putR p k n).map Prod.fst=if k ∈ p.map Prod.fst then p.map Prod.fst else p.map Prod.fst ++ [k]:=by
 induction p with
 | nil=>simp [putR]
 | cons q p ih =>
  unfold putR
  by_cases e:q.1=k
  ·simp [e]
  ·have e':¬ k=q.1:=λz=>e z.symm
   rw [if_neg e,List.map_cons,ih]
   by_cases m:k ∈ p.map Prod.fst <;> simp [m,e']
def uw {p:RW} {k:List Int} {n:Int} (h:(p.map Prod.fst).Nodup):((putR p k n).map Prod.fst).Nodup:=by
 rw [cr]
 split
 ·exact h
 ·rename_i m
  exact List.nodup_append.mpr ⟨h,by simp,λa ha b hb e=>by simp at hb; subst hb; exact m (e ▸ ha)⟩
def rm (q:List Int × Int) (p:RW):dzV (q :: p)=(q.1.map Sum.inl,V.int q.2) :: dzV p:=rfl
def T9 (k:List Int) (n:Int):∀ p:RW,(p.map Prod.fst).Nodup->putK (dzV p) (k.map Sum.inl) (.int (getR p k + n))=dzV (putR p k n)
 | [],_=>by simp [putK,dzV,putR,getR]
 | q :: p,nd=>by
  obtain ⟨n1,n2⟩:=List.nodup_cons.mp (show (q.1 :: p.map Prod.fst).Nodup from nd)
  have ih:=T9 k n p n2
  unfold putR getR
  by_cases e:q.1=k
  ·rw [if_pos e,if_pos e,rm,rm]
   unfold putK
   rw [if_pos (by simp [e])]
   rw [List.map_cons,if_pos (by rw [e])]
   congr 1
   rw [show (dzV p).map _=(dzV p).map id from List.map_congr_left λx hx=>?_,List.map_id]
   unfold dzV at hx
   obtain ⟨y,hy,rfl⟩:=zah.mp hx
   rw [if_neg (λz=>n1 (by rw [e,<- kinl.mp z]; exact zah.mpr ⟨y,hy,rfl⟩))]
   rfl
  ·have ne:¬ (q.1.map (Sum.inl:Int->Key)=k.map Sum.inl):=λz=>e (kinl.mp z)
   rw [if_neg e,if_neg e,rm,rm,<- ih]
   unfold putK
   rw [List.any_cons,decide_eq_false ne,Bool.false_or,List.map_cons,if_neg ne]
   split <;> simp
def U4:∀ rs:RW,(rs.map λp=>p.1.map (Sum.inl:Int->Key)).zip ((rs.map Prod.snd).map V.int)=dzV rs
 | []=>rfl
 | p :: rs=>by simp only [List.map_cons,List.zip_cons_cons,U4 rs]; rfl
def Yl (k:List Int):∀ p:RW,(yb (p.map λq=>q.1.map Sum.inl) (p.map λq=>D.int q.2) (k.map Sum.inl)).getD (.int 0)=.int (getR p k)
 | []=>rfl
 | q :: p=>by
  rw [List.map_cons,List.map_cons,yb]
  unfold getR
  by_cases e:q.1=k
  ·rw [if_pos e,if_pos (by rw [e])]
   rfl
  ·rw [if_neg e,if_neg (λz=>e (kinl.mp z))]
   exact Yl k p
def D4:Sp:=λvs H Q _=>∃ b c,∃ p:RW,∃ k:List Int,∃ n:Int,vs=[.ref b,.ref c,.int n] /\ H b=some (.dT (dzV p)) /\ (p.map Prod.fst).Nodup /\ p.length <= 10000 /\ H c=some (.tup ((k.map Sum.inl).map kV)) /\ ∀ v H',Same H H'->Q v (if n=0 then H' else upd H' b (.dT (dzV (putR p k n))))
structure FC (P:Program) (w:World) (K:W.Frag) (mg:Str->Option Value) (base:Heap) (k:Nat) (x:Str) (ps:List Str):Prop where
 ex:∃ f fd,FnOk P w K mg base CX0 k f fd ps D4 /\ dg K fd ps [] /\ W.keepIn K (.ref f)=true /\ mg x=some (.ref f)
section
variable {X:Cx} {c e:Expr} {x y:Str} {tc:TDb} {te:TD} {np yp sp ap ip:Pos}
def Hq (K:W.Frag) (H₀:Hp) (tc:TDb) (te:TD):TS:=λDz σ H=>∃ ρ b c,∃ p:RW,∃ k:List Int,REnv K H₀ H σ ρ [] /\ σ[0]?=some (some (.ref b)) /\ σ[1]?=some (some (.ref c)) /\ H b=some (.dT (dzV p)) /\ p.length <= 10000 /\ H c=some (.tup ((k.map Sum.inl).map kV)) /\
 tc ρ λt=>(t=false->∀ H',Same H H'->Dz.nx σ H') /\ (t=true->te ρ λr=>∃ m,r.d=.int m /\ ∀ H',Same H H'->Dz.nx σ (upd H' b (.dT (putK (dzV p) (k.map Sum.inl) (.int m)))))
def Ls (H₀:{H:Hp // Γ H}) (hu:X.A.units + 64 < cLine) (hc:ET Γ X c tc) (he:ED Γ X e te) (h0:X.N[0]?=some x) (h1:X.N[1]?=some y) (hv:Vis X.env.scope x:=by first | exact Or.inl rfl | exact Or.inr (Or.inl rfl) | exact Or.inr (Or.inr rfl)) (hv1:Vis X.env.scope y:=by first | exact Or.inl rfl | exact Or.inr (Or.inl rfl) | exact Or.inr (Or.inr rfl))
  (hd:(x == ("__debug__" : Str))=false:=by decide) (hcd:(x == ("__classdict__" : Str))=false:=by decide) (hd1:(y == ("__debug__" : Str))=false:=by decide) (hcd1:(y == ("__classdict__" : Str))=false:=by decide)
  (hs:swapsWith e (some (.Subscript (.Name x np) (.Name y yp) sp)) ap.line X.env=pure false:=by rfl):PSs X [.If c [.Assign [.Subscript (.Name x np) (.Name y yp) sp] e ap] [] ip] (Hq X.K H₀.1 tc te) :=
 Sy (qh (Gk (hc H₀) (qh (Td (by omega) (wa h0 hv hd hcd) (wa h1 hv1 hd1 hcd1) (he H₀) hs)) Tb)) λDz σ H h=>by
  obtain ⟨ρ,b,cc,p,k,R,s0,s1,hb,hl,hcc,h⟩:=h
  refine ⟨ρ,[],R,_,h,λt H1 sm h1=>?_⟩
  cases t with
  | false=>exact iteF (h1.1 rfl H1 sm)
  | true =>
   refine iteT ⟨ρ,[],R.to sm,_,h1.2 rfl,λv r H2 s2 rv h2=>?_⟩
   obtain ⟨m,er,h2⟩:=h2
   obtain ⟨kd,d⟩:=r
   cases er
   cases (show v=V.int m from rv.view)
   have s12:=sm.trans s2
   exact ⟨.ref b,s0,.ref cc,s1,b,_,rfl,DPut.t (s12 _ _ hb) (s12 _ _ hcc) (by unfold dzV; rw [zLm]; exact Nat.lt_of_le_of_lt hl (by decide)),h2 H2 s12⟩
end
section
variable {P:Program} {w:World} {K:W.Frag} {mg:Str->Option Value} {base:Heap}
def Dq {x qual:Str} {st:Stmt} {f:Addr} {fd:FuncData} {N ps:List Str} {k:Nat} (F:Fun K x qual st f fd) (S:zw N ps (za st)) (hp:ps.length=3) (hN:N.length=3) (b:dg K fd ps []) (m:mg x=some (.ref f))
  (qY:∀ (qZ:Value) (A:Around) (outer:List Env) (s:Shared) (H:Hp) (E:XK),Room k (A.deeper (envOfC qual (za st) s.heap.objs.size f qZ)) ->
   ∃ tc te,PSs (cxOf CX0 P w K mg base N qual (za st) f qZ A outer s H E).nox (zp st) (Hq K H tc te) /\ ∀ (p:RW) (k:List Int) (n:Int),(∀ φ:Bool->Prop,φ (decide (n ≠ 0))->tc [some (dv (dtI p)),some (dv (ikD k)),some (dv (.int n))] φ) /\ ∀ φ:EV->Prop,φ (dv (.int (getR p k + n)))->te [some (dv (dtI p)),some (dv (ikD k)),some (dv (.int n))] φ) :
  FC P w K mg base (k + 1) x ps:=by
 refine ⟨f,fd,F.ok S (λvs H Q E h=>?_) (λqZ A outer s H vs Q E hr h=>?_),b,F.kp,m⟩
 ·obtain ⟨b,c,p,k,n,rfl,_⟩:=h
  rw [hp]; rfl
 ·obtain ⟨b,c,p,k,n,rfl,hb,nd,hl,hc,kk⟩:=h
  obtain ⟨tc,te,ht,hq⟩:=qY qZ A outer s H E hr
  obtain ⟨q1,q2⟩:=hq p k n
  have e0:L2.start N [.ref b,.ref c,.int n]=[some (.ref b),some (.ref c),some (.int n)]:=by unfold L2.start; rw [hN]; rfl
  refine ⟨_,ht,[some (dv (dtI p)),some (dv (ikD k)),some (dv (.int n))],b,c,p,k,?_,by rw [e0]; rfl,by rw [e0]; rfl,hb,hl,hc,?_⟩
  ·rw [e0]
   refine ⟨Same.refl H,(λ_ z=>absurd z (by simp)),(λ_ z=>absurd z (by simp)),(λ_ z=>absurd z (by simp)),List.nodup_nil,λi r' e=>?_,rfl⟩
   match i,e with
   | 0,e =>
    cases e
    refine ⟨_,rfl,.inl ⟨rfl,b,(p.map Prod.snd).map V.int,rfl,?_,by simp,by simp,?_,?_⟩⟩
    ·rw [hb,U4]
    ·rw [show (p.map λq=>q.1.map (Sum.inl:Int->Key))=(p.map Prod.fst).map (List.map Sum.inl) from by rw [List.map_map]; rfl]
     exact List.pairwise_map.mpr (nd.imp λh e=>h (kinl.mp e))
    ·rw [show (p.map λq=>D.int q.2)=(p.map Prod.snd).map D.int from by rw [List.map_map]; rfl]
     exact Reps.ints _
   | 1,e=>cases e; exact ⟨_,rfl,.inl ⟨rfl,gc hc⟩⟩
   | 2,e=>cases e; exact ⟨_,rfl,.inl ⟨rfl,rfl⟩⟩
  ·refine q1 _ ⟨λe H' s'=>?_,λe=>?_⟩
   ·have en:n=0:=by simpa using e
    have:=kk .non H' s'
    rw [if_pos en] at this
    exact this
   ·have en:¬ n=0:=by simpa using e
    refine q2 _ ⟨_,rfl,λH' s'=>?_⟩
    have:=kk .non H' s'
    rw [if_neg en] at this
    rw [T9 k n p nd]
    exact this
end
structure GT (K:W.Frag) (H₀ H:Hp) (σ:St) (ρ:DE) (l:Nat) (a:Addr) (as:List Addr) (ps:List RW):Prop where
 R:REnv K H₀ H σ ρ ((l,a) :: as.map λb=>(l,b))
 hl:∀ r,ρ[l]? ≠ some (some r)
 sl:σ[l]?=some (some (.ref a))
 la:H a=some (.lst (as.map V.ref))
 ln:as.length=ps.length
 dt:∀ (i:Nat) b p,as[i]?=some b->ps[i]?=some p->H b=some (.dT (dzV p)) /\ (p.map Prod.fst).Nodup
def oSnd (l:Nat) (a:Addr) (as:List Addr):(((l,a) :: as.map λb=>(l,b)):List (Nat × Addr)).map Prod.snd=a :: as:=by
 rw [List.map_cons,List.map_map]
 congr 1
 exact List.map_id as
section
variable {K:W.Frag} {H₀ H H':Hp} {σ:St} {ρ:DE} {l:Nat} {a:Addr} {as:List Addr} {ps:List RW}
def GT.to (G:GT K H₀ H σ ρ l a as ps) (s:Same H H'):GT K H₀ H' σ ρ l a as ps:=⟨G.R.to s,G.hl,G.sl,s _ _ G.la,G.ln,λi b p e1 e2=>⟨s _ _ (G.dt i b p e1 e2).1,(G.dt i b p e1 e2).2⟩⟩
def GT.setV (G:GT K H₀ H σ ρ l a as ps) {i:Nat} (hi:i ≠ l) {d:D} {v:V} (h:Rep K H (a :: as) d v):GT K H₀ H (σ.set i (some v)) (setS ρ i (dv d)) l a as ps where
 R:=G.R.setV i (by rw [oSnd]; exact h)
 hl:=λr e=>by
  rw [xq,List.getElem?_set_ne hi] at e
  exact G.hl r e
 sl:=by rw [List.getElem?_set_ne hi]; exact G.sl
 la:=G.la
 ln:=G.ln
 dt:=G.dt
def GT.nd (G:GT K H₀ H σ ρ l a as ps):(a :: as).Nodup:=by have:=G.R.nda; rw [oSnd] at this; exact this
def GT.put (G:GT K H₀ H σ ρ l a as ps) {j:Nat} {b:Addr} {p:RW} (ej:as[j]?=some b) (nd:(p.map Prod.fst).Nodup):GT K H₀ (upd H b (.dT (dzV p))) σ ρ l a as (ps.set j p):=by
 have hj:=(zag.mp ej).1
 have mb:b ∈ as:=zan ej
 obtain ⟨p0,e0⟩:∃ p0,ps[j]?=some p0:=⟨ps[j]'(by rw [<- G.ln]; exact hj),by simp⟩
 have hb:=(G.dt j b p0 ej e0).1
 have ndA:=List.nodup_cons.mp G.nd
 have nab:a ≠ b:=λz=>ndA.1 (z ▸ mb)
 have gr:Grow (a :: as) (a :: as) H (upd H b (.dT (dzV p))):=⟨λc u h n=>⟨by rw [zg (λz=>n (by rw [z]; exact zal _ mb))]; exact h,n⟩,λc xs h=>by rw [zg (λz=>by rw [z,hb] at h; cases h)]; exact h,λc ob u h=>by rw [zg (λz=>by rw [z,hb] at h; cases h)]; exact h⟩
 have fb:H₀ b=none:=by
  have:=G.R.fresh (l,b) (zal _ (zah.mpr ⟨b,mb,rfl⟩))
  exact this
 refine ⟨⟨λc u h=>?_,G.R.fresh,λq hq=>?_,λq hq=>?_,G.R.nda,λi r e=>?_,G.R.len⟩,G.hl,G.sl,by rw [zg nab]; exact G.la,by rw [List.length_set]; exact G.ln,λi c q e1 e2=>?_⟩
 ·rw [zg (zb h fb)]
  exact G.R.same c u h
 ·by_cases z:q.2=b
  ·exact ⟨_,by rw [z]; exact zh⟩
  ·rw [zg z]; exact G.R.trk q hq
 ·by_cases z:q.2=b
  ·rw [z,zh]
   exact ⟨λ_ z=>(by cases z),λ_ _ z=>(by cases z)⟩
  ·rw [zg z]; exact G.R.mtb q hq
 ·obtain ⟨v,ev,h⟩:=G.R.slots i r e
  refine ⟨v,ev,?_⟩
  rcases h with ⟨k,h⟩ | ⟨k,c,e1,m,cc⟩
  ·rw [oSnd] at h ⊢
   exact .inl ⟨k,Rep.grow gr _ _ h⟩
  ·exfalso
   have:i=l:=by
    rcases zam.mp m with z | z
    ·exact (Prod.mk.inj z).1
    ·obtain ⟨y,_,z⟩:=zah.mp z
     exact (Prod.mk.inj z).1.symm
   subst this
   exact G.hl r e
 ·by_cases z:i=j
  ·subst z
   rw [ej] at e1
   cases e1
   rw [List.getElem?_set_self (by rw [<- G.ln]; exact hj)] at e2
   cases e2
   exact ⟨zh,nd⟩
  ·rw [List.getElem?_set_ne (λy=>z y.symm)] at e2
   have ncb:c ≠ b:=λy=>z (by
    subst y
    obtain ⟨l1,q1⟩:=zag.mp e1
    obtain ⟨l2,q2⟩:=zag.mp ej
    exact (List.getElem_inj ndA.2).mp (q1.trans q2.symm))
   rw [zg ncb]
   exact G.dt i c q e1 e2
end
abbrev TG3:=DE->List RW->(DE->List RW->Prop)->Prop
def Fs (K:W.Frag) (H₀:Hp) (l:Nat) (t:TG3):TS:=λDz σ H=>∃ ρ a as ps,GT K H₀ H σ ρ l a as ps /\ ∃ N,t ρ ps N /\ ∀ ρ' σ' H' ps',Grow (a :: as) (a :: as) H H'->GT K H₀ H' σ' ρ' l a as ps'->N ρ' ps'->Dz.nx σ' H'
def ZS (G:Hp->Prop) (l:Nat) (X:Cx) (st:Stmt) (t:TG3):Prop:=∀ H₀:{H:Hp // G H},PS X st (Fs X.K H₀.1 l t)
def ZSs (G:Hp->Prop) (l:Nat) (X:Cx) (st:List Stmt) (t:TG3):Prop:=∀ H₀:{H:Hp // G H},PSs X st (Fs X.K H₀.1 l t)
section
variable {X:Cx} {l:Nat} {st:Stmt} {rest:List Stmt} {t u:TG3} {e:Expr} {te:TD} {pos:Pos}
def Xk (h:ZS Γ l X st t):ZSs Γ l X [st] t:=λH₀=>qh (h H₀)
def zSeq (t u:TG3):TG3:=λρ ps N=>t ρ ps λρ' ps'=>u ρ' ps' N
def Mh (h:ZS Γ l X st t) (hr:ZSs Γ l X rest u):ZSs Γ l X (st :: rest) (zSeq t u):=λH₀=>Sy (rg (h H₀) (hr H₀)) λDz σ H h=>by
 obtain ⟨ρ,a,as,ps,G,N,hN,k⟩:=h
 exact ⟨ρ,a,as,ps,G,_,hN,λρ' σ' H' ps' g' G' h'=>⟨ρ',a,as,ps',G',N,h',λρ2 σ2 H2 ps2 g2=>k ρ2 σ2 H2 ps2 (g'.trans g2)⟩⟩
def zSet (j:Nat) (te:TD):TG3:=λρ ps N=>te ρ λr=>(match r.k with | .own=>False | _=>True) /\ N (setS ρ j (dv r.d)) ps
def Jw (j:Nat) {x:Str} {pos':Pos} (hj:j ≠ l) (hN:X.N.Nodup) (he:ED Γ X e te) (hi:X.N[j]?=some x:=by rfl) (hx:Loc X.env.scope x:=by first | exact Or.inl rfl | exact Or.inr rfl) (hs:swapsWith e (some (.Name x pos')) pos.line X.env=pure false:=by rfl)
  (hf:X.fn x=true \/ X.env.scope.names.lookup x=some .local:=by first | exact .inl rfl | exact .inr rfl | assumption):ZS Γ l X (.Assign [.Name x pos'] e pos) (zSet j te):=λH₀=>impS (Tc hN hi hx (he H₀) hs hf) λD σ H h=>by
 obtain ⟨ρ,a,as,ps,G,N,hN,k⟩:=h
 refine ⟨ρ,_,G.R,_,hN,λv r H1 s1 rv h1=>?_⟩
 have rp:=rv.solid (wo h1.1)
 rw [oSnd] at rp
 exact k _ _ H1 ps (Grow.same s1) ((G.to s1).setV hj rp) h1.2
def Jr (K:W.Frag) (l:Nat) (g2:TG) (g:TGD):Prop:=∀ (H₀ H:Hp) (σ:St) (ρ:DE) (a:Addr) (as:List Addr) (ps:List RW) (d:D) (v:V) (ψ:DE->Prop) (Q:St->Hp->Prop),GT K H₀ H σ ρ l a as ps->Rep K H (a :: as) d v->g d ρ ψ ->
 (∀ ρ' σ',GT K H₀ H σ' ρ' l a as ps->ψ ρ'->Q σ' H)->g2 v σ H Q
def U2 {K:W.Frag} (i:Nat) (hi:i ≠ l):Jr K l (vo i) (gN i):=λH₀ H σ ρ a as ps d v ψ Q G h hg k=>k _ _ (G.setV hi h) hg
def U1 {K:W.Frag} (i j:Nat) (hi:i ≠ l) (hj:j ≠ l):Jr K l (gTup K 2 (Z5 (vo i) (Z5 (vo j) gNil))) (gT2 i j):=λH₀ H σ ρ a as ps d v ψ Q G h hg k=>by
 unfold gT2 at hg
 split at hg
 ·obtain ⟨p,xs,rfl,q,r⟩:=h
  obtain ⟨v1,r1,rfl,h1,v2,r2,rfl,h2,rfl⟩:=r
  refine ⟨p,_,rfl,q.1,rfl,v1,_,rfl,v2,_,rfl,rfl,?_⟩
  exact k _ _ ((G.setV hi h1).setV hj h2) hg
 ·exact hg.elim
def zFor (ti:TID) (g:TGD) (tb:TG3):TG3:=λρ ps N=>ti ρ λds=>∃ P:Nat->DE->List RW->Prop,P 0 ρ ps /\ (∀ i d ρ ps,ds[i]?=some d->P i ρ ps->g d ρ λρ'=>tb ρ' ps (P (i + 1))) /\ ∀ ρ ps,P ds.length ρ ps->N ρ ps
def Xl {tg iter:Expr} {body:List Stmt} {ti:TID} {g2:TG} {g:TGD} {tb:TG3} (hi:EI Γ X tg iter ti) (hg:PG X tg g2) (hl:Jr X.K l g2 g) (hb:ZSs Γ l X body tb) (hc:X.calm=true:=by rfl) (hp:PassesOwn (model X.prog X.w) X.A X.env X.xe:=by exact PassesOwn.never)
  (hs:∀ x,foldedSetIterable iter X.env x=pure x:=by intro _; rfl):ZS Γ l X (.For tg iter body [] pos) (zFor ti g tb):=λH₀=>impS (Nm hp hc (hi H₀) hg (hb H₀) hs) λD σ H h=>by
 obtain ⟨ρ,a,as,ps,G,N,hN,k⟩:=h
 refine ⟨ρ,_,G.R,_,hN,λJ ds PJ H1 s1 I hP ⟨P,p0,turn,fin⟩=>?_⟩
 rw [oSnd] at hP
 refine ⟨λi m σ' H'=>m=ds.length - i /\ i <= ds.length /\ ∃ ρ' ps',Grow (a :: as) (a :: as) H1 H' /\ GT X.K H₀ H' σ' ρ' l a as ps' /\ P i ρ' ps',⟨_,rfl,Nat.zero_le _,ρ,ps,Grow.refl,G.to s1,p0⟩,?_⟩
 rintro i m σ' H' ⟨rfl,hi',ρ',ps',g',G',p'⟩
 have hP':=I.keep _ _ _ _ hP g'
 by_cases hlt:i < ds.length
 ·have ed:ds[i]?=some ds[i]:=by simp [hlt]
  obtain ⟨j1,j2⟩:=I.go H' _ i _ hP' ed
  refine .inr ⟨j1,λσ2 H2=>∃ ρ2 ps2,Grow (a :: as) (a :: as) H1 H2 /\ GT X.K H₀ H2 σ2 ρ2 l a as ps2 /\ P (i + 1) ρ2 ps2,λσ2 H2 ⟨ρ2,ps2,g2,G2,p2⟩=>⟨_,(by omega:ds.length - (i + 1) < ds.length - i),rfl,hlt,ρ2,ps2,g2,G2,p2⟩,λx H2 y=>?_⟩
  obtain ⟨s2,rp⟩:=j2 x H2 y
  refine hl H₀.1 H2 σ' ρ' a as ps' _ x _ _ (G'.to s2) rp (turn i _ ρ' ps' ed p') λρ3 σ3 G3 q3=>?_
  refine ⟨ρ3,a,as,ps',G3,_,q3,λρ4 σ4 H4 ps4 g4 G4 q4=>⟨ρ4,ps4,g'.trans ((Grow.same s2).trans g4),G4,q4⟩⟩
 ·have e:i=ds.length:=by omega
  subst e
  exact .inl ⟨I.stop H' _ hP',k ρ' σ' H' ps' ((Grow.same s1).trans g') G' (fin ρ' ps' p')⟩
end
section
variable {X:Cx} {l:Nat} {x f:Str} {ie ke we:Expr} {t1 t2 t3:TD} {pos:Pos}
def zCnt (t1 t2 t3:TD):TG3:=λρ ps N=>t1 ρ λi=>∃ (j:Nat) (p:RW),i.d=.int j /\ ps[j]?=some p /\ p.length <= 10000 /\ t2 ρ λk=>t3 ρ λw=>∃ (ks:List Int) (n:Int),k.d=ikD ks /\ w.d=.int n /\ N ρ (ps.set j (cntR p ks n))
def Jx {kf:Nat} {qs:List Str} {np sp fp cp:Pos} (F:FC X.prog X.w X.K X.mg X.base kf f qs) (hr:Room kf X.A) (h1:ED Γ X ie t1) (h2:ED Γ X ke t2) (h3:ED Γ X we t3) (hN:X.N[l]?=some x:=by rfl)
  (hv:Vis X.env.scope x:=by first | exact Or.inl rfl | exact Or.inr (Or.inl rfl) | exact Or.inr (Or.inr rfl)) (hd:(x == ("__debug__" : Str))=false:=by decide) (hcd:(x == ("__classdict__" : Str))=false:=by decide) (hix:d9 ie:=by intro _ _; rfl)
  (hg:Gl X f:=by rfl) (hdb:(f == ("__debug__" : Str))=false:=by decide) (hs1:starEach [.Subscript (.Name x np) ie sp,ke,we] X.env=(false,eval (.Subscript (.Name x np) ie sp) X.env) :: starEach [ke,we] X.env:=by rfl) (hs2:starEach [ke,we] X.env=(false,eval ke X.env) :: starEach [we] X.env:=by rfl) (hs3:starEach [we] X.env=(false,eval we X.env) :: starEach [] X.env:=by rfl)
  (hpl:(backTo cp (starEach [ke,we] X.env)).any (·.1)=false:=by rfl) (hsw:swapsWith (.Call (.Name f fp) [.Subscript (.Name x np) ie sp,ke,we] [] cp) none pos.line X.env=pure false:=by rfl) :
  ZS Γ l X (.Expr (.Call (.Name f fp) [.Subscript (.Name x np) ie sp,ke,we] [] cp) pos) (zCnt t1 t2 t3):=λH₀=>by
 obtain ⟨fa,fd,ok,b,kp,m⟩:=F.ex
 refine impS (gf (Tr ok hr hg m kp b .nil Gz (xx (K3 Nv (wa hN hv hd hcd) (h1 H₀) hix) (xx (h2 H₀) (xx (h3 H₀) tm hs3) hs2) hs1) hdb hs1 hpl) hsw) λD σ H h=>?_
 obtain ⟨ρ,a,as,ps,G,N,hN',k⟩:=h
 refine ⟨.ref a,G.sl,ρ,_,G.R,_,hN',λv1 r1 H1 s1 rv1 q1=>?_⟩
 obtain ⟨j,p,e1,ep,lp,q1⟩:=q1
 obtain ⟨k1,d1⟩:=r1
 cases e1
 cases (show v1=V.int j from rv1.view)
 have hj:j < as.length:=by rw [G.ln]; exact (zag.mp ep).1
 have ej:as[j]?=some as[j]:=by simp [hj]
 have G1:=G.to s1
 refine .inl ⟨a,_,_,.ref as[j],rfl,rfl,SqL.of G1.la,se (by omega) (by simp [hj]),?_⟩
 refine ⟨ρ,_,G1.R,_,q1,λv2 r2 H2 s2 rv2 q2=>⟨ρ,_,(G1.to s2).R,_,q2,λv3 r3 H3 s3 rv3 q3=>?_⟩⟩
 obtain ⟨ks,n,e2,e3,q3⟩:=q3
 obtain ⟨k2,d2⟩:=r2
 obtain ⟨k3,d3⟩:=r3
 cases e2
 cases e3
 cases (show v3=V.int n from rv3.view)
 obtain ⟨c,rfl,hc⟩:=Sz (rv2.same s3).view
 have G3:=(G1.to s2).to s3
 obtain ⟨hb,nd⟩:=G3.dt j _ p ej ep
 refine ⟨as[j],c,p,ks,n,rfl,hb,nd,lp,hc,λv H4 s4=>?_⟩
 have s14:=((s1.trans s2).trans s3).trans s4
 unfold cntR at q3
 by_cases z:n=0
 ·rw [if_pos z] at q3 ⊢
  refine k ρ σ H4 _ (Grow.same s14) ?_ q3
  rw [show ps.set j p=ps from by
   refine List.ext_getElem? λi=>?_
   by_cases y:i=j
   ·subst y
    rw [List.getElem?_set_self (by rw [<- G.ln]; exact hj),ep]
   ·rw [List.getElem?_set_ne (λz=>y z.symm)]]
  exact G3.to s4
 ·rw [if_neg z] at q3 ⊢
  have hb4:=s4 _ _ hb
  have mb:as[j] ∈ as:=List.getElem_mem hj
  refine k ρ σ _ _ ((Grow.same s14).trans ⟨λc u h m=>⟨by rw [zg (λz=>m (by rw [z]; exact zal _ mb))]; exact h,m⟩,λc xs h=>by rw [zg (λz=>by rw [z,hb4] at h; cases h)]; exact h,λc ob u h=>by rw [zg (λz=>by rw [z,hb4] at h; cases h)]; exact h⟩) ((G3.to s4).put ej (uw nd)) q3
end
end DL
namespace L3
open PySem PySem.Spec PySem.W L2
open PyProof.Rows hiding St
section
variable {X:Cx} {pn:List (Addr × Obj)} {σ:St} {s:Shared}
def FrzA (as:List Addr) (H H':Hp):Prop:=(∀ b,b ∉ as->H' b=H b) /\ ∀ b ∈ as,∀ kvs,H b=some (.dT kvs)->∃ o,H' b=some (.frz o (.dT kvs))
def Inv.freezeA:∀ (as:List Addr) {H:Hp},Inv X pn σ H s->as.Nodup->(∀ b ∈ as,∃ kvs,H b=some (.dT kvs))->∃ H',Inv X pn σ H' s /\ FrzA as H H'
 | [],H,I,_,_=>⟨H,I,λ_ _=>rfl,λb hb=>absurd hb (by simp)⟩
 | a :: as,H,I,nd,hd=>by
  obtain ⟨n1,n2⟩:=List.nodup_cons.mp nd
  obtain ⟨kvs,e⟩:=hd a zao
  obtain ⟨ob,g⟩:=M9 I e
  have I1:=Inv.freezeT I e g
  obtain ⟨H',I',f1,f2⟩:=Inv.freezeA as I1 n2 λb hb=>by
   rw [zg (show b ≠ a from λz=>n1 (z ▸ hb))]
   exact hd b (zal _ hb)
  refine ⟨H',I',λb hb=>?_,λb hb kv eb=>?_⟩
  ·rw [f1 b (λz=>hb (zal _ z)),zg (show b ≠ a from λz=>hb (by rw [z]; exact zao))]
  ·rcases zam.mp hb with rfl | hb
   ·rw [e] at eb
    cases eb
    exact ⟨ob,by rw [f1 b n1,zh]⟩
   ·exact f2 b hb kv (by rw [zg (show b ≠ a from λz=>n1 (z ▸ hb))]; exact eb)
def K6 {e:Expr} {t:TE} (h:PE X e t):PE X e (λσ H Q=>t σ H λv H'=>∃ as,as.Nodup /\ (∀ b ∈ as,∃ kvs,H' b=some (.dT kvs)) /\ ∀ H'',FrzA as H' H''->Q v H''):=by
 intro pn s σ H Q I q
 refine thn (h pn s σ H _ I q) λu s1 ⟨v,H1,I1,r,as,nd,hd,q1⟩=>?_
 obtain ⟨H2,I2,f⟩:=Inv.freezeA as I1 nd hd
 exact ⟨v,H2,I2,r,q1 H2 f⟩
end
end L3
namespace DL
open PySem PySem.Spec L2 L3
open PyProof.Rows hiding St
variable {Γ:Hp->Prop}
section
variable {X:Cx} {scope:Scope} {tg iter:Expr} {ti:TID} {y:Str} {pos dp:Pos}
def Ho (K:W.Frag) (H₀:Hp) (ti:TID):TE:=λσ H Q=>∃ ρ o,REnv K H₀ H σ ρ o /\ ∃ φ:Nat->Prop,ti ρ (λds=>ds.length <= 1000 /\ φ ds.length) /\
   ∀ (n:Nat) (Da:Addr) (as:List Addr) (H':Hp),φ n->Same H H'->H Da=none->Da ∉ as->as.Nodup->as.length=n->H' Da=some (.lst (as.map V.ref))->(∀ b ∈ as,H b=none /\ H' b=some (.dT []))->Q (.ref Da) H'
def Vi {H₀:Hp} (y:Str):∀ σ H Q,Ho X.K H₀ ti σ H Q->Uh (O3 X.K H₀ ti) [y] [] (vo 0) tYes Ue σ H Q:=λσ H Q q=>by
  obtain ⟨ρ,o,R,φ,hφ,k⟩:=q
  refine ⟨ρ,o,R,_,hφ,λJ ds P H1 s1 I hP ⟨hlen,hn⟩ Da hDa=>?_⟩
  have gD:∀ {H':Hp},Same H1 H'->Grow (o.map Prod.snd) (Da :: o.map Prod.snd) H1 H':=λs=>⟨λb u h nb=>⟨s b u h,λz=>(zam.mp z).elim (λe=>zb h hDa e) nb⟩,λb xs h=>s b _ h,λb ob u h=>s b _ h⟩
  refine ⟨λi m ys H'=>m=ds.length - i /\ i <= ds.length /\ Same H1 H' /\ H' Da=some (.lst ys) /\ ∃ as:List Addr,ys=as.map V.ref /\ as.length=i /\ Da ∉ as /\ as.Nodup /\ ∀ b ∈ as,H1 b=none /\ H' b=some (.dT []),
   ⟨_,rfl,Nat.zero_le _,zr hDa _,zh,[],rfl,rfl,by simp,List.nodup_nil,λb hb=>absurd hb (by simp)⟩,?_⟩
  rintro i m ys H' ⟨rfl,hi',s2,hD',as,rfl,la,na,nd,ha⟩
  refine ⟨hD',?_⟩
  have hP':=I.keep _ _ _ _ hP (gD s2)
  by_cases hlt:i < ds.length
  ·have ed:ds[i]?=some ds[i]:=by simp [hlt]
   obtain ⟨j1,j2⟩:=I.go H' _ i _ hP' ed
   refine .inr ⟨j1,λzs H2=>Same H1 H2 /\ H2 Da=some (.lst zs) /\ ∃ as:List Addr,zs=as.map V.ref /\ as.length=i + 1 /\ Da ∉ as /\ as.Nodup /\ ∀ b ∈ as,H1 b=none /\ H2 b=some (.dT []),λzs H2 ⟨a1,a2,a3⟩=>⟨_,(by omega:ds.length - (i + 1) < ds.length - i),rfl,hlt,a1,a2,a3⟩,λx H2 y=>?_⟩
   obtain ⟨s3,rx⟩:=j2 x H2 y
   unfold vo tYes
   refine iteT (λp hp=>?_)
   have hD2:=s3 _ _ hD'
   have npD:p ≠ Da:=λz=>by rw [z,hD2] at hp; cases hp
   have hDu:(upd H2 p (.dT [])) Da=some (.lst (as.map V.ref)):=by rw [zg (Ne.symm npD)]; exact hD2
   refine ⟨hDu,by rw [zLm,sizeLine_eq]; omega,λb u h=>?_,zh,as ++ [p],by simp,by simp [la],?_,?_,λb hb=>?_⟩
   ·have nb:b ≠ Da:=zb h hDa
    rw [zg nb,zg (zb (s3 _ _ (s2 _ _ h)) hp)]
    exact s3 _ _ (s2 _ _ h)
   ·simp [na,Ne.symm npD]
   ·refine List.nodup_append.mpr ⟨nd,by simp,λb hb c hc e=>?_⟩
    simp at hc
    subst hc e
    rw [s3 _ _ (ha b hb).2] at hp
    cases hp
   ·rcases zas.mp hb with hb | hb
    ·have nbD:b ≠ Da:=λz=>na (z ▸ hb)
     have nbp:b ≠ p:=λz=>by rw [<- z,s3 _ _ (ha b hb).2] at hp; cases hp
     exact ⟨(ha b hb).1,by rw [zg nbD,zg nbp]; exact s3 _ _ (ha b hb).2⟩
    ·simp at hb
     subst hb
     exact ⟨(s2.trans s3).free hp,by rw [zg npD]; exact zh⟩
  ·have e:i=ds.length:=by omega
   refine .inl ⟨by rw [e]; exact I.stop H' _ hP',?_⟩
   exact k _ Da as H' hn (s1.trans s2) (s1.free hDa) na nd (by omega) hD' λb hb=>⟨s1.free (ha b hb).1,(ha b hb).2⟩
def Hy (l:Nat) (ti:TID) (t:TG3):TDS:=λρ Z=>(∀ (i:Nat) (r:EV),ρ[i]?=some (some r)->r.k=.val) /\ l < ρ.length /\ ti ρ λds=>ds.length <= 1000 /\ t (ρ.set l none) (List.replicate ds.length []) λ_ ps=>Z.rt ⟨.new,.lst (ps.map D.dz)⟩
def L7 {s2:Stmt} {x:Str} {t:TG3} (l:Nat) {np pos' rp pos3:Pos} (hN:X.N.Nodup) (hi:EI Γ X tg iter ti) (S:zt X.env.scope scope [y] []) (hg:∀ cl C fp s H,PG (yd X ([y] ++ []) scope cl C fp s H) tg (vo 0)) (hk:j8 1 (vo 0)) (h2:ZS Γ l X s2 t)
  (hx:X.N[l]?=some x:=by rfl) (hv:Vis X.env.scope x:=by first | exact Or.inl rfl | exact Or.inr (Or.inl rfl) | exact Or.inr (Or.inr rfl)) (hd:(x == ("__debug__" : Str))=false:=by decide) (hcd:(x == ("__classdict__" : Str))=false:=by decide)
  (hsw:swapsWith (.ListComp (.Dict [] [] dp) [⟨tg,iter,[],0⟩] scope pos) (some (.Name x pos')) pos3.line X.env=pure true:=by rfl) (hlk:X.env.scope.names.lookup x=some .local:=by rfl)
  (hc:X.calm=true:=by rfl) (hfs:∀ x,foldedSetIterable iter X.env x=pure x:=by intro _; rfl) :
  SDs Γ X [.Assign [.Name x pos'] (.ListComp (.Dict [] [] dp) [⟨tg,iter,[],0⟩] scope pos) pos3,s2,.Return (some (.Name x np)) rp] (Hy l ti t):=λH₀ =>
 Sy (rg (jj (tc:=tYes) (te:=Ue) hc hN hx (.inl hlk) (hi H₀) S .nil hg hk (λ_ _ _ _ _=>Tg) (λ_ _ _ _ _=>gk) hsw hfs (.inr hlk)) (rg (h2 H₀) (qh (Nl (K6 (wa hx hv hd hcd)))))) λDz σ H h=>by
  obtain ⟨ρ,o,R,Z,⟨hval,hll,hZ⟩,k1,k2,k3,k4⟩:=h
  dsimp only [tSeq]
  refine Vi y σ H _ ⟨ρ,o,R,λn=>t (ρ.set l none) (List.replicate n []) λ_ ps=>Z.rt ⟨.new,.lst (ps.map D.dz)⟩,hZ,λn Da as H1 hn s1 fD nD nd la hD ha=>?_⟩
  have lσ:l < σ.length:=by rw [R.len]; exact hll
  have fr0:∀ {b},H b=none->H₀.1 b=none:=λe=>R.same.free e
  have G:GT X.K H₀ H1 (σ.set l (some (.ref Da))) (ρ.set l none) l Da as (List.replicate n []):=by
   refine ⟨⟨R.same.trans s1,λq hq=>?_,λq hq=>?_,λq hq=>?_,?_,λi r e=>?_,by rw [List.length_set,List.length_set]; exact R.len⟩,λr e=>?_,List.getElem?_set_self lσ,hD,by simp [la],λi b p e1 e2=>?_⟩
   ·rcases zam.mp hq with rfl | hq
    ·exact fr0 fD
    ·obtain ⟨b,hb,rfl⟩:=zah.mp hq
     exact fr0 (ha b hb).1
   ·rcases zam.mp hq with rfl | hq
    ·exact ⟨_,hD⟩
    ·obtain ⟨b,hb,rfl⟩:=zah.mp hq
     exact ⟨_,(ha b hb).2⟩
   ·rcases zam.mp hq with rfl | hq
    ·exact ⟨λxs z=>(by rw [hD] at z; cases z),λob u z=>(by rw [hD] at z; cases z)⟩
    ·obtain ⟨b,hb,rfl⟩:=zah.mp hq
     exact ⟨λxs z=>(by rw [(ha b hb).2] at z; cases z),λob u z=>(by rw [(ha b hb).2] at z; cases z)⟩
   ·rw [oSnd]
    exact List.nodup_cons.mpr ⟨nD,nd⟩
   ·by_cases z:i=l
    ·subst z
     rw [List.getElem?_set_self hll] at e
     cases e
    ·rw [List.getElem?_set_ne (λy=>z y.symm)] at e
     obtain ⟨v,ev,q⟩:=R.slots i r e
     refine ⟨v,by rw [List.getElem?_set_ne (λy=>z y.symm)]; exact ev,.inl ⟨hval i r e,?_⟩⟩
     rcases q with ⟨_,q⟩ | ⟨q,_⟩
     ·rw [oSnd]
      refine Rep.grow (O:=[]) ⟨λb u hb _=>⟨s1 _ _ hb,λm=>?_⟩,λb xs hb=>s1 _ _ hb,λb ob u hb=>s1 _ _ hb⟩ _ _ (Rep.sub (O':=[]) (λ_ z=>nomatch z) _ _ q)
      rcases zam.mp m with z | z
      ·rw [z,fD] at hb; cases hb
      ·rw [(ha b z).1] at hb; cases hb
     ·rw [hval i r e] at q; cases q
   ·rw [List.getElem?_set_self hll] at e
    cases e
   ·rw [List.getElem?_replicate] at e2
    split at e2
    ·cases e2
     exact ⟨(ha b (zan e1)).2,List.nodup_nil⟩
    ·cases e2
  refine ⟨_,Da,as,_,G,_,hn,λρ' σ' H2 ps' g2 G2 hz=>⟨.ref Da,G2.sl,as,nd,λb hb=>?_,λH3 fz=>?_⟩⟩
  ·obtain ⟨i,ei⟩:=List.getElem?_of_mem hb
   have hi':=(zag.mp ei).1
   exact ⟨_,(G2.dt i b (ps'[i]'(by rw [<- G2.ln]; exact hi')) ei (by simp)).1⟩
  have hDa3:H3 Da=some (.lst (as.map V.ref)):=by rw [fz.1 Da nD]; exact G2.la
  have fas:∀ b ∈ as,H₀.1 b=none:=λb hb=>fr0 (ha b hb).1
  refine k4 (.ref Da) ⟨.new,.lst (ps'.map D.dz)⟩ H3 (λb u hb=>?_) ?_ hz
  ·rw [fz.1 b (λz=>by rw [fas b z] at hb; cases hb)]
   exact G2.R.same b u hb
  ·refine ⟨Da,_,rfl,hDa3,⟨by simp,fr0 fD⟩,?_⟩
   have key:∀ (bs:List Addr) (qs:List RW),bs.length=qs.length->(∀ (i:Nat) b p,bs[i]?=some b->qs[i]?=some p->b ∈ as /\ H2 b=some (.dT (dzV p)) /\ (p.map Prod.fst).Nodup)->y4 X.K H3 (λa=>a ∉ [] /\ H₀.1 a=none) (qs.map D.dz) (bs.map V.ref):=by
    intro bs
    induction bs with
    | nil=>intro qs hl _; cases qs with
     | nil=>rfl
     | cons q qs=>simp at hl
    | cons b bs ih=>intro qs hl hq; cases qs with
     | nil=>simp at hl
     | cons q qs =>
      obtain ⟨m,e,n⟩:=hq 0 b q rfl rfl
      obtain ⟨o,eo⟩:=fz.2 b m _ e
      exact ⟨_,_,rfl,⟨b,rfl,⟨o,eo⟩,n⟩,ih qs (by simpa using hl) λi b' p' e1 e2=>hq (i + 1) b' p' (by simpa using e1) (by simpa using e2)⟩
   exact key as ps' G2.ln λi b p e1 e2=>⟨zan e1,G2.dt i b p e1 e2⟩
end
end DL
namespace L2
open PySem PySem.Spec PyProof.Rows
def wq:fillsNumberSlot (.type "tuple") "mul" = pure false :=
 PySem.fillsNumberSlot_seq (id:="tuple.__mul__") (r:=some (.builtin "tuple.__rmul__")) F.slot_tuple_mul.lookup (by decide +kernel) F.slot_tuple_rmul.lookup (by decide +kernel)
def t9:seqRepeat? (.type "tuple")=pure (some (.builtin "tuple.__mul__")):=by
 unfold seqRepeat?
 rw [PySem.seqSlot_of (T:="tuple") (name:="__mul__") (id:="tuple.__mul__") F.slot_tuple_mul.lookup (by decide +kernel),PySem.seqSlot_of (T:="tuple") (name:="__rmul__") (id:="tuple.__rmul__") F.slot_tuple_rmul.lookup (by decide +kernel)]
 rfl
section
variable {prog:Program} {w:World} {A:Around} {E:Value->Shared->Prop} {s:Shared}
def tu (a:Int) (t:Tok) (l:Addr) (its:Array Value) (n:Nat) (dd:Option Addr) (sl:Array (Option Value)) :
  Meets (Builtin.«int.__rmul__» ⟨[.int a t,.ref l],[]⟩) (λ_ R s=>s.heap.get? l=some { cls:=.type "tuple", dict:=dd,data:=.seq its n,slots:=sl } /\ R (.ok (.ret Value.notImplemented)) s) :=
 .of_wp λprog w A R s h=>by
  obtain ⟨hp,g,d,tk,os⟩:=s
  obtain ⟨hl,h⟩:=h
  wp_walk
  exact ⟨_,rfl,h⟩
def Mt (l:Addr) (its:Array Value) (n:Nat) (dd:Option Addr) (sl:Array (Option Value)) (k:Int) (t:Tok) (hk:2 <= k) (h1:its.size * k.toNat <= sizeLine) (h0:its.isEmpty=false) :
  Meets (Builtin.«tuple.__mul__» ⟨[.ref l,.int k t],[]⟩) (λ_ R s=>s.heap.get? l=some { cls:=.type "tuple", dict:=dd,data:=.seq its n,slots:=sl } /\ R (.ok (.ret (.ref s.heap.objs.size))) { s with heap:=s.heap.push { cls:=.type "tuple", data:=.seq ((List.replicate k.toNat its).foldl (· ++ ·) #[]) } }) :=
 .of_wp λprog w A R s h=>by
  obtain ⟨hp,g,d,tk,os⟩:=s
  obtain ⟨hl,h⟩:=h
  have hs:0 < its.size:=by
   rcases Nat.eq_zero_or_pos its.size with z | z
   ·rw [Array.isEmpty_iff_size_eq_zero.mpr z] at h0
    cases h0
   ·exact z
  have hk2:k.toNat <= sizeLine:=zak (Nat.le_mul_of_pos_left _ hs) h1
  rw [sizeLine_eq] at h1 hk2
  have hkk:(k.toNat:Int)=k:=Int.toNat_of_nonneg (by omega)
  have hm:(its.size:Int) * k=((its.size * k.toNat:Nat):Int):=by rw [Int.natCast_mul,hkk]
  wp_walk
  rw [if_neg (by simp; omega)]
  dsimp only
  refine zaa ?_
  unfold Builtin.Tuple.tupleItemsOf
  refine zaa (wpAny_seqItems hl rfl (zab ?_))
  try dsimp only
  rw [if_neg (by simp [h0]; omega)]
  try dsimp only
  rw [if_neg (by simp [h0]; omega)]
  try dsimp only
  rw [if_neg (by rw [hm]; omega)]
  try dsimp only
  rw [if_neg (λz=>by have:=of_decide_eq_true z; rw [hm,sizeLine_eq] at this; omega)]
  refine zaa ?_
  unfold Builtin.Tuple.tupleExact
  refine wpAny_newObj_type (zab ⟨_,rfl,h⟩) ?_
  have f0:=ue its.toList k.toNat []
  rw [List.nil_append] at f0
  have f1:List.foldl (λx1 x2=>x1 ++ x2) #[] (List.replicate k.toNat its)=(List.replicate k.toNat its.toList).flatten.toArray:=f0
  rw [f1]
  simp only [sizeOk,zap]
  rw [gw,Array.length_toList,Nat.mul_comm,sizeLine_eq]
  exact h1
end
section
variable {X:Cx}
def D8 (K:W.Frag):R2:=λx y H Q=>∃ l k xs,x=.ref l /\ y=.int k /\ SqT K H l xs /\ xs ≠ [] /\ 1 <= k /\ xs.length * k.toNat <= sizeLine /\ (k=1->Q (.ref l) H) /\
 (k ≠ 1->∀ p,H p=none->Q (.ref p) (upd H p (.tup (List.replicate k.toNat xs).flatten)))
def Qm (l:Addr) (its:Array Value) (n:Nat) (dd:Option Addr) (sl:Array (Option Value)) (t:Tok) :
  Meets (Builtin.«tuple.__mul__» ⟨[.ref l,.int 1 t],[]⟩) (λ_ R s=>s.heap.get? l=some { cls:=.type "tuple", dict:=dd,data:=.seq its n,slots:=sl } /\ R (.ok (.ret (.ref l))) s) :=
 .of_wp λprog w A R s h=>by
  obtain ⟨hp,g,d,tk,os⟩:=s
  obtain ⟨hl,h⟩:=h
  wp_walk
  exact ⟨_,rfl,h⟩
def K9:OpR X (binaryOp .Mult) (D8 X.K):=by
 intro pn s σ H x y v u Q I rx ry h
 obtain ⟨l,k,xs,rfl,rfl,hH,hne,h1,hz,q1,q2⟩:=h
 cases rx
 obtain ⟨t,rfl⟩:=ry
 obtain ⟨its,r,p1,_⟩:=I.tuple hH
 obtain ⟨⟨cls,dd,data,sl⟩,e,hc,n,hd⟩:=p1
 cases hc
 cases hd
 have hne':its.toArray.isEmpty=false:=by
  cases its with
  | nil=>exact absurd (r.nil_iff.mp rfl) hne
  | cons a b=>rfl
 refine wpAny_binaryOp_repeat_ref (T:="tuple") (U:="int") (by decide) ⟨_,e,rfl⟩ (λs'=>typeIs_int s' k t) wq F.fills_int_mul F.slot_int_rmul t9 F.slot_int_index.lookup
  (call_meets F.slot_int_rmul (typeIs_int s k t) F.entry_int_rmul (F.args_int_rmul_2 _ _) (tu k t l its.toArray n dd sl) ⟨e,rfl,⟨_,e,rfl⟩,?_⟩)
 by_cases k1:k=1
 ·subst k1
  exact call_meets F.slot_tuple_mul ⟨_,e,rfl⟩ F.entry_tuple_mul (F.args_tuple_mul_2 _ _) (Qm l its.toArray n dd sl t) ⟨e,⟨.ref l,H,I,rfl,q1 rfl⟩⟩
 ·refine call_meets F.slot_tuple_mul ⟨_,e,rfl⟩ F.entry_tuple_mul (F.args_tuple_mul_2 _ _) (Mt l its.toArray n dd sl k t (by omega) (by rw [zap,<- r.length]; exact hz) hne') ⟨e,?_⟩
  have f0:=ue its k.toNat []
  rw [List.nil_append] at f0
  rw [show List.foldl (λx1 x2=>x1 ++ x2) #[] (List.replicate k.toNat its.toArray)=(List.replicate k.toNat its).flatten.toArray from f0]
  refine ⟨.ref s.heap.objs.size,_,I.laid (t':=s.toks) (o:=.tup (List.replicate k.toNat xs).flatten) (λb ob q=>zac _ q) (zaj _) ?_,rfl,q2 k1 _ (I.hok.fresh (zaj _))⟩
  exact ⟨by rw [gw,Nat.mul_comm]; exact hz,_,r.rep k.toNat,IsTup.new _ _,_,zad _ rfl,rfl⟩
end
section
variable {prog:Program} {w:World} {A:Around} {s:Shared} {R:Result->Shared->Prop}
abbrev tkK (prog:Program) (w:World):=tupleKind (y9 prog w)
def Wm {h h':Heap} {k:List Key} {a:Addr} (x:(tkK prog w).is h k a) (q:∀ o,h.get? a=some o->o.cls=.type "tuple"->h'.get? a=some o):(tkK prog w).is h' k a:=by
 obtain ⟨o,its,n,h1,h2,h3,h4⟩:=x
 exact ⟨o,its,n,q o h1 h2,h2,h3,h4⟩
def vt (prog:Program) (w:World) (h:Heap) (v:Value) (kx:List Key × Addr × Value):Prop:=∃ b o n,v=.ref b /\ h.get? b=some o /\ o.cls=.type "tuple" /\ o.data=.seq #[.ref kx.2.1,kx.2.2] n /\ (tkK prog w).is h kx.1 kx.2.1
def vt.keep {h h':Heap} {v:Value} {kx:List Key × Addr × Value} (x:vt prog w h v kx) (q:∀ b o,h.get? b=some o->o.cls=.type "tuple"->h'.get? b=some o):vt prog w h' v kx:=by
 obtain ⟨b,o,n,e1,e2,e3,e4,e5⟩:=x
 exact ⟨b,o,n,e1,q b o e2 e3,e3,e4,Wm e5 λo'=>q _ o'⟩
def t8 {h h':Heap} {d:Addr} {xs:List (List Key × Addr × Value)} (x:h.DictOfH (tkK prog w) d xs) (qd:∀ o,h.get? d=some o->h'.get? d=some o) (q:∀ b o,h.get? b=some o->o.cls=.type "tuple"->h'.get? b=some o):h'.DictOfH (tkK prog w) d xs:=by
 obtain ⟨o,es,ep,ho,a1,a2,a3,a4,a5⟩:=x
 exact ⟨o,es,ep,qd o ho,a1,a2,a3,λy hy=>Wm (a4 y hy) λo'=>q _ o',a5⟩
def U6 (hu:A.units + 2 < cLine) (hh:A.handled=none) (d it l:Addr) (hdi:d ≠ it) (hdl:d ≠ l) (hli:l ≠ it) (its:List Value) (more:List (List Key × Addr × Value)) (hlen:its.length=more.length) (hnd:(more.map (·.1)).Nodup) (hsz:more.length <= sizeLine) :
  ∀ (k i:Nat) (s:Shared),its.length=i + k->s.heap.IsListIter it l i->s.heap.IsList l its.toArray->s.heap.DictOfH (tkK prog w) d (more.take i) ->
  (∀ (j:Nat) v kx,its[j]?=some v->more[j]?=some kx->vt prog w s.heap v kx) ->
  (∀ h' tk,h'.DictOfH (tkK prog w) d more->(∀ b o,b ≠ d->b ≠ it->s.heap.get? b=some o->h'.get? b=some o)->R (.ok (.ret .none)) { s with heap:=h',toks:=tk }) ->
  codeAny (model prog w) A (.builtin "dict.update.loop" ⟨[.ref d,.ref it,rawInt (i:Int),.none],[]⟩) R s:=by
 intro k
 induction k with
 | zero =>
  intro i s hk hi hl hd hp hR
  refine codeAny_builtin ve ?_
  rw [Around.under_plainId xa _]
  have W:=Walks.list (prog:=prog) (w:=w) (A:=A.in1) hh it l hli its.toArray
  show wpAny _ A.in1 (pyNext (.ref it) >>= _) _ _ s
  refine zaa (W.done s _ _ ⟨by simpa [hk] using hi,hl⟩ λh' tk hk'=>?_)
  show wpAny _ A.in1 (Builtin.Dict.addKeywords d [] >>= _) _ _ _
  refine zaa (zab (zab ?_))
  refine hR h' tk ?_ λb o _ hb e=>hk' b o (by simpa using hb) e
  rw [List.take_of_length_le (by omega)] at hd
  refine t8 hd (λo e=>hk' d o (by simpa using hdi) e) λb o e hc=>hk' b o ?_ e
  intro z
  have:b=it:=by simpa using z
  subst this
  obtain ⟨o',ho',hc',_⟩:=hi
  rw [ho'] at e
  cases e
  rw [hc'] at hc
  exact absurd hc (by decide)
 | succ k ih =>
  intro i s hk hi hl hd hp hR
  refine codeAny_builtin ve ?_
  rw [Around.under_plainId xa _]
  have W:=Walks.list (prog:=prog) (w:=w) (A:=A.in1) hh it l hli its.toArray
  show wpAny _ A.in1 (pyNext (.ref it) >>= _) _ _ s
  refine zaa (W.item i s _ _ (by simp; omega) ⟨hi,hl⟩ λv h' tk hv hst' hk'=>?_)
  have hv':its[i]?=some v:=by simpa using hv
  have him:i < more.length:=by omega
  obtain ⟨kx,ekx⟩:∃ kx,more[i]?=some kx:=⟨more[i],zaf him⟩
  have kt:∀ b o,s.heap.get? b=some o->o.cls=.type "tuple"->h'.get? b=some o:=λb o e hc=>hk' b o (λz=>by
   have:b=it:=by simpa using z
   subst this
   obtain ⟨o',ho',hc',_⟩:=hi
   rw [ho'] at e
   cases e
   rw [hc'] at hc
   exact absurd hc (by decide)) e
  have hd':h'.DictOfH (tkK prog w) d (more.take i):=t8 hd (λo e=>hk' d o (by simpa using hdi) e) kt
  have hp':∀ (j:Nat) v kx,its[j]?=some v->more[j]?=some kx->vt prog w h' v kx:=λj v kx h1 h2=>(hp j v kx h1 h2).keep kt
  obtain ⟨b,o,n,rfl,hb,hbc,hbd,hkey⟩:=hp' i v kx hv' ekx
  have hT:({ s with heap:=h',toks:=tk }:Shared).TypeIs (.ref b) "tuple":=⟨o,hb,hbc⟩
  refine zaa (wpAny_holding ?_)
  refine zaa (wpAny_tryCatch ?_)
  show wpAny _ A.in1 (typeOf (.ref b) >>= _) _ _ _
  refine zaa (wpAny_typeOf hT ?_)
  show wpAny _ A.in1 (seqItems? (.ref b) >>= _) _ _ _
  refine zaa (wpAny_seqItems hb hbd (zab ?_))
  show wpAny _ A.in1 (holding [.ref kx.2.1,kx.2.2] (dictSet d (.ref kx.2.1) kx.2.2)) _ _ _
  have hnew:kx.1 ∉ (more.take i).map (·.1):=by
   have e:more.take (i + 1)=more.take i ++ [kx]:=by rw [List.take_succ,ekx]; rfl
   have h4:((more.take (i + 1)).map (·.1)).Nodup:=hnd.sublist ((List.take_sublist _ _).map _)
   rw [e,zMa,List.nodup_append] at h4
   intro z
   exact h4.2.2 _ z kx.1 (by simp) rfl
  have hno:atKey (more.take i) kx.1=none:=by
   unfold atKey
   rw [List.find?_eq_none.mpr λy hy=>?_]
   ·rfl
   ·intro z
    exact hnew (zah.mpr ⟨y,hy,of_decide_eq_true z⟩)
  refine wpAny_holding (wpAny_dictSet_heap (knd:=tkK prog w) (hsz:=by rw [List.length_take]; omega) (show A.in1.units < cLine from Nat.lt_of_le_of_lt (Nat.le_succ _) hu) hkey hd' λh2 dd hs=>?_)
  rw [storedH_new hno,show more.take i ++ [(kx.1,kx.2.1,kx.2.2)]=more.take (i + 1) by rw [List.take_succ,ekx]; rfl] at dd
  refine zab ⟨plainId_quiet xa _,?_⟩
  have keep:∀ b o,b ≠ d->h'.get? b=some o->h2.get? b=some o:=λb o hb e=>(hs.2 b hb).trans e
  refine ih (i + 1) _ (by omega) ?_ ?_ dd ?_ λh3 tk3 d3 k3=>?_
  ·obtain ⟨o',ho',r'⟩:=hst'.1
   exact ⟨o',keep _ _ (Ne.symm hdi) ho',r'⟩
  ·obtain ⟨o',ho',r'⟩:=hst'.2
   exact ⟨o',keep _ _ (Ne.symm hdl) ho',r'⟩
  ·intro j v kx h1 h2'
   refine (hp' j v kx h1 h2').keep λb o e hc=>keep b o ?_ e
   intro z
   subst z
   obtain ⟨o',es,ep,ho',hc',_⟩:=hd'
   rw [ho'] at e
   cases e
   rw [hc'.1] at hc
   exact absurd hc (by decide)
  ·exact hR h3 tk3 d3 λb o h1 h2' e=>k3 b o h1 h2' (keep b o h1 (hk' b o (by simpa using h2') e))
def sr {E:Value->Shared->Prop} {l:Addr} {its:List Value} {more:List (List Key × Addr × Value)} {Q:Value->Shared->Prop} (hu:A.units + 8 < cLine) (hh:A.handled=none) (hl:PlainL s.heap l its.toArray) (hlen:its.length=more.length) (hnd:(more.map (·.1)).Nodup) (hsz:more.length <= sizeLine)
  (hp:∀ (j:Nat) v kx,its[j]?=some v->more[j]?=some kx->vt prog w s.heap v kx)
  (h:∀ h' tk,h'.DictOfH (tkK prog w) s.heap.objs.size more->(∀ b o,s.heap.get? b=some o->h'.get? b=some o)->Q (.ref s.heap.objs.size) { s with heap:=h',toks:=tk }) :
  wpAny (model prog w) A (call (.type "dict") [.ref l]) Q E s:=by
 refine callType_codes (Q₁:=λobj s₁=>obj=.ref s.heap.objs.size /\ s₁={ s with heap:=s.heap.push { cls:=.type "dict", data:=.dict #[] } }) F.kt_called_dict (F.kt_typeCall_dict_1 _) F.entry_dict_init (kt_code_dict_new _ ⟨rfl,rfl⟩) ?_
 rintro obj s₁ ⟨rfl,rfl⟩
 have hnew:(s.heap.push { cls:=.type "dict", data:=.dict #[] }).DictOfH (tkK prog w) s.heap.objs.size []:=Heap.DictOfH.new s.heap
 have k1:∀ b o,s.heap.get? b=some o->(s.heap.push { cls:=.type "dict", data:=.dict #[] }).get? b=some o:=λb o e=>zac _ e
 have hl1:=hl.keeps k1
 have hls:l < s.heap.objs.size:=by obtain ⟨o,n,e,_⟩:=hl; exact zae e
 refine ⟨hnew.typeIs,F.args_dict_init_2 _ _,?_⟩
 unfold Builtin.«dict.__init__»
 refine zaa ?_
 unfold Builtin.Dict.selfAndRest
 refine zaa (wpAny_notOrdered_dict hnew.typeIs ?_)
 show wpAny _ _ (pure (s.heap.objs.size,[Value.ref l])) _ _ _
 refine zab ?_
 show wpAny _ _ (Builtin.Dict.updateFrom "dict.__init__" s.heap.objs.size (.ref l) [] .none) _ _ _
 unfold Builtin.Dict.updateFrom
 refine zaa (wpAny_typeOf hl1.isList.typeIs ?_)
 rw [if_pos (by decide)]
 refine zaa (So hl1 hh λh2 tk2 k2=>?_)
 rw [if_pos (by rfl)]
 refine zaa (wpAny_rule ?_)
 have hl2:=(hl1.keeps k2).isList
 have hlt:l < h2.objs.size:=by obtain ⟨o,e,_⟩:=hl2; exact zae e
 refine zaa (wpAny_pyIter_list hl2 ?_)
 have hdlt:s.heap.objs.size < h2.objs.size:=by
  obtain ⟨o,es,ep,ho,_⟩:=hnew
  exact zae (k2 _ _ ho)
 refine zab ⟨plainId_quiet xa _,?_⟩
 refine U6 (A:=A.in1) (show A.in1.units + 2 < cLine from ?_) hh s.heap.objs.size h2.objs.size l (Nat.ne_of_lt hdlt) (Nat.ne_of_gt hls) (Nat.ne_of_lt hlt) its more hlen hnd hsz its.length 0 _ (by omega) ?_ ?_ ?_ ?_ λh3 tk3 d3 k3=>?_
 ·show A.units + 1 + 2 < cLine
  omega
 ·exact ⟨_,zad _ rfl,rfl,rfl⟩
 ·exact hl2.push _
 ·exact t8 hnew (λo e=>zac _ (k2 _ _ e)) λb o e _=>zac _ (k2 _ _ e)
 ·intro j v kx h1 h2'
  exact (hp j v kx h1 h2').keep λb o e _=>zac _ (k2 _ _ (k1 _ _ e))
 ·refine ⟨rfl,h h3 tk3 d3 λb o e=>k3 b o ?_ ?_ (zac _ (k2 _ _ (k1 _ _ e)))⟩
  ·exact Nat.ne_of_lt (zae e)
  ·exact Nat.ne_of_lt (Nat.lt_trans (zae e) hdlt)
end
section
variable {X:Cx}
abbrev Mg (K:W.Frag) (H:Hp):List V->List (List Int × Int)->Prop:=Paired λv q=>∃ b c,v=.ref b /\ SqT K H b [.ref c,.int q.2] /\ H c=some (.tup ((q.1.map Sum.inl).map kV))
def Xi (hu:X.A.units + 64 < cLine) (hc:X.calm=true):wg X (.type "dict") (λxs H Q=>∃ a ps rs,xs=[.ref a] /\ SqL X.K H a ps /\ Mg X.K H ps rs /\ (rs.map Prod.fst).Nodup /\ ∀ p,H p=none->Q (.ref p) (upd H p (.dT (DL.dzV rs)))):=by
 intro pn s σ H xs us Q I r h
 obtain ⟨a,ps,rs,rfl,ha,hp,hn,q⟩:=h
 obtain ⟨u,rfl,ru⟩:=vv r
 cases ru
 obtain ⟨its,rv,pl,hz⟩:=I.list ha
 have hlen:ps.length=rs.length:=hp.length
 have hli:=rv.length
 have ex:∃ more:List (List Key × Addr × Value),Paired (λ(p:List Key × V) (q:List Key × Addr × Value)=>p.1=q.1 /\ H q.2.1=some (.tup (p.1.map kV)) /\ RelV p.2 q.2.2) (DL.dzV rs) more /\ ∀ (j:Nat) v kx,its[j]?=some v->more[j]?=some kx->vt X.prog X.w s.heap v kx:=by
  clear hn q hz pl hlen hli ha
  induction rv generalizing rs with
  | nil=>cases hp; exact ⟨[],.nil,λj v kx e=>by simp at e⟩
  | cons r1 r2 ih =>
   cases hp with
   | @cons _ q0 _ _ h t =>
    obtain ⟨more,k1,k2⟩:=ih _ t
    obtain ⟨b,c,rfl,sq,hc⟩:=h
    cases r1
    obtain ⟨ts,rt,⟨o,e1,e2,n,e3⟩,_⟩:=I.tuple sq
    cases rt with
    | cons t1 rt =>
     cases rt with
     | cons t2 rt =>
      cases rt
      cases t1
      rename_i x
      refine ⟨(q0.1.map Sum.inl,c,x) :: more,.cons ⟨rfl,hc,t2⟩ k1,λj v kx h1 h2=>?_⟩
      cases j with
      | zero =>
       simp at h1 h2
       subst h1 h2
       exact ⟨b,o,n,rfl,e1,e2,by simpa using e3,uc I.hok hc⟩
      | succ j=>exact k2 j v kx (by simpa using h1) (by simpa using h2)
 obtain ⟨more,k1,k2⟩:=ex
 have lm:more.length=rs.length:=by rw [<- k1.length]; unfold DL.dzV; rw [zLm]
 have hnd:(more.map (·.1)).Nodup:=by
  have gen:∀ {l:List (List Key × V)} {m:List (List Key × Addr × Value)},Paired (λ(p:List Key × V) (q:List Key × Addr × Value)=>p.1=q.1 /\ H q.2.1=some (.tup (p.1.map kV)) /\ RelV p.2 q.2.2) l m->m.map (·.1)=l.map (·.1):=by
   intro l m t
   induction t with
   | nil=>rfl
   | cons h t ih=>rw [List.map_cons,List.map_cons,ih,h.1]
  have:more.map (·.1)=(DL.dzV rs).map (·.1):=gen k1
  rw [this]
  unfold DL.dzV
  rw [List.map_map,show ((λx:List Key × V=>x.1) ∘ λp:List Int × Int=>(p.1.map Sum.inl,V.int p.2))=(List.map Sum.inl) ∘ Prod.fst from rfl,<- List.map_map]
  exact List.pairwise_map.mpr (hn.imp λh e=>h (DL.kinl.mp e))
 refine sr (by omega) (I.ok.hd hc) pl (by rw [lm,<- hlen,hli]) hnd (by rw [lm,<- hlen]; exact hz) k2 λh' tk dd kp=>?_
 obtain ⟨qo,es,ep,hq,h2,h3,h4,_,h5⟩:=dd
 have hn0:=I.hok.fresh (zaj s.heap.objs.size)
 refine ⟨.ref s.heap.objs.size,_,I.laid (t':=tk) (o:=.dT (DL.dzV rs)) kp (zaj _) ?_,rfl,q _ hn0⟩
 refine ⟨by unfold DL.dzV; rw [zLm,<- hlen]; exact hz,beq_eq_false_iff_ne.mpr (Ne.symm (Nat.ne_of_lt I.big)),more,Paired.mapP k1 λp q z=>⟨z.1,?_,z.2.2⟩,qo,es,ep,hq,h2,h3,h4,h5⟩
 rw [zg (zb z.2.1 hn0)]
 exact z.2.1
end
end L2
namespace L3
open PySem PySem.Spec PySem.W L2
open PyProof.Rows hiding St
section
variable {X:Cx} {pn:List (Addr × Obj)} {σ:St} {H:Hp} {s:Shared} {a:Addr} {ob:Obj} {xs:List V}
def Inv.freezeL (I:Inv X pn σ H s) (e:H a=some (.lst xs)) (h:s.heap.get? a=some ob):Inv X pn σ (upd H a (.frz ob (.lst xs))) s:=by
 have q:=I.hok a _ e
 exact I.write (t':=s.toks) (h':=s.heap) (x:=a) (e:=a) (o:=.frz ob (.lst xs)) (by rw [e]; exact True.intro) (.inl rfl) (λ_ _ _ z=>z) ⟨ob,h⟩ ⟨h,q⟩
def K5 {e:Expr} {t:TE} (h:PE X e t):PE X e (λσ H Q=>t σ H λv H'=>∃ a xs,v=.ref a /\ H' a=some (.lst xs) /\ ∀ ob,Q v (upd H' a (.frz ob (.lst xs)))):=by
 intro pn s σ H Q I q
 refine thn (h pn s σ H _ I q) λu s1 ⟨v,H1,I1,r,a,xs,ev,ha,q1⟩=>?_
 obtain ⟨z,its,n,rr,g⟩:=(show yf X.prog X.w H1 s1.heap a (.lst xs) from I1.hok a _ ha)
 exact ⟨v,_,Inv.freezeL I1 ha g,r,q1 _⟩
end
end L3
namespace DL
open PySem PySem.Spec L2 L3
open PyProof.Rows hiding St
variable {Γ:Hp->Prop}
section
variable {X:Cx} {e:Expr} {es:List Expr} {te:TD} {t:TDs} {p pos:Pos}
def dFzL (te:TD):TD:=λρ φ=>te ρ λr=>∃ ns:List Int,r=df (.lst (ns.map D.int)) /\ φ (dv (.scr ns))
def Rl (he:ED Γ X e te):ED Γ X e (dFzL te):=λH₀=>impE (K5 (he H₀)) λσ H Q q=>by
 obtain ⟨ρ,oo,R,φ,hφ,k⟩:=q
 refine ⟨ρ,oo,R,_,hφ,λv r H1 s1 rv h1=>?_⟩
 obtain ⟨ns,rfl,h1⟩:=h1
 obtain ⟨a,rfl,m,n,xs,g,rr⟩:=rv
 have ex:=yy rr
 subst ex
 refine ⟨a,_,rfl,g,λob=>k _ (dv (.scr ns)) _ ?_ ⟨a,rfl,.inl ⟨ob,zh⟩⟩ h1⟩
 intro b u hb
 rw [zg (zb hb m)]
 exact s1 _ _ hb
def sDictPT:FT:=λxs φ=>match xs with
 | [.lst l]=>∃ rs:RW,l=rs.map prD /\ (rs.map Prod.fst).Nodup /\ φ (df (dtI rs))
 | _=>False
def qg {K:W.Frag} {H:Hp} {O:List Addr}:∀ (rs:RW) (ps:List V),Reps K H O (rs.map prD) ps->Mg K H ps rs
 | [],ps,h=>by cases (show ps=[] from h); exact .nil
 | q :: rs,ps,h=>by
  obtain ⟨v,ws,rfl,⟨a,zs,rfl,sq,r⟩,hr⟩:=h
  obtain ⟨v1,w1,rfl,r1,v2,w2,rfl,r2,rfl⟩:=r
  obtain ⟨c,rfl,hc⟩:=Sz (Rep.view r1)
  cases (show v2=V.int q.2 from r2)
  exact .cons ⟨a,c,rfl,sq.1,hc⟩ (qg rs ws hr)
def Rm (hu:X.A.units + 64 < cLine) (hm:X.mg "dict" = none) (ha:EA Γ X (e :: es) t) (hc:X.calm=true:=by rfl) (hg:Gl X "dict":=by rfl) (he:starEach (e :: es) X.env=(false,eval e X.env) :: starEach es X.env:=by rfl) (hpl:(backTo pos (starEach es X.env)).any (·.1)=false:=by rfl):ED Γ X (.Call (.Name "dict" p) (e :: es) [] pos) (dCB sDictPT t) :=
 uk (Xi hu hc) (λH O ds vs φ Q ho hv h k=>by
  unfold sDictPT at h
  split at h
  ·obtain ⟨rs,rfl,nd,h⟩:=h
   obtain ⟨v,ws,rfl,⟨a,xs,rfl,q,r⟩,rfl⟩:=hv
   refine ⟨a,xs,rs,rfl,SqL.of q,qg rs xs r,nd,λp hp=>k _ (df (dtI rs)) _ (zr hp _) ⟨p,rfl,hp,ho p hp,(rs.map Prod.snd).map V.int,?_,by simp,?_,?_⟩ h⟩
   ·rw [U4]; exact zh
   ·rw [show (rs.map λq=>q.1.map (Sum.inl:Int->Key))=(rs.map Prod.fst).map (List.map Sum.inl) from by rw [List.map_map]; rfl]
    exact List.pairwise_map.mpr (nd.imp λh e=>h (kinl.mp e))
   ·rw [show (rs.map λq=>D.int q.2)=(rs.map Prod.snd).map D.int from by rw [List.map_map]; rfl]
    exact Reps.ints _
  ·exact h.elim) hm Vy ha hg (by decide) (by decide) he hpl
end
end DL
namespace L2
open PySem PySem.Spec PyProof.Rows
section
variable {prog:Program} {w:World} {A:Around} {E:Value->Shared->Prop} {s:Shared} {l:Addr} {xs:Array (Int × Tok)}
def S8 {d:Value} {Q:Value->Shared->Prop} (hh:A.handled=none) (hl:s.heap.IsTuple l (intItems xs))
  (h:∀ v h' tk,(if xs.size=0 then v=d else (intItems xs)[argBest (λi j=>decide (numAt xs i > numAt xs j)) (xs.size - 1)]?=some v)->(∀ b o,s.heap.get? b=some o->h'.get? b=some o)->Q v { s with heap:=h',toks:=tk }) :
  wpAny (model prog w) A (call (.builtin "max") [.ref l] [(Str.ofString "default", d)]) Q E s:=by
 refine kmb_tree F.kind_max F.plain_max F.entry_max (Nr _ _) ?_
 show wpAny _ A.in1 (Builtin.Builtins.bindParams "max" ["key", "default"] 0 ⟨[],[(Str.ofString "default", d)]⟩ >>= _) _ _ s
 refine zaa (wpAny_of_eq (show Builtin.Builtins.bindParams "max" ["key", "default"] 0 ⟨[],[(Str.ofString "default", d)]⟩=pure [none,some d] from rfl) ?_)
 refine zaa (zab ?_)
 have hlt:l < s.heap.objs.size:=by obtain ⟨_,e,_⟩:=hl; exact zae e
 have hlI:l ≠ s.heap.objs.size:=Nat.ne_of_lt hlt
 refine zaa (wpAny_pyIter_tuple hl ?_)
 have st:(s.heap.push { cls:=.type "tuple_iterator", data:=.fields #[.ref l,.int 0 0] }).IsTupleIter s.heap.objs.size l 0 /\ (s.heap.push { cls:=.type "tuple_iterator", data:=.fields #[.ref l,.int 0 0] }).IsTuple l (intItems xs):=⟨⟨_,zad _ rfl,rfl,rfl⟩,hl.push _⟩
 have hfp:∀ b ∈ [s.heap.objs.size,l],b < (s.heap.push { cls:=.type "tuple_iterator", data:=.fields #[.ref l,.int 0 0] }).objs.size:=λb hb=>by
  rw [Heap.size_push]
  rcases zam.mp hb with rfl | hb
  ·exact Nat.lt_succ_self _
  ·rcases zam.mp hb with rfl | hb
   ·exact Nat.lt_succ_of_lt hlt
   ·cases hb
 refine zaa (wpAny_newObj_type ?_)
 rw [u7]
 have W:=Walks.tuple (prog:=prog) (w:=w) (A:=A.in1) hh s.heap.objs.size l hlI (intItems xs)
 have hSf:(s.heap.push { cls:=.type "tuple_iterator", data:=.fields #[.ref l,.int 0 0] }).objs.size ∉ [s.heap.objs.size,l]:=λhm=>Nat.lt_irrefl _ (hfp _ hm)
 refine zab ⟨plainId_quiet F.plain_max_loop _,cy W _ (CmpOf.ints_gt (numAt xs) (λ_ _=>intItems_at)) _ hSf (W.frame _ _ _ st λb _ o z=>zac _ z) (zad _ rfl) λv h' tk hP hk=>?_⟩
 refine h v h' tk (by simpa [intItems] using hP) λb o z=>hk b o ?_ ?_ (zac _ (zac _ z))
 ·have hlt:=zae z
  intro hm
  have e:b=s.heap.objs.size:=by simpa using hm
  rw [e] at hlt
  exact Nat.lt_irrefl _ hlt
 ·have hlt:=zae z
  rw [size_push']
  exact Nat.ne_of_lt (Nat.lt_succ_of_lt hlt)
end
section
variable {X:Cx}
def Hj (K:W.Frag) (te td:TE):TE:=λσ H Q=>te σ H λz H1=>∃ x,[z]=[x] /\ td σ H1 λy H2=>∃ (p:Addr) (ns:List Int) (d:Int),x=.ref p /\ y=.int d /\ SqT K H2 p (ns.map V.int) /\ Q (.int (maxI d ns)) H2
def Pf {e de:Expr} {te td:TE} {p kp pos:Pos} (hc:X.calm=true) (hg:Gl X "max") (hm:X.mg "max" = none) (he:PE X e te) (hd:PE X de td)
  (hs:starEach [e] X.env=(false,eval e X.env) :: starEach [] X.env:=by rfl)
  (hb:backTo pos (starEach [e] X.env)=(false,eval e X.env) :: backTo pos (starEach [] X.env):=by rfl) (hpl:(backTo pos (starEach [e] X.env)).any (·.1)=false:=by rfl)
  (hall:(backToKw pos (keywordEach [⟨some (Str.ofString "default"),de,kp⟩] X.env)).all (·.1.isSome)=true:=by rfl) (hkw:(backToKw pos (keywordEach [⟨some (Str.ofString "default"),de,kp⟩] X.env)).any (·.1.isNone)=false:=by rfl)
  (hz:∀ v:Value,((backToKw pos (keywordEach [⟨some (Str.ofString "default"),de,kp⟩] X.env)).filterMap (·.1)).zip [v]=[(Str.ofString "default", v)]:=by intro _; rfl) :
  PE X (.Call (.Name "max" p) [e] [⟨some (Str.ofString "default"),de,kp⟩] pos) (Hj X.K te td):=by
 intro pn s σ H Q I h
 refine wpAny_Call_Name_kw (ua I hg hm (show bootBuiltins "max" = some (.builtin "max") by kernel_rfl) ?_ (by decide) (by decide))
 refine callWith_kw ?_ hb hpl hall hkw
 have hA:=xx he tm hs pos pn s σ H (λvs H1=>∃ x,vs=[x] /\ td σ H1 λy H2=>∃ (p:Addr) (ns:List Int) (d:Int),x=.ref p /\ y=.int d /\ SqT X.K H2 p (ns.map V.int) /\ Q (.int (maxI d ns)) H2) I
  h
 refine thn hA λus s1 hq=>?_
 obtain ⟨vs,H1,I1,rv,x,rfl,q1⟩:=hq
 obtain ⟨u,rfl,ru⟩:=vv rv
 refine kws_cons (thn (hd pn s1 σ H1 _ I1 q1) λv s2 hq2=>kws_nil ?_)
 obtain ⟨y,H2,I2,ry,a,ns,d,rfl,rfl,hq,q⟩:=hq2
 rw [hz]
 cases ru
 obtain ⟨t,rfl⟩:=ry
 obtain ⟨its,rv2,pl,hz2⟩:=I2.tuple hq
 obtain ⟨xs,e1,e2⟩:=DL.ints_of rv2
 have hl:s2.heap.IsTuple a (intItems xs.toArray):=by
  have:=pl
  rw [e1] at this
  unfold intItems
  obtain ⟨o,g1,g2,n,g3⟩:=this
  exact ⟨o,g1,g2,n,by simpa using g3⟩
 refine S8 (I2.ok.hd hc) hl λv h' tk hv hk=>?_
 by_cases hp:xs.toArray.size=0
 ·rw [if_pos hp] at hv
  subst hv
  have:xs=[]:=by simpa using hp
  subst this
  have en:ns=[]:=e2.symm
  subst en
  exact ⟨.int d,H2,I2.kept (t':=tk) hk,⟨t,rfl⟩,q⟩
 ·rw [if_neg hp] at hv
  obtain ⟨t',rfl⟩:=Wy (d:=d) e2 hp hv
  exact ⟨.int (maxI d ns),H2,I2.kept (t':=tk) hk,⟨t',rfl⟩,q⟩
end
end L2
namespace DL
open PySem PySem.Spec L2 L3
open PyProof.Rows hiding St
variable {Γ:Hp->Prop}
section
variable {X:Cx} {e de:Expr} {es:List Expr} {t:TDs} {te td:TD} {p kp pos:Pos}
def Ma (te td:TD):TD:=λρ φ=>te ρ λr=>td ρ λr2=>match r.d,r2.d with
 | .tup l,.int d=>(match vc l with
  | some ns=>φ (dv (.int (maxI d ns)))
  | none=>False)
 | _,_=>False
def Oo (hm:X.mg "max" = none) (he:ED Γ X e te) (hd:ED Γ X de td) (hc:X.calm=true:=by rfl) (hg:Gl X "max":=by rfl) (hs:starEach [e] X.env=(false,eval e X.env) :: starEach [] X.env:=by rfl)
  (hb:backTo pos (starEach [e] X.env)=(false,eval e X.env) :: backTo pos (starEach [] X.env):=by rfl) (hpl:(backTo pos (starEach [e] X.env)).any (·.1)=false:=by rfl)
  (hall:(backToKw pos (keywordEach [⟨some (Str.ofString "default"),de,kp⟩] X.env)).all (·.1.isSome)=true:=by rfl) (hkw:(backToKw pos (keywordEach [⟨some (Str.ofString "default"),de,kp⟩] X.env)).any (·.1.isNone)=false:=by rfl)
  (hz:∀ v:Value,((backToKw pos (keywordEach [⟨some (Str.ofString "default"),de,kp⟩] X.env)).filterMap (·.1)).zip [v]=[(Str.ofString "default", v)]:=by intro _; rfl) :
  ED Γ X (.Call (.Name "max" p) [e] [⟨some (Str.ofString "default"),de,kp⟩] pos) (Ma te td):=λH₀=>impE (Pf hc hg hm (he H₀) (hd H₀) hs hb hpl hall hkw hz) λσ H Q q=>by
 obtain ⟨ρ,o,R,φ,hφ,k⟩:=q
 refine ⟨ρ,o,R,_,hφ,λv r H1 s1 rv h1=>⟨v,rfl,ρ,o,R.to s1,_,h1,λv2 r2 H2 s2 rv2 h2=>?_⟩⟩
 have w1:=(rv.same s2).view
 have w2:=rv2.view
 obtain ⟨k1,d1⟩:=r
 obtain ⟨k2,d2⟩:=r2
 cases d1 with
 | tup l =>
  cases d2 with
  | int d =>
   dsimp only at h2
   split at h2
   ·rename_i ns en
    obtain ⟨a,xs,rfl,q,r⟩:=w1
    cases (show v2=_ from w2)
    have el:=rj en
    subst el
    have:=u6 r
    subst this
    exact ⟨a,ns,d,rfl,rfl,q.1,k _ _ H2 (s1.trans s2) (by exact rfl) h2⟩
   ·exact h2.elim
  | _=>exact h2.elim
 | _=>exact h2.elim
end
section
variable {X:Cx} {e:Expr} {te:TD} {pos:Pos}
def Uz (i:Nat) (te:TD):TDS:=λρ Z=>match slot ρ i with
 | some ⟨.own,.lst ds⟩=>te ρ λr=>∃ gs,r=df (.lst gs) /\ gs.length <= 1000 /\ ds.length <= 100000 /\ Z.nx (setS ρ i (dO (.lst (ds ++ gs))))
 | _=>False
def Le (i:Nat) {x:Str} {np apos cpos:Pos} (he:ED Γ X e te) (hi:X.N[i]?=some x:=by rfl) (hv:Vis X.env.scope x:=by first | exact Or.inl rfl | exact Or.inr (Or.inl rfl) | exact Or.inr (Or.inr rfl))
  (hd:(x == ("__debug__" : Str))=false:=by decide) (hcd:(x == ("__classdict__" : Str))=false:=by decide)
  (hp:∀ {ta tb:TE},PE X (.Name x np) ta->PE X e tb->PS X (.Expr (.Call (.Attribute (.Name x np) "extend" apos) [e] [] cpos) pos)
    (Qp (tBM X.K "list" T7 ta (Ug tb tNil))):=by
   intro ta tb h1 h2
   exact gf (Pj PySem.F.plainAttrs_list PySem.F.slot_list_extend PySem.F.type_list_extend S7 h1 (xx h2 tm))) :
  SD Γ X (.Expr (.Call (.Attribute (.Name x np) "extend" apos) [e] [] cpos) pos) (Uz i te):=λH₀=>impS (hp (wa hi hv hd hcd) (he H₀)) λD σ H h=>by
 obtain ⟨ρ,o,R,Z,hZ,k1,k2,k3,k4⟩:=h
 unfold Uz at hZ
 split at hZ
 ·rename_i ds es'
  obtain ⟨v0,ev0,q0⟩:=R.slots i _ (yi es')
  rcases q0 with ⟨k,_⟩ | ⟨_,a,rfl,m,c⟩
  ·cases k
  obtain ⟨xs,hx,rx⟩:=c
  refine ⟨.ref a,ev0,.inl ⟨rfl,xs,SqL.of hx⟩,?_⟩
  refine ⟨ρ,o,R,_,hZ,λv r H1 s1 rv h1=>?_⟩
  obtain ⟨gs,rfl,hle,hl,hn⟩:=h1
  obtain ⟨p,rfl,mp,np,ys,hy,ry⟩:=rv
  have R1:=R.to s1
  have rx1:=Reps.grow (Grow.same s1) _ _ rx
  refine ⟨a,p,xs,ys,rfl,rfl,s1 _ _ hx,hy,?_,?_⟩
  ·rw [rx.length,ry.length]
   exact zak (Nat.add_le_add hl hle) (by decide)
  ·obtain ⟨R2,g2⟩:=R1.chg (d':=.lst (ds ++ gs)) (ho:=.lst (xs ++ ys)) (yi es') ev0 m ⟨λ_ z=>(by cases z),λ_ _ z=>(by cases z)⟩ λgr=>⟨xs ++ ys,zh,gr _ _ (rx1.append (Reps.sub (λb hb=>zal _ hb) _ _ ry))⟩
   exact k1 _ σ _ o ((Grow.same s1).trans g2) R2 hn
 ·exact hZ.elim
end
section
variable {X:Cx} {e:Expr} {es:List Expr} {t:TDs} {p pos:Pos}
def sMax2:FT:=λds φ=>match ds with
 | [.int i,.int j]=>φ (dv (.int (if j > i then j else i)))
 | _=>False
def Jf (hm:X.mg "max" = none) (ha:EA Γ X (e :: es) t) (hc:X.calm=true:=by rfl) (hg:Gl X "max":=by rfl) (he:starEach (e :: es) X.env=(false,eval e X.env) :: starEach es X.env:=by rfl) (hpl:(backTo pos (starEach es X.env)).any (·.1)=false:=by rfl):ED Γ X (.Call (.Name "max" p) (e :: es) [] pos) (dCB sMax2 t) :=
 wl (Q3 hc) (λH O ds vs φ Q ho hv h k=>by
  unfold sMax2 at h
  split at h
  ·obtain ⟨v,ws,rfl,h1,v2,ws2,rfl,h2,rfl⟩:=hv
   cases (show v=_ from h1)
   cases (show v2=_ from h2)
   exact ⟨_,_,rfl,k _ _ H (Same.refl H) (by exact rfl) h⟩
  ·exact h.elim) hm (by rfl) ha hg (by decide) (by decide) he hpl
end
def REnv.move {K:W.Frag} {H₀ H:Hp} {σ:St} {ρ:DE} {o:List (Nat × Addr)} (R:REnv K H₀ H σ ρ o) {i j:Nat} {a:Addr} {d:D} (hij:i ≠ j) (hm:(j,a) ∈ o) (c:Con K H (o.map Prod.snd) d a) :
  ∃ o',o'.map Prod.snd=o.map Prod.snd /\ REnv K H₀ H (σ.set i (some (.ref a))) (setS (clrS ρ j) i (dO d)) o':=by
 have es:(o.map λp=>if p.2=a then (i,p.2) else p).map Prod.snd=o.map Prod.snd:=by
  rw [List.map_map]
  exact List.map_congr_left λp _=>by show Prod.snd (if p.2=a then (i,p.2) else p)=_; split <;> rfl
 have om:∀ p ∈ (o.map λp=>if p.2=a then (i,p.2) else p),∃ q ∈ o,q.2=p.2:=λp hp=>by
  obtain ⟨q,hq,rfl⟩:=zah.mp hp
  exact ⟨q,hq,by split <;> rfl⟩
 have un:∀ k,(k,a) ∈ o->k=j:=λk hk=>by
  have nd:=R.nda
  have:∀ (l:List (Nat × Addr)),(l.map Prod.snd).Nodup->(k,a) ∈ l->(j,a) ∈ l->k=j:=by
   intro l
   induction l with
   | nil=>intro _ z; simp at z
   | cons p l ih =>
    intro n h1 h2
    rw [List.map_cons,List.nodup_cons] at n
    rcases zam.mp h1 with e1 | h1 <;> rcases zam.mp h2 with e2 | h2
    ·rw [<- e1] at e2; exact (Prod.mk.inj e2).1.symm
    ·exact absurd (zah.mpr ⟨_,h2,rfl⟩) (by rw [<- e1] at n; exact n.1)
    ·exact absurd (zah.mpr ⟨_,h1,rfl⟩) (by rw [<- e2] at n; exact n.1)
    ·exact ih n.2 h1 h2
  exact this o nd hk hm
 refine ⟨_,es,⟨R.same,λp hp=>?_,λp hp=>?_,λp hp=>?_,by rw [es]; exact R.nda,λk r hr=>?_,?_⟩⟩
 ·obtain ⟨q,hq,e⟩:=om p hp; rw [<- e]; exact R.fresh q hq
 ·obtain ⟨q,hq,e⟩:=om p hp; rw [<- e]; exact R.trk q hq
 ·obtain ⟨q,hq,e⟩:=om p hp; rw [<- e]; exact R.mtb q hq
 ·rw [es]
  rw [xq,Xg] at hr
  by_cases hk:k=i
  ·subst hk
   have hl:k < (ρ.set j none).length:=by
    rcases Nat.lt_or_ge k (ρ.set j none).length with z | z
    ·exact z
    ·rw [List.getElem?_eq_none (by rw [List.length_set]; exact z)] at hr
     cases hr
   rw [List.getElem?_set_self hl] at hr
   cases hr
   rw [List.length_set] at hl
   exact ⟨.ref a,List.getElem?_set_self (by rw [R.len]; exact hl),.inr ⟨rfl,a,rfl,zah.mpr ⟨_,hm,by rw [if_pos rfl]⟩,c⟩⟩
  ·rw [List.getElem?_set_ne (Ne.symm hk)] at hr
   by_cases kj:k=j
   ·subst kj
    rw [List.getElem?_set] at hr
    split at hr
    ·split at hr <;> cases hr
    ·rename_i z; exact absurd rfl z
   rw [List.getElem?_set_ne (Ne.symm kj)] at hr
   obtain ⟨w,ew,q⟩:=R.slots k r hr
   refine ⟨w,by rw [List.getElem?_set_ne (Ne.symm hk)]; exact ew,q.imp id λ⟨q1,b,q2,q3,q4⟩=>⟨q1,b,q2,zah.mpr ⟨_,q3,?_⟩,q4⟩⟩
   rw [if_neg]
   exact λz=>kj (un k (by rw [<- show b=a from z]; exact q3))
 ·rw [xq,Xg,List.length_set,List.length_set,List.length_set]; exact R.len
section
variable {X:Cx} {pos:Pos}
def Lh (i j:Nat):TDS:=λρ Z=>match slot ρ j with
 | some ⟨.own,.lst ds⟩=>Z.nx (setS (clrS ρ j) i (dO (.lst ds)))
 | _=>False
def Ld (i j:Nat) (hij:i ≠ j) {x y:Str} {pos' np:Pos} (hN:X.N.Nodup) (hi:X.N[i]?=some x:=by rfl) (hj:X.N[j]?=some y:=by rfl) (hv:Vis X.env.scope y:=by first | exact Or.inl rfl | exact Or.inr (Or.inl rfl) | exact Or.inr (Or.inr rfl))
  (hd:(y == ("__debug__" : Str))=false:=by decide) (hcd:(y == ("__classdict__" : Str))=false:=by decide) (hx:Loc X.env.scope x:=by first | exact Or.inl rfl | exact Or.inr rfl) (hs:swapsWith (.Name y np) (some (.Name x pos')) pos.line X.env=pure false:=by rfl)
  (hf:X.fn x=true \/ X.env.scope.names.lookup x=some .local:=by first | exact .inl rfl | exact .inr rfl | assumption):SD Γ X (.Assign [.Name x pos'] (.Name y np) pos) (Lh i j):=λH₀=>impS (Tc hN hi hx (wa hj hv hd hcd) hs hf) λD σ H h=>by
 obtain ⟨ρ,o,R,Z,hZ,k1,k2,k3,k4⟩:=h
 unfold Lh at hZ
 split at hZ
 ·rename_i ds es'
  obtain ⟨v0,ev0,q0⟩:=R.slots j _ (yi es')
  rcases q0 with ⟨k,_⟩ | ⟨_,a,rfl,m,c⟩
  ·cases k
  obtain ⟨o',eo,R'⟩:=R.move hij m c
  exact ⟨.ref a,ev0,k1 _ _ H o' (by rw [eo]; exact Grow.refl) R' hZ⟩
 ·exact hZ.elim
end
end DL
namespace L3
open PySem PySem.Spec L2
open PyProof.Rows hiding St
section
variable {X:Cx} {pn:List (Addr × Obj)} {σ:St} {H2:Hp} {s2:Shared} {scope:Scope} {T F:List Str} {cl:List (Str × Addr)} {fp:List Addr} {js:List Nat} {tg iter elt:Expr} {ifs:List Expr} {pos:Pos}
 {g:TG} {tc:TT} {te:TE} {J:It} {it:Addr} {tn:Nat->Heap->Prop} {E:Value->Shared->Prop} {RR:Value->Addr->Result->Shared->Prop} {xn:Str}
end
end L3
namespace L2
open PySem PySem.Spec PyProof.Rows
def Qn (l:Addr) (its:Array Value) (n:Nat) (dd:Option Addr) (sl:Array (Option Value)) (t:Tok) (h0:its.isEmpty=false) :
  Meets (Builtin.«tuple.__mul__» ⟨[.ref l,.int 0 t],[]⟩) (λ_ R s=>s.heap.get? l=some { cls:=.type "tuple", dict:=dd,data:=.seq its n,slots:=sl } /\ R (.ok (.ret (.ref s.heap.objs.size))) { s with heap:=s.heap.push { cls:=.type "tuple", data:=.seq #[] } }) :=
 .of_wp λprog w A R s h=>by
  obtain ⟨hp,g,d,tk,os⟩:=s
  obtain ⟨hl,h⟩:=h
  wp_walk
  exact ⟨_,rfl,h⟩
section
variable {X:Cx}
def Ga (K:W.Frag):R2:=λx y H Q=>∃ l xs,x=.ref l /\ y=.int 0 /\ SqT K H l xs /\ xs ≠ [] /\ ∀ p,H p=none->Q (.ref p) (upd H p (.tup []))
def Pl:OpR X (binaryOp .Mult) (Ga X.K):=by
 intro pn s σ H x y v u Q I rx ry h
 obtain ⟨l,xs,rfl,rfl,hH,hne,q2⟩:=h
 cases rx
 obtain ⟨t,rfl⟩:=ry
 obtain ⟨its,r,p1,_⟩:=I.tuple hH
 obtain ⟨⟨cls,dd,data,sl⟩,e,hc,n,hd⟩:=p1
 cases hc
 cases hd
 have hne':its.toArray.isEmpty=false:=by
  cases its with
  | nil=>exact absurd (r.nil_iff.mp rfl) hne
  | cons a b=>rfl
 refine wpAny_binaryOp_repeat_ref (T:="tuple") (U:="int") (by decide) ⟨_,e,rfl⟩ (λs'=>typeIs_int s' 0 t) wq F.fills_int_mul F.slot_int_rmul t9 F.slot_int_index.lookup
  (call_meets F.slot_int_rmul (typeIs_int s 0 t) F.entry_int_rmul (F.args_int_rmul_2 _ _) (tu 0 t l its.toArray n dd sl) ⟨e,rfl,⟨_,e,rfl⟩,?_⟩)
 refine call_meets F.slot_tuple_mul ⟨_,e,rfl⟩ F.entry_tuple_mul (F.args_tuple_mul_2 _ _) (Qn l its.toArray n dd sl t hne') ⟨e,?_⟩
 refine ⟨.ref s.heap.objs.size,_,I.laid (t':=s.toks) (o:=.tup []) (λb ob q=>zac _ q) (zaj _) ?_,rfl,q2 _ (I.hok.fresh (zaj _))⟩
 exact ⟨Nat.zero_le _,_,.nil,IsTup.new _ _,_,zad _ rfl,rfl⟩
end
end L2
namespace DL
open PySem PySem.Spec L2 L3
open PyProof.Rows hiding St
variable {Γ:Hp->Prop}
section
variable {X:Cx} {a b:Expr} {ta tb:TD} {pos:Pos}
def D5:D->D->(EV->Prop)->Prop:=λx y φ=>∃ (ns:List Int) (k:Nat),x=ikD ns /\ y=.int k /\ ns ≠ [] /\ ns.length * k <= sizeLine /\ φ (dv (ikD (List.replicate k ns).flatten))
def Rh (ha:ED Γ X a ta) (hb:ED Γ X b tb):ED Γ X (.BinOp a .Mult b pos) (d2 D5 ta tb):=qy (K9.or Pl) (λH O x y vx vy φ Q ho hx hy h k=>by
 obtain ⟨ns,m,rfl,rfl,hne,hz,h⟩:=h
 obtain ⟨c,xs,rfl,q,r⟩:=hx
 cases (show vy=V.int m from hy)
 have ex:=yy r
 subst ex
 by_cases m0:m=0
 ·subst m0
  refine .inr ⟨c,_,rfl,rfl,q.1,by simpa using hne,λp hp=>?_⟩
  exact k _ _ _ (zr hp _) (qe hp (ds:=[]) rfl) h
 refine .inl ⟨c,m,_,rfl,rfl,q.1,by simpa using hne,by omega,by rw [zLm]; simpa using hz,λe=>?_,λe p hp=>?_⟩
 ·have:m=1:=by omega
  subst this
  refine k _ (dv (ikD (List.replicate 1 ns).flatten)) H (Same.refl H) ⟨c,_,rfl,q,?_⟩ h
  simpa using Reps.ints ns
 ·refine k _ _ _ (zr hp _) (qe hp (ds:=(List.replicate m ns).flatten.map D.int) ?_) h
  rw [show ((m:Int)).toNat=m from by simp]
  rw [show (List.replicate m (ns.map V.int)).flatten=(List.replicate m ns).flatten.map V.int from by rw [List.map_flatten,List.map_replicate]]
  exact Reps.ints _) ha hb
end
end DL
namespace L2
open PySem PySem.Spec PyProof.Rows
section
variable {P:Program} {w:World} {A:Around} {E:Value->Shared->Prop} {s:Shared}
def U0 (P:Program) (w:World) (s:Shared) (n:Nat) (b:Addr):Prop:=∀ (A:Around) (E:Value->Shared->Prop) (Q:Bool->Shared->Prop),Q true s->wpAny (model P w) A (eqIsQuiet n (.ref b)) Q E s
def Of {d a:Addr} {o:Obj} {es:Array DictEntry} {ep:Nat} {hsh:Int} {Q:Option Nat->Shared->Prop} (ho:s.heap.get? d=some o) (hd:o.data=.dict es ep) (hk:∀ e ∈ es,∃ b,e.key=.ref b /\ b ≠ a /\ U0 P w s 8 b)
  (hq:U0 P w s 8 a) (heq:∀ e ∈ es,∀ (E:Value->Shared->Prop) (Q:Bool->Shared->Prop),Q false s->wpAny (model P w) A (eqBool e.key (.ref a)) Q E s)
  (h:Q none s):wpAny (model P w) A (dictFind d (.ref a) hsh) Q E s:=by
 unfold dictFind
 try with_reducible refine wpAny_holding ?_
 refine zaa (wpAny_dictEntries ho hd ?_)
 dsimp only
 have hst:∀ v ∈ (placesWithHash es.size (λi=>es[i]?.map (·.hash)) hsh).filterMap (λi=>es[i]?.map (·.key)),∃ b,v=Value.ref b /\ b ≠ a /\ U0 P w s 8 b:=by
  intro v hv
  obtain ⟨i,_,hi⟩:=List.mem_filterMap.mp hv
  cases hei:es[i]? with
  | none=>rw [hei] at hi; cases hi
  | some e =>
   rw [hei] at hi
   obtain ⟨b,ek,hb⟩:=hk e (Array.mem_of_getElem? hei)
   have hi:some e.key=some v:=hi
   rw [ek] at hi
   cases hi
   exact ⟨_,rfl,hb⟩
 rw [if_neg (by simp [carriedByValue])]
 rw [if_neg (by
  rw [<- Array.any_toList,List.any_eq_true]
  rintro ⟨e,hin,hc⟩
  obtain ⟨b,ek,hb,_⟩:=hk e (Array.mem_toList_iff.mp hin)
  rw [ek] at hc
  rw [Bool.and_eq_true] at hc
  have:=eq_of_beq hc.1
  cases this
  exact hb rfl)]
 generalize (placesWithHash es.size (λi=>es[i]?.map (·.hash)) hsh)=places at *
 rw [if_neg (by
  intro z
  have z:=eq_of_beq z
  rw [z] at hst
  obtain ⟨b,e,hb,_⟩:=hst (.ref a) (by simp)
  cases e
  exact hb rfl)]
 have tell:∀ (E:Value->Shared->Prop) (Q:Bool->Shared->Prop),Q false s->wpAny (model P w) A (tableMayTell (.ref a) (places.filterMap (λi=>es[i]?.map (·.key)))) Q E s:=λE Q h=>by
  unfold tableMayTell
  split
  ·exact zab h
  ·refine zaa (hq _ _ _ ?_)
   simp only [Bool.not_true,Bool.false_eq_true,if_false]
   refine zaa ?_
   refine wpAny_forIn_list _ (λrest r s'=>s'=s /\ r=(none,()) /\ ∀ v ∈ rest,∃ b,v=Value.ref b /\ b ≠ a /\ U0 P w s 8 b) _ ?_ ?_ _ _ ⟨rfl,rfl,hst⟩
   ·rintro x rest r s' ⟨rfl,rfl,hr⟩
    obtain ⟨b,rfl,_,hb⟩:=hr x zao
    refine zaa (hb _ _ _ ?_)
    simp only [Bool.not_true,Bool.false_eq_true,if_false]
    exact zab ⟨rfl,rfl,λv hv=>hr v (zal _ hv)⟩
   ·rintro r s' ⟨rfl,rfl,_⟩
    exact zab h
 refine zaa (tell _ _ ?_)
 rw [if_neg (by simp)]
 refine zaa ?_
 refine wpAny_forIn_list _ (λ_ r s'=>s'=s /\ r=(none,none)) _ ?_ ?_ _ _ ⟨rfl,rfl⟩
 ·rintro i rest r s' ⟨rfl,rfl⟩
  dsimp only
  cases hei:es[i]? with
  | none=>exact zab ⟨rfl,rfl⟩
  | some e =>
   dsimp only
   split
   ·refine zaa (wpAny_dictEpoch ho hd (zaa (heq e (Array.mem_of_getElem? hei) _ _ (zaa (wpAny_dictEpoch ho hd ?_)))))
    show wpAny _ _ (if (ep != ep)=true then _ else _) _ _ _
    rw [if_neg (by simp)]
    simp only [Bool.false_eq_true,if_false]
    refine zaa (wpAny_rule ?_)
    rw [if_neg (by simp)]
    exact zab ⟨rfl,rfl⟩
   ·exact zab ⟨rfl,rfl⟩
 ·rintro r s' ⟨rfl,rfl⟩
  exact zab h
def Y5 {d:Addr} {o:Obj} {es:Array DictEntry} {ep:Nat} {key v:Value} {hsh:Int} {Q:Unit->Shared->Prop} (ho:s.heap.get? d=some o) (hc:o.ExactDict) (hd:o.data=.dict es ep) (hz:es.size <= sizeLine)
  (hh:∀ Q:Int->Shared->Prop,(∀ tk,Q hsh { s with toks:=tk })->wpAny (model P w) A.in1 (pyHash key) Q E s)
  (hf:∀ tk (Q:Option Nat->Shared->Prop),Q none { s with toks:=tk }->wpAny (model P w) A.in1 (dictFind d key hsh) Q E { s with toks:=tk })
  (h:∀ h' tk,Heap.SameBut d s.heap h'->(∃ (o':Obj) (ep':Nat),h'.get? d=some o' /\ o'.ExactDict /\ o'.data=.dict (es.push ⟨hsh,key,v⟩) ep')->Q () { s with heap:=h',toks:=tk }):wpAny (model P w) A (setItem (.ref d) key v) Q E s:=by
 have hT:s.TypeIs (.ref d) "dict":=⟨o,ho,hc.1⟩
 unfold setItem
 try with_reducible refine wpAny_holding ?_
 refine zaa (wpAny_sequenceKey hT (by decide) ?_)
 refine zaa (wpAny_callSpecial?_slot (name:=Str.ofString "__setitem__") hT slot_dict_setitem
  (wpAny_call_entry slot_dict_setitem hT entry_dict_setitem ?_ (args_dict_setitem _ _ _)))
 show wpAny _ _ (Builtin.Dict.notOrdered "__setitem__" ⟨[.ref d,key,v],[]⟩ >>= _) _ _ s
 refine zaa (wpAny_notOrdered_dict hT ?_)
 show wpAny _ _ (dictSet d key v >>= _) _ _ s
 refine zaa ?_
 unfold dictSet
 try with_reducible refine wpAny_holding ?_
 refine zaa (hh _ λtk=>?_)
 unfold dictSetHashed
 try with_reducible refine wpAny_holding ?_
 refine zaa (hf tk _ ?_)
 refine zaa (wpAny_rule (wpAny_updateDictKeys (hz:=hz) (s:={ s with toks:=tk }) ho hd ?_))
 exact zab ⟨.none,rfl,zab (h _ tk (Heap.SameBut.update ..) ⟨_,ep + 1,Heap.get?_update_self _ ho (Obj.isFreed_of_dict (Obj.data_mapDictKeys hd _)),hc.mapDictKeys _,Obj.data_mapDictKeys hd _⟩)⟩
end
end L2
namespace DL
open PySem PySem.Spec L2 L3
open PyProof.Rows hiding St
section
variable {X:Cx} {pn:List (Addr × Obj)} {σ:St} {H:Hp} {s:Shared} {a:Addr}
def Hc {P:Program} {w:World} {h:Heap} {xs:List V} (ok:HOk P w H h) (e:H a=some (.tup xs)):∃ (o:Obj) (its:List Value) (n:Nat),Vals xs its /\ h.get? a=some o /\ o.cls=.type "tuple" /\ o.data=.seq its.toArray n:=by
 obtain ⟨_,its,r,⟨o,h1,h2,n,h3⟩,_⟩:=(show yf P w H h a (.tup xs) from ok a _ e)
 exact ⟨o,its,n,r,h1,h2,h3⟩
def uq (H:Hp) (ka:Addr) (l1 l2:List Int):Prop:=∃ p1 p2,H ka=some (.tup [.ref p1,.ref p2]) /\ H p1=some (.tup (l1.map V.int)) /\ H p2=some (.tup (l2.map V.int))
def gy (l:List Int):(l.map (Sum.inl:Int->Key)).map kV=l.map V.int:=by simp [kV]
def jl {P:Program} {w:World} {h:Heap} {ka:Addr} {l1 l2:List Int} (ok:HOk P w H h) (hp:uq H ka l1 l2):∃ (o:Obj) (p1 p2:Addr) (n:Nat),h.get? ka=some o /\ o.cls=.type "tuple" /\ o.data=.seq #[.ref p1,.ref p2] n /\ (tupleKind (y9 P w)).is h (l1.map Sum.inl) p1 /\ (tupleKind (y9 P w)).is h (l2.map Sum.inl) p2:=by
 obtain ⟨p1,p2,h0,h1,h2⟩:=hp
 obtain ⟨o,its,n,r,g1,g2,g3⟩:=Hc ok h0
 refine ⟨o,p1,p2,n,g1,g2,?_,uc ok (by rw [gy]; exact h1),uc ok (by rw [gy]; exact h2)⟩
 cases r with
 | cons e1 r =>
  cases r with
  | cons e2 r =>
   cases r
   cases e1
   cases e2
   exact g3
def Wc (P:Program) (w:World) (l1 l2:List Int):Int:=PySem.reduceHash (Builtin.Tuple.tupleHashOf [tupleKeyHash (y9 P w) (l1.map Sum.inl),tupleKeyHash (y9 P w) (l2.map Sum.inl)])
def Tt {P:Program} {w:World} {A:Around} {E:Value->Shared->Prop} {ka:Addr} {l1 l2:List Int} {Q:Int->Shared->Prop} (ok:HOk P w H s.heap) (hu:A.units + 1 < cLine) (hp:uq H ka l1 l2) (h:∀ tk,Q (Wc P w l1 l2) { s with toks:=tk }):wpAny (model P w) A (pyHash (.ref ka)) Q E s:=by
 obtain ⟨o,p1,p2,n,g1,g2,g3,k1,k2⟩:=jl ok hp
 refine W.pyHash_slot (T:="tuple") ⟨_,g1,g2⟩ F.slot_tuple_hash F.entry_tuple_hash (F.args_tuple_hash_1 _) (beq_builtin_none _) (.inr (by omega)) ?_
 show wpAny _ _ (Builtin.Tuple.tupleItemsOf (.ref ka) >>= _) _ _ s
 refine zaa (wpAny_tupleItemsOf g1 g3 ?_)
 refine zaa ?_
 rw [<- Array.forIn_toList]
 show wpAny _ _ (forIn [Value.ref p1,Value.ref p2] _ _) _ _ s
 rw [List.forIn_cons]
 refine zaa (zaa (wpAny_pyHash_tuple (by rw [Around.in1_units]; omega) k1 ?_))
 refine zaa (zab (zab ?_))
 dsimp only
 rw [List.forIn_cons]
 refine zaa (zaa (wpAny_pyHash_tuple (s:={ s with toks:=s.toks + ((l1.map Sum.inl).length + 1) }) (by rw [Around.in1_units]; omega) k2 ?_))
 refine zaa (zab (zab ?_))
 dsimp only
 rw [List.forIn_nil]
 refine zab ?_
 exact zaa (wpAny_mkInt (zab ⟨_,_,rfl,h _⟩))
def Nk {P:Program} {w:World} {ks:List Key} {b:Addr} (hk:(tupleKind (y9 P w)).is s.heap ks b):U0 P w s 7 b:=λA E Q h=>by
 have hT:=IsTupleKey.typeIs hk
 obtain ⟨o,items,n,ho,_,hd,hi⟩:=hk
 unfold eqIsQuiet
 refine zaa (wpAny_specialOf hT F.slot_tuple_eq.lookup ?_)
 show wpAny _ _ (isInstance (.ref b) (.type "tuple") >>= _) _ _ s
 refine zaa (wpAny_isInstance hT isSubtype_tuple_tuple ?_)
 simp only [Bool.not_true,Bool.false_eq_true,if_false]
 refine zaa (wpAny_seqItems ho hd ?_)
 refine zaa ?_
 show wpAny _ _ (forIn items _ _) _ _ s
 rw [<- Array.forIn_toList]
 refine wpAny_forIn_list _ (λrest r s'=>r.1=none /\ s'=s /\ ∀ v ∈ rest,carriedByValue v=true) _ ?_ ?_ _ _ ⟨rfl,rfl,hi.byValue⟩
 ·rintro v rest r s' ⟨hr,rfl,hall⟩
  rw [eqIsQuiet_byValue _ (hall v zao)]
  refine zaa (zab ?_)
  simp only [Bool.not_true,Bool.false_eq_true,if_false]
  exact zab ⟨rfl,rfl,λu hu'=>hall u (zal _ hu')⟩
 ·rintro ⟨r1,r2⟩ s' ⟨hr,rfl,_⟩
  simp only at hr
  subst hr
  exact zab h
def jk {P:Program} {w:World} {ka:Addr} {l1 l2:List Int} (ok:HOk P w H s.heap) (hp:uq H ka l1 l2):U0 P w s 8 ka:=λA E Q h=>by
 obtain ⟨o,p1,p2,n,g1,g2,g3,k1,k2⟩:=jl ok hp
 have hT:s.TypeIs (.ref ka) "tuple":=⟨_,g1,g2⟩
 unfold eqIsQuiet
 refine zaa (wpAny_specialOf hT F.slot_tuple_eq.lookup ?_)
 show wpAny _ _ (isInstance (.ref ka) (.type "tuple") >>= _) _ _ s
 refine zaa (wpAny_isInstance hT isSubtype_tuple_tuple ?_)
 simp only [Bool.not_true,Bool.false_eq_true,if_false]
 refine zaa (wpAny_seqItems g1 g3 ?_)
 refine zaa ?_
 show wpAny _ _ (forIn #[Value.ref p1,Value.ref p2] _ _) _ _ s
 rw [<- Array.forIn_toList]
 refine wpAny_forIn_list _ (λrest r s'=>r.1=none /\ s'=s /\ ∀ v ∈ rest,v=Value.ref p1 \/ v=Value.ref p2) _ ?_ ?_ _ _ ⟨rfl,rfl,by simp⟩
 ·rintro v rest r s' ⟨hr,rfl,hall⟩
  have hb:wpAny (model P w) A (eqIsQuiet 7 v) (λb s''=>b=true /\ s''=s') E s':=by
   rcases hall v zao with rfl | rfl
   ·exact Nk k1 _ _ _ ⟨rfl,rfl⟩
   ·exact Nk k2 _ _ _ ⟨rfl,rfl⟩
  refine zaa (wpAny_mono hb ?_ λ_ _ x=>x)
  rintro _ _ ⟨rfl,rfl⟩
  simp only [Bool.not_true,Bool.false_eq_true,if_false]
  exact zab ⟨rfl,rfl,λu hu'=>hall u (zal _ hu')⟩
 ·rintro ⟨r1,r2⟩ s' ⟨hr,rfl,_⟩
  simp only at hr
  subst hr
  exact zab h
end
end DL
namespace DL
open PySem PySem.Spec PySem.W L2 L3
open PyProof.Rows hiding St
abbrev PK:=(List Int × List Int) × (Int × Int)
def ik2 (k:List Int × List Int):D:=.tup [ikD k.1,ikD k.2]
def Ea (k:List Int × List Int):ik2 k=.tup [.tup (k.1.map D.int),.tup (k.2.map D.int)]:=rfl
section
variable {X:Cx} {pn:List (Addr × Obj)} {σ:St} {H:Hp} {s:Shared} {a:Addr} {ob:Obj} {rs:List PK}
def El {P:Program} {w:World} {H':Hp} {h':Heap} (h:h'.get? a=some ob):yf P w H' h' a (DpO a ob):=⟨h,⟨ob,h⟩,λg1 g2 z k=>k _ z⟩
def Wu (I:Inv X pn σ H s) (e:H a=some (DpO a ob)):s.heap.get? a=some ob:=(show yf X.prog X.w H s.heap a (DpO a ob) from I.hok a _ e).1
def Mq {x y:HO}:upd (upd H a x) a y=upd H a y:=by
 funext b
 by_cases e:b=a
 ·subst e; rw [zh,zh]
 ·rw [zg e,zg e,zg e]
def Pg {pos:Pos}:PE X (.Dict [] [] pos) (λσ H Q=>∀ p ob,H p=none->DpR (upd H p (DpO p ob)) p ob []->Q (.ref p) (upd H p (DpO p ob))):=by
 intro pn s σ H Q I q
 refine thn (gk pn s σ H (λv H'=>∃ p,v=.ref p /\ H p=none /\ H'=upd H p (.dT [])) I λp hp=>⟨p,rfl,hp,rfl⟩) λu s1 ⟨v,H1,I1,r,p,ev,hp,eH⟩=>?_
 subst ev eH
 obtain ⟨z,nb,xs,r',o,es,ep,g,c,dd,et,nd⟩:=(show yf X.prog X.w _ s1.heap p (.dT []) from I1.hok p _ zh)
 have I2:Inv X pn σ (upd (upd H p (.dT [])) p (DpO p o)) s1:=I1.write (t':=s1.toks) (h':=s1.heap) (x:=p) (e:=p) (o:=DpO p o) (by rw [zh]; exact True.intro) (.inl rfl) (λ_ _ _ z=>z) ⟨o,g⟩ (El g)
 rw [Mq] at I2
 refine ⟨.ref p,_,I2,r,q p o hp ⟨nb,c,List.nodup_nil,by simp,es,ep,dd,?_⟩⟩
 cases r'
 rw [et]
 exact .nil
def qw:∀ {l m:List Int},eqDs (l.map D.int) (m.map D.int)=decide (l=m)
 | [],[]=>rfl
 | [],_ :: _=>rfl
 | _ :: _,[]=>rfl
 | x :: l,y :: m=>by
  show (x == y && eqDs (l.map D.int) (m.map D.int))=_
  rw [qw]
  by_cases h:x=y <;> by_cases h2:l=m <;> simp [h,h2]
def Jb {k m:List Int × List Int} (h:k ≠ m):eqD (ik2 k) (ik2 m)=false:=by
 show (eqDs (k.1.map D.int) (m.1.map D.int) && (eqDs (k.2.map D.int) (m.2.map D.int) && true))=false
 rw [qw,qw]
 by_cases h1:k.1=m.1
 ·have:¬ k.2=m.2:=λh2=>h (Prod.ext h1 h2)
  simp [this]
 ·simp [h1]
def Tw {k:List Int × List Int}:okD 3 (ik2 k):=by
 intro x hx
 simp only [zam,List.not_mem_nil,or_false] at hx
 rcases hx with rfl | rfl <;>
 ·intro y hy
  obtain ⟨i,_,rfl⟩:=zah.mp hy
  trivial
def gb {K:W.Frag} {O:List Addr} {ka:Addr} {l1 l2:List Int} (h:uq H ka l1 l2):Rep K H O (ik2 (l1,l2)) (.ref ka):=by
 obtain ⟨p1,p2,h0,h1,h2⟩:=h
 exact ⟨ka,_,rfl,⟨SqT.of h0,h0⟩,_,_,rfl,gc (by rw [gy]; exact h1),_,_,rfl,gc (by rw [gy]; exact h2),rfl⟩
def Pk {K:W.Frag} {O:List Addr} {v:V} {k:List Int × List Int} (h:Rep K H O (ik2 k) v):∃ ka,v=.ref ka /\ uq H ka k.1 k.2:=by
 obtain ⟨ka,xs,rfl,q,v1,r1,rfl,⟨p1,ys,rfl,q1,t1⟩,v2,r2,rfl,⟨p2,zs,rfl,q2,t2⟩,rfl⟩:=h
 refine ⟨ka,rfl,p1,p2,q.2,?_,?_⟩
 ·rw [<- yy t1]; exact q1.2
 ·rw [<- yy t2]; exact q2.2
def Ll {r:PK} {e:DictEntry} (h:rowR H r e):∃ ka,e.key=.ref ka /\ uq H ka r.1.1 r.1.2:=by
 obtain ⟨ka,p1,p2,va,h1,h2,h3,h4,h5,h6⟩:=h
 exact ⟨ka,h1,p1,p2,h3,h4,h5⟩
def Vc {α β:Type} {R:α->β->Prop}:∀ {l:List α} {m:List β},Paired R l m->∀ y ∈ m,∃ x ∈ l,R x y:=by
 intro l m t
 induction t with
 | nil=>intro y hy; cases hy
 | @cons p q ps qs h t ih =>
  intro y hy
  rcases zam.mp hy with rfl | hy
  ·exact ⟨p,zao ..,h⟩
  ·obtain ⟨x,hx,hr⟩:=ih y hy
   exact ⟨x,zal _ hx,hr⟩
def Yg {α β:Type} {R:α->β->Prop} {x:α} {y:β}:∀ {l:List α} {m:List β},Paired R l m->R x y->Paired R (l ++ [x]) (m ++ [y]):=by
 intro l m t h
 induction t with
 | nil=>exact .cons h .nil
 | cons g _ ih=>exact .cons g ih
def Lu {o i value:Expr} {pos' pos:Pos} {td ty tv:TE} (hu:X.A.units + 64 < cLine) (ho:PE X o td) (hi:PE X i ty) (hv:PE X value tv) (hs:swapsWith value (some (.Subscript o i pos')) pos.line X.env=pure false) :
  PS X (.Assign [.Subscript o i pos'] value pos) (λD σ H=>tv σ H λv H1=>td σ H1 λx H2=>ty σ H2 λy H3=>∃ a ob rs ka k va c,x=.ref a /\ y=.ref ka /\ v=.ref va /\ H3 a=some (DpO a ob) /\ DpR H3 a ob rs /\ uq H3 ka k.1 k.2 /\ H3 va=some (.tup [.int c.1,.int c.2]) /\
   k ∉ rs.map Prod.fst /\ rs.length < 10000 /\ ∀ ob',DpR (upd H3 a (DpO a ob')) a ob' (rs ++ [(k,c)])->D.nx σ (upd H3 a (DpO a ob'))):=by
 intro pn s σ H D I h
 refine wpAny_Assign_Subscript (thn (hv pn s σ H _ I h) λr s1 ⟨v,H1,I1,rv,q1⟩=>thn (ho pn s1 σ H1 _ I1 q1) λu s2 ⟨x,H2,I2,rx,q2⟩=>thn (hi pn s2 σ H2 _ I2 q2) λiv s3 ⟨y,H3,I3,ry,a,ob,rs,ka,k,va,c,ex,ey,ev,ha,hR,hp,hc,hn,hl,q⟩=>?_) hs
 subst ex ey ev
 obtain rfl:u=Value.ref a:=rx
 obtain rfl:iv=Value.ref ka:=ry
 obtain rfl:r=Value.ref va:=rv
 obtain ⟨nb,xd,nd,hl',es,ep,hdat,hP⟩:=hR
 have hg:=Wu I3 ha
 have hsz:es.size=rs.length:=by rw [<- Array.length_toList,<- hP.length]
 have keyOf:∀ e ∈ es,∃ r ∈ rs,∃ b,e.key=.ref b /\ uq H3 b r.1.1 r.1.2:=λe he=>by
  obtain ⟨r,hr,w⟩:=Vc hP e (Array.mem_toList_iff.mpr he)
  obtain ⟨b,h1,h2⟩:=Ll w
  exact ⟨r,hr,b,h1,h2⟩
 refine Y5 (hsh:=Wc X.prog X.w k.1 k.2) hg xd hdat (by rw [hsz,sizeLine_eq]; omega) (λQ h=>Tt I3.hok (by rw [Around.in1_units]; omega) hp h) (λtk Q h=>Of (s:={ s3 with toks:=tk }) hg hdat (λe he=>?_) (jk (I3.tok tk).hok hp) (λe he E Q h=>?_) h) λh' tk hsb ⟨o',ep',g1,g2,g3⟩=>?_
 ·obtain ⟨r,hr,b,h1,h2⟩:=keyOf e he
  refine ⟨b,h1,λz=>hn ?_,jk (I3.tok tk).hok h2⟩
  subst z
  obtain ⟨p1,p2,t0,t1,t2⟩:=h2
  obtain ⟨p1',p2',t0',t1',t2'⟩:=hp
  rw [t0] at t0'
  cases t0'
  rw [t1] at t1'
  rw [t2] at t2'
  have inj:∀ {l m:List Int},some (HO.tup (l.map V.int))=some (HO.tup (m.map V.int))->l=m:=λz=>by
   have z:=HO.tup.inj (Option.some.inj z)
   exact (List.map_inj_right (λ_ _ w=>V.int.inj w)).mp z
  exact zah.mpr ⟨r,hr,Prod.ext (inj t1') (inj t2')⟩
 ·obtain ⟨r,hr,b,h1,h2⟩:=keyOf e he
  rw [h1]
  have hne:r.1 ≠ k:=λz=>hn (zah.mpr ⟨r,hr,z⟩)
  have:=(Xc (I3.tok tk) 3 (ik2 r.1) (ik2 k) (.ref b) (.ref ka) (.ref b) (.ref ka) X.A.in1 Tw Tw (gb h2) (gb hp) rfl rfl (by rw [Around.in1_units]; omega)).2.2
  rw [Jb hne] at this
  exact this _ _ E Q h
 ·refine ⟨σ,_,fy I3 (by rw [ha]; exact True.intro) hsb ⟨o',g1⟩ (El g1),q o' ⟨nb,g2,?_,?_,_,ep',g3,?_⟩⟩
  ·rw [zMa]
   exact List.nodup_append.mpr ⟨nd,by simp,λx hx y hy=>by
    simp only [List.map_cons,List.map_nil,zam,List.not_mem_nil,or_false] at hy
    rw [hy]
    exact λz=>hn (z ▸ hx)⟩
  ·rw [zLa]; simp only [zLc,zLn]; omega
  ·have tk:∀ b xs,H3 b=some (.tup xs)->upd H3 a (DpO a o') b=some (.tup xs):=λb xs z=>by
    rw [zg (λy=>by subst y; rw [ha] at z; cases z)]
    exact z
   rw [Array.toList_push]
   obtain ⟨p1,p2,t0,t1,t2⟩:=hp
   exact Yg (Paired.mapP hP λ_ _ z=>z.gt tk) ⟨ka,p1,p2,va,rfl,rfl,tk _ _ t0,tk _ _ t1,tk _ _ t2,tk _ _ hc⟩
end
variable {Γ:Hp->Prop}
section
variable {X:Cx} {a b c e ke o:Expr} {es:List Expr} {ta tb tc te td tk:TD} {x:Str} {np pos pos':Pos}
def Zi:ED Γ X (.Dict [] [] pos) (λ_ φ=>φ (df (.dp []))):=λH₀=>impE Pg λσ H Q q=>by
 obtain ⟨ρ,o,R,φ,hφ,k⟩:=q
 intro p ob hp hR
 exact k (.ref p) (df (.dp [])) _ (zr hp _) ⟨p,rfl,hp,R.ofree hp,ob,zh,hR⟩ hφ
def Uy (i:Nat) (tk te:TD):TDS:=λρ Z=>match slot ρ i with
 | some ⟨.own,.dp rs⟩=>te ρ λr=>tk ρ λkr=>∃ k c,r=dv (.tup [.int c.1,.int c.2]) /\ kr=dv (ik2 k) /\ k ∉ rs.map Prod.fst /\ rs.length < 10000 /\ Z.nx (setS ρ i (dO (.dp (rs ++ [(k,c)]))))
 | _=>False
def Uw (i:Nat) (hu:X.A.units + 64 < cLine) (hk:ED Γ X ke tk) (he:ED Γ X e te) (hN:X.N[i]?=some x:=by rfl) (hv:Vis X.env.scope x:=by first | exact Or.inl rfl | exact Or.inr (Or.inl rfl) | exact Or.inr (Or.inr rfl)) (hd:(x == ("__debug__" : Str))=false:=by decide)
  (hcd:(x == ("__classdict__" : Str))=false:=by decide) (hs:swapsWith e (some (.Subscript (.Name x np) ke pos')) pos.line X.env=pure false:=by rfl):SD Γ X (.Assign [.Subscript (.Name x np) ke pos'] e pos) (Uy i tk te):=λH₀ =>
 impS (Lu hu (wa hN hv hd hcd) (hk H₀) (he H₀) hs) λD σ H h=>by
  obtain ⟨ρ,o,R,Z,hZ,k1,k2,k3,k4⟩:=h
  unfold Uy at hZ
  split at hZ
  ·rename_i rs es
   obtain ⟨v0,ev0,q0⟩:=R.slots i _ (yi es)
   rcases q0 with ⟨k,_⟩ | ⟨_,a,rfl,m,cc⟩
   ·cases k
   obtain ⟨ob,hx,hR⟩:=cc
   refine ⟨ρ,o,R,_,hZ,λv r H1 s1 rv h1=>⟨.ref a,ev0,ρ,o,R.to s1,_,h1,λv2 r2 H2 s2 rv2 h2=>?_⟩⟩
   obtain ⟨k,c,rfl,rfl,hn,hl,h2⟩:=h2
   have s12:=s1.trans s2
   obtain ⟨va,xs,ev,q3,t3⟩:=Rep.grow (Grow.same s2) _ _ (show Rep _ _ _ (.tup [.int c.1,.int c.2]) v from rv)
   obtain ⟨w1,r1,rfl,e1,w2,r2,rfl,e2,rfl⟩:=t3
   have e1:w1=.int c.1:=e1
   have e2:w2=.int c.2:=e2
   subst e1 e2
   obtain ⟨ka,ek,hp⟩:=Pk (show Rep _ _ _ (ik2 k) v2 from rv2)
   refine ⟨a,ob,rs,ka,k,va,c,rfl,ek,ev,s12 _ _ hx,hR.gt λb xs z=>s12 b _ z,hp,q3.2,hn,hl,λob' hR'=>?_⟩
   obtain ⟨R3,g3⟩:=(R.to s12).chg (d':=.dp (rs ++ [(k,c)])) (ho:=DpO a ob') (yi es) ev0 m ⟨λ_ z=>(by cases z),λ_ _ z=>(by cases z)⟩ λgr=>⟨ob',zh,hR'⟩
   exact k1 _ σ _ o ((Grow.same s12).trans g3) R3 h2
  ·exact hZ.elim
end
section
variable {X:Cx} {pn:List (Addr × Obj)} {σ:St} {H:Hp} {s:Shared} {a:Addr} {ob:Obj} {rs:List PK}
def ItmP (a:Addr) (ob:Obj) (rs:List PK):It :=
 ⟨λi H=>H a=some (DpO a ob) /\ DpR H a ob rs /\ i < rs.length,
  λi H x H'=>∃ T c va kv,H T=none /\ x=.ref T /\ rs[i]?=some kv /\ uq H c kv.1.1 kv.1.2 /\ H va=some (.tup [.int kv.2.1,.int kv.2.2]) /\ H'=upd H T (.tup [.ref c,.ref va]),
  λi H=>H a=some (DpO a ob) /\ DpR H a ob rs /\ i=rs.length⟩
def Ts {α β:Type} {R:α->β->Prop}:∀ {l:List α} {m:List β},Paired R l m->∀ (i:Nat) x,l[i]?=some x->∃ y,m[i]?=some y /\ R x y:=by
 intro l m t
 induction t with
 | nil=>exact λi kv e=>by simp at e
 | @cons p q ps qs hq t ih =>
  intro i kv e
  cases i with
  | zero =>
   have a1:p=kv:=by simpa using e
   subst a1
   exact ⟨q,by simp,hq⟩
  | succ i =>
   obtain ⟨q',e1,e2⟩:=ih i kv (by simpa using e)
   exact ⟨q',by simpa using e1,e2⟩
def Zz {P:Program} {w:World} {K:W.Frag} {es:List Expr} {kk:Nat} {tp:Pos} (it:Addr) {rows:Array DictEntry} {ep:Nat} (ho:Mf ob rows ep) (hsz:rows.size=rs.length) (hne:a ≠ it) :
  Turn P w K (.Tuple es kk tp) (ItmP a ob rs) [it] it (λi h=>∃ o1 o2,h.get? it=some (vm a i rows.size ep .none (.bool false) o1 o2)) where
 mem:=by simp
 obj:=λi h st b hb=>by
  have e:b=it:=by simpa using hb
  subst e
  obtain ⟨o1,o2,h1⟩:=st
  exact ⟨_,h1,λv z=>by cases z⟩
 keep:=λi h h' st k=>by
  obtain ⟨o1,o2,h1⟩:=st
  exact ⟨o1,o2,k it (by simp) _ h1⟩
 item:=by
  intro X hP hw hK hc i pn s σ H E I hf st hg
  subst hP hw hK
  obtain ⟨o1,o2,z1⟩:=st
  have fi:=hf it (by simp)
  obtain ⟨g1,hR,g2⟩:=hg
  have q1:=Wu I g1
  obtain ⟨nb,cc,nd,_,es',ep',dd,hPr⟩:=hR
  have ee:es'=rows /\ ep'=ep:=by
   have:=dd.symm.trans ho.2
   cases this
   exact ⟨rfl,rfl⟩
  obtain ⟨rfl,rfl⟩:=ee
  obtain ⟨kv,ekv⟩:∃ kv,rs[i]?=some kv:=⟨rs[i],zaf g2⟩
  obtain ⟨en,e1,c,p1,p2,va,k1,k2,k3,k4,k5,k6⟩:=Ts hPr i kv ekv
  have ek:es'[i]?=some en:=by rw [<- Array.getElem?_toList]; exact e1
  refine ji z1 ⟨ob,q1,cc,dd⟩ ek λg zo pr hsz2 kp=>?_
  have hn:H s.heap.objs.size=none:=I.fresh
  have off:∀ b ho,H b=some ho->b ≠ it:=λb ho q=>zb q fi.1
  have un:Un (frs X.stack) [it] H (upd H s.heap.objs.size (.tup [.ref c,.ref va])) s.heap g :=
   ⟨λb o q _ _ hx=>kp b o (by simpa using hx) q,λb o q _ _ hx=>⟨o.slots,kp b o (by simpa using hx) q⟩,λb o q n _=>by rw [zg (Nat.ne_of_lt (zae q))]; exact n,λb o q hx=>⟨o,kp b o (by simpa using hx) q⟩,
    λb zs q=>by rw [zg (zb q hn)]; exact q,λb o zs q=>by rw [zg (zb q hn)]; exact q,λb ps q=>⟨#[],by rw [zg (zb q hn),q]; simp⟩⟩
  have hok:HOk X.prog X.w (upd H s.heap.objs.size (.tup [.ref c,.ref va])) g:=λb o qb=>by
   by_cases hb:b=s.heap.objs.size
   ·subst hb
    rw [zh] at qb
    cases qb
    refine ⟨by simp only [zLc,zLn]; rw [sizeLine_eq]; decide,[en.key,en.val],.cons ?_ (.cons ?_ .nil),⟨_,pr,rfl,_,rfl⟩,_,pr,rfl⟩
    ·rw [k1]; rfl
    ·rw [k2]; rfl
   ·rw [zg hb] at qb
    refine (I.hok b o qb).stay (λc ob hc q2=>kp c ob ?_ q2) (λc q=>by rw [zg (zb q hn)]; exact q) λc zs q=>by rw [zg (zb q hn)]; exact q
    rcases hc with rfl | hc
    ·exact off _ _ qb
    ·exact off _ _ hc
  have I2:Inv X pn σ (upd H s.heap.objs.size (.tup [.ref c,.ref va])) { s with heap:=g }:=I.call' (s':={ s with heap:=g }) (ch:=[it]) rfl un hok I.bare λb hb=>by
   have q:=hf b hb
   exact ⟨q.2.2.2.1,q.2.1,q.2.2.2.2.1,q.2.2.2.2.2⟩
  have none5:∀ b ∈ [it],upd H s.heap.objs.size (.tup [.ref c,.ref va]) b=none:=λb hb=>by
   have e:b=it:=by simpa using hb
   subst e
   rw [zg (Nat.ne_of_lt (zae z1))]
   exact fi.1
  refine ⟨_,rfl,wpAny_letOwnedTupleGo_items zo λg2 z3 sb=>?_⟩
  refine ⟨.ref s.heap.objs.size,_,I2.turned (t':=s.toks) (λb o hb q=>sb.extBut b o hb q) (none5 it (by simp)) fi.2.1 fi.2.2.2.1 fi.2.2.2.2.1 fi.2.2.2.2.2,rfl,⟨_,c,va,kv,hn,rfl,ekv,⟨p1,p2,k3,k4,k5⟩,k6,rfl⟩,?_,none5⟩
  exact ⟨_,_,by exact_mod_cast z3⟩
 done:=by
  intro X hP hw hK hc i pn s σ H E I hf st hg
  subst hP hw hK
  obtain ⟨o1,o2,z1⟩:=st
  have fi:=hf it (by simp)
  obtain ⟨g1,hR,rfl⟩:=hg
  have q1:=Wu I g1
  rw [<- hsz] at z1
  exact W9 (I.ok.hd hc) ⟨_,_,_,_,z1,.inl ⟨rfl,rfl⟩⟩ ⟨ob,q1,ho.1,ho.2⟩ λg kp=>⟨rfl,I.turned (t':=s.toks) (λb o hb q=>kp b o hb q) fi.1 fi.2.1 fi.2.2.2.1 fi.2.2.2.2.1 fi.2.2.2.2.2⟩
 self:=λ_ _ s _ _ st h=>by
  obtain ⟨o1,o2,z1⟩:=st
  have ty:s.TypeIs (.ref it) "dict_itemiterator":=⟨_,z1,rfl⟩
  refine wpAny_pyIter_slot ty PySem.F.slot_dict_itemiterator_iter (wpAny_call_entry PySem.F.slot_dict_itemiterator_iter ty vf ?_ (PySem.F.args_dict_itemiterator_iter_1 _))
  show wpAny _ _ (ret (.ref it)) _ _ s
  exact zab ⟨_,rfl, "dict_itemiterator", _,ty,PySem.F.slot_dict_itemiterator_next.lookup,h⟩
def Dn (to:TE):TI:=λσ H R=>to σ H λv H1=>∃ a ob rs,v=.ref a /\ H1 a=some (DpO a ob) /\ DpR H1 a ob rs /\ R (ItmP a ob rs) H1
def Tl {o:Expr} {to:TE} {es:List Expr} {kk:Nat} {tp apos cpos:Pos} (hO:PE X o to)
  (hbase:attributeBase o "items" X.env (eval o X.env)=eval o X.env:=by rfl) (hline:(apos.endLine == cpos.line)=true:=by rfl) :
  PI X (.Tuple es kk tp) (.Call (.Attribute o "items" apos) [] [] cpos) (Dn to):=by
 intro pn s σ H R I h
 refine wpAny_Call_method0_late hbase hline (thn (hO pn s σ H _ I h) λv s1 ⟨y,H1,I1,r1,a,ob,rs,e1,h2,hR,q⟩=>?_)
 subst e1
 cases r1
 have q1:=Wu I1 h2
 obtain ⟨nb,cc,nd,_,rows,ep,dd,hPr⟩:=hR
 have hsz:rows.size=rs.length:=by rw [<- Array.length_toList,<- hPr.length]
 have rd:∀ h:Heap,h.get? a=some ob->RawD h a rows ep:=λh e=>⟨ob,e,cc,dd⟩
 have hals:=zae q1
 refine ⟨"dict", "dict.items", PySem.F.plainAttrs_dict,PySem.F.slot_dict_items,dj,(rd _ q1).ty,λb e=>by cases e; exact ⟨ob,q1,cc.2.1⟩,Calls.callWith_builtin rfl (PySem.evalArgs_none ?_)⟩
 refine W8 nb (rd _ q1) ?_
 have I2:Inv X pn σ H1 { s1 with heap:=s1.heap.push { cls:=.type "dict_items", data:=.fields #[.ref a] } }:=I1.kept (t':=s1.toks) λb o e=>zac _ e
 refine jh (D:=a) (rows:=rows) (ep:=ep) ⟨_,zad _ rfl,rfl,rfl⟩ (rd _ (zac _ q1)) ?_
 refine ⟨_,[_],_,_,H1,rfl,I2.kept (t':=s1.toks) λb o e=>zac _ e,Zz (ob:=ob) (rs:=rs) _ (rows:=rows) (ep:=ep) ⟨cc,dd⟩ hsz ?_,⟨.none,.none,zad _ rfl⟩,λb hb=>?_,q⟩
 ·rw [size_push']
  exact Nat.ne_of_lt (Nat.lt_succ_of_lt hals)
 ·have e:b=(s1.heap.push { cls:=.type "dict_items", data:=.fields #[.ref a] }).objs.size:=by simpa using hb
  subst e
  exact I2.fpOk (zaj _) (I2.hok.fresh (zaj _))
end
variable {Γ:Hp->Prop}
section
variable {X:Cx} {o e:Expr} {td te:TD}
def rowD (r:PK):D:=.tup [ik2 r.1,.tup [.int r.2.1,.int r.2.2]]
def iPt (td:TD):TID:=λρ φ=>td ρ λr=>∃ rs,r=dv (.dp rs) /\ φ (rs.map rowD)
def Sw {K:W.Frag} {a:Addr} {ob:Obj} {rs:List PK}:ItD K (ItmP a ob rs) (rs.map rowD) (λH O=>H a=some (DpO a ob) /\ a ∉ O /\ DpR H a ob rs) where
 go:=λH O i d hP e=>by
  rw [zai] at e
  obtain ⟨p,ep,rfl⟩:=zar.mp e
  have hi:=(zag.mp ep).1
  refine ⟨⟨hP.1,hP.2.2,hi⟩,λx H' ⟨T,c,va,kv,hT,ex,ekv,hc,hv,eH⟩=>?_⟩
  subst ex eH
  rw [ep] at ekv
  cases ekv
  have sm:Same H (upd H T (.tup [.ref c,.ref va])):=λb w hb=>by rw [zg (zb hb hT)]; exact hb
  refine ⟨sm,T,_,rfl,⟨.inl (.inl zh),zh⟩,?_⟩
  obtain ⟨p1,p2,t0,t1,t2⟩:=hc
  exact ⟨_,_,rfl,gb ⟨p1,p2,sm _ _ t0,sm _ _ t1,sm _ _ t2⟩,_,_,rfl,⟨va,_,rfl,⟨SqT.of (sm _ _ hv),sm _ _ hv⟩,_,_,rfl,rfl,_,_,rfl,rfl,rfl⟩,rfl⟩
 stop:=λH O hP=>⟨hP.1,hP.2.2,by rw [zLm]⟩
 keep:=λO O' H H' hP g=>⟨(g.keep _ _ hP.1 hP.2.1).1,(g.keep _ _ hP.1 hP.2.1).2,hP.2.2.gt g.tups⟩
def Ze {es:List Expr} {kk:Nat} {tp apos cpos:Pos} (ho:ED Γ X o td) (hbase:attributeBase o "items" X.env (eval o X.env)=eval o X.env:=by rfl) (hline:(apos.endLine == cpos.line)=true:=by rfl) :
  EI Γ X (.Tuple es kk tp) (.Call (.Attribute o "items" apos) [] [] cpos) (iPt td):=λH₀=>impI (Tl (ho H₀) hbase hline) λσ H R q=>by
 obtain ⟨ρ,oo,RE,φ,hφ,k⟩:=q
 refine ⟨ρ,oo,RE,_,hφ,λv r H1 s1 rv h1=>?_⟩
 obtain ⟨rs,rfl,h1⟩:=h1
 obtain ⟨a,ob,rfl,g,n,hR⟩:=(show Rep X.K H1 (oo.map Prod.snd) (.dp rs) v from rv)
 exact ⟨a,ob,rs,rfl,g,hR,k _ _ _ H1 s1 Sw ⟨g,n,hR⟩ h1⟩
end
end DL
namespace DL
open PySem PySem.Spec L2 L3
open PyProof.Rows hiding St
variable {Γ:Hp->Prop}
section
variable {X:Cx} {ie:Expr} {t:TD} {pos:Pos}
def erase_map12 {α β:Type} (f:α->β):∀ (l:List α) (k:Nat),(l.map f).eraseIdx k=(l.eraseIdx k).map f
 | [],_=>rfl
 | _ :: _,0=>rfl
 | a :: l,k + 1=>by
  show f a :: (l.map f).eraseIdx k=f a :: (l.eraseIdx k).map f
  rw [erase_map12 f l k]
def qc (i j:Nat) (t:TD):TDS:=λρ Z=>∃ ns ms:List Int,slot ρ i=some (dO (.lst (ns.map D.int))) /\ slot ρ j=some (dO (.lst (ms.map D.int))) /\ i ≠ j /\ t ρ λr=>∃ (k:Nat) (m:Int),r=dv (.int k) /\ k < 1000 /\ ms[k]?=some m /\ ns.length <= 1000 /\
 Z.nx (setS (setS ρ j (dO (.lst ((ms.eraseIdx k).map D.int)))) i (dO (.lst ((ns ++ [m]).map D.int))))
def Y7 (i j:Nat) {x y:Str} {np np2 apos apos2 cpos cpos2:Pos} (h:ED Γ X ie t) (hi:X.N[i]?=some x:=by rfl) (hj:X.N[j]?=some y:=by rfl)
  (hv:Vis X.env.scope x:=by first | exact Or.inl rfl | exact Or.inr (Or.inl rfl) | exact Or.inr (Or.inr rfl)) (hd:(x == ("__debug__" : Str))=false:=by decide) (hcd:(x == ("__classdict__" : Str))=false:=by decide)
  (hv2:Vis X.env.scope y:=by first | exact Or.inl rfl | exact Or.inr (Or.inl rfl) | exact Or.inr (Or.inr rfl)) (hd2:(y == ("__debug__" : Str))=false:=by decide) (hcd2:(y == ("__classdict__" : Str))=false:=by decide)
  (hp:∀ {ta tb tc:TE},PE X (.Name x np) ta->PE X (.Name y np2) tb->PE X ie tc->PS X (.Expr (.Call (.Attribute (.Name x np) "append" apos) [.Call (.Attribute (.Name y np2) "pop" apos2) [ie] [] cpos2] [] cpos) pos)
    (Qp (tBM X.K "list" Yc ta (Ug (tBM X.K "list" Nj tb (Ug tc tNil)) tNil))):=by
   intro ta tb tc h1 h2 h3
   exact gf (Pj PySem.F.plainAttrs_list PySem.F.slot_list_append PySem.F.type_list_append qk h1 (xx (Pj PySem.F.plainAttrs_list PySem.F.slot_list_pop PySem.F.type_list_pop Pq h2 (xx h3 tm)) tm))) :
  SD Γ X (.Expr (.Call (.Attribute (.Name x np) "append" apos) [.Call (.Attribute (.Name y np2) "pop" apos2) [ie] [] cpos2] [] cpos) pos) (qc i j t):=λH₀=>impS (hp (wa hi hv hd hcd) (wa hj hv2 hd2 hcd2) (h H₀)) λE9 σ H h=>by
 obtain ⟨ρ,o,R,Z,hZ,k1,k2,k3,k4⟩:=h
 obtain ⟨ns,ms,ei,ej,hij,ht⟩:=hZ
 obtain ⟨v0,ev0,q0⟩:=R.slots i _ (yi ei)
 rcases q0 with ⟨k,_⟩ | ⟨_,a,rfl,m,c⟩
 ·cases k
 obtain ⟨xs,hx,rx⟩:=c
 obtain ⟨v1,ev1,q1⟩:=R.slots j _ (yi ej)
 rcases q1 with ⟨k,_⟩ | ⟨_,b,rfl,mb,c1⟩
 ·cases k
 obtain ⟨ys,hy,ry⟩:=c1
 refine ⟨.ref a,ev0,.inl ⟨rfl,xs,SqL.of hx⟩,.ref b,ev1,.inl ⟨rfl,ys,SqL.of hy⟩,ρ,o,R,_,ht,λv r H1 s1 rv h1=>?_⟩
 obtain ⟨k,mm,rfl,hk,em,hn,h1⟩:=h1
 have rv:v=.int k:=rv
 subst rv
 have R1:=R.to s1
 have hy1:=s1 _ _ hy
 have ry1:=Reps.grow (Grow.same (O:=o.map Prod.snd) s1) _ _ ry
 have eys:=yy ry1
 have lk:k < ms.length:=(zag.mp em).1
 refine ⟨b,ys,k,k,.int mm,rfl,rfl,hy1,by omega,by omega,?_,by rw [eys,zai,em]; rfl,?_⟩
 ·simp [seqIndex?]
  rw [eys,zLm]
  omega
 obtain ⟨R2,g2⟩:=R1.chg (d':=.lst ((ms.eraseIdx k).map D.int)) (ho:=.lst (ys.eraseIdx k)) (yi ej) ev1 mb ⟨λ_ z=>(by cases z),λ_ _ z=>(by cases z)⟩ λgr=>⟨ys.eraseIdx k,zh,by
  rw [eys,erase_map12 V.int ms k]
  exact Reps.ints _⟩
 have ei2:(setS ρ j (dO (.lst ((ms.eraseIdx k).map D.int))))[i]?=some (some (dO (.lst (ns.map D.int)))):=by
  rw [xq,List.getElem?_set_ne (Ne.symm hij)]
  exact yi ei
 obtain ⟨v2,ev2,q2⟩:=R2.slots i _ ei2
 rcases q2 with ⟨k,_⟩ | ⟨_,a',rfl,m',c'⟩
 ·cases k
 have ea:a'=a:=by
  rw [ev0] at ev2
  cases ev2
  rfl
 subst ea
 obtain ⟨xs',hx',rx'⟩:=c'
 refine ⟨a',xs',.int mm,rfl,rfl,hx',by rw [rx'.length,zLm]; exact Nat.lt_of_le_of_lt hn (by decide),?_⟩
 obtain ⟨R5,g5⟩:=R2.chg (d':=.lst ((ns ++ [mm]).map D.int)) (ho:=.lst (xs' ++ [.int mm])) ei2 ev0 m' ⟨λ_ z=>(by cases z),λ_ _ z=>(by cases z)⟩ λgr =>
  ⟨xs' ++ [.int mm],zh,by rw [zMa]; exact gr _ _ (rx'.append (Reps.one (d:=.int mm) (v:=.int mm) rfl))⟩
 exact k1 _ σ _ o ((Grow.same s1).trans (g2.trans g5)) R5 h1
end
def Sk {α:Type} {us:List α} (h:us.length=1):∃ a0,us=[a0]:=match us,h with
 | [a0],_=>⟨a0,rfl⟩
def vj {α:Type} {us:List α} (h:us.length=2):∃ a0 a1,us=[a0,a1]:=match us,h with
 | [a0,a1],_=>⟨a0,a1,rfl⟩
def bf {α:Type} {us:List α} (h:us.length=3):∃ a0 a1 a2,us=[a0,a1,a2]:=match us,h with
 | [a0,a1,a2],_=>⟨a0,a1,a2,rfl⟩
def Dk {α:Type} {us:List α} (h:us.length=4):∃ a0 a1 a2 a3,us=[a0,a1,a2,a3]:=match us,h with
 | [a0,a1,a2,a3],_=>⟨a0,a1,a2,a3,rfl⟩
def Dj {α:Type} {us:List α} (h:us.length=5):∃ a0 a1 a2 a3 a4,us=[a0,a1,a2,a3,a4]:=match us,h with
 | [a0,a1,a2,a3,a4],_=>⟨a0,a1,a2,a3,a4,rfl⟩
end DL
namespace K37
open PySem PySem.Spec L2 L3 DL
open PyProof.Rows hiding St
open PySem.Builtin.Int (intBits)
def wy {x y:Int} {m:Nat} (h:x.natAbs <= y.natAbs) (hy:intBits y <= m):intBits x <= m:=PySem.intBits_le_iff.mpr (Nat.lt_of_le_of_lt h (PySem.intBits_le_iff.mp hy))
abbrev Part:=List Int × (Int × Int)
def rq (p:Int × Int):Rat:=Rat.divInt p.1 p.2
def lo (q:Rat):Int × Int:=(q.num,(q.den:Int))
def u9 (q:Rat):0 < (lo q).2:=by
 have:=q.den_pos
 show (0:Int) < (q.den:Int)
 omega
def Fo (q:Rat):Int.gcd (lo q).1 (lo q).2=1:=by
 show Int.gcd q.num (q.den:Int)=1
 have:=q.reduced
 unfold Int.gcd
 simpa using this
def T3 (q:Rat):rq (lo q)=q:=Rat.num_divInt_den q
def G5 {t b:Int} (hb:0 < b):rt t b=lo (Rat.divInt t b):=by
 have r:=P2 (t:=t) (b:=b) (by omega)
 have c:=r.cross
 generalize hq:Rat.divInt t b=q
 have c2:q.num * b=t * (q.den:Int):=by
  have h0:((q.den:Nat):Int) ≠ 0:=by have:=q.den_pos; omega
  refine (Rat.divInt_eq_divInt_iff h0 (by omega)).mp ?_
  rw [Rat.num_divInt_den,hq]
 have key:(rt t b).1 * (lo q).2=(lo q).1 * (rt t b).2:=by
  show (rt t b).1 * (q.den:Int)=q.num * (rt t b).2
  refine Int.eq_of_mul_eq_mul_right (a:=b) (by omega) ?_
  have e1:(rt t b).1 * (q.den:Int) * b=((rt t b).1 * b) * q.den:=by grind
  have e2:q.num * (rt t b).2 * b=(q.num * b) * (rt t b).2:=by grind
  rw [e1,e2,c,c2]
  grind
 have:=Fn r.one (Fo q) r.pos (u9 q) key
 exact Prod.ext this.1 this.2
def Ye {a b c d:Int} (hb:0 < b) (hd:0 < d):rt (a * d + c * b) (b * d)=lo (rq (a,b) + rq (c,d)):=by
 rw [G5 (Int.mul_pos hb hd)]
 unfold rq
 rw [Rat.divInt_add_divInt _ _ (by omega) (by omega)]
def Xq {a b c d:Int} (hb:0 < b) (hd:0 < d):rt (a * c) (b * d)=lo (rq (a,b) * rq (c,d)):=by
 rw [G5 (Int.mul_pos hb hd)]
 unfold rq
 rw [Rat.divInt_mul_divInt]
def Nt {q:Rat}:(lo q).1=0 ↔ q=0:=by
 show q.num=0 ↔ q=0
 exact Rat.num_eq_zero
def tot:List Part->List Int->Rat
 | [],_=>0
 | p :: ps,k=>(if p.1=k then rq p.2 else 0) + tot ps k
def j9:∀ (a b:List Part) (k:List Int),tot (a ++ b) k=tot a k + tot b k
 | [],b,k=>by rw [List.nil_append]; show _=(0:Rat) + _; rw [Rat.zero_add]
 | p :: a,b,k=>by
  show (if p.1=k then rq p.2 else 0) + tot (a ++ b) k=_ + tot a k + tot b k
  rw [j9 a b k,Rat.add_assoc]
def Mv (p:Part) (k:List Int):tot [p] k=if p.1=k then rq p.2 else 0:=by
 show (if p.1=k then rq p.2 else 0) + (0:Rat)=_
 rw [Rat.add_zero]
def Xp {ps:List Part} {i:Nat} {p:Part} (h:ps[i]?=some p) (k:List Int):tot (ps.take (i + 1)) k=tot (ps.take i) k + if p.1=k then rq p.2 else 0:=by
 rw [List.take_succ,h,j9]
 congr 1
 exact Mv p k
def xk:∀ {ps:List Part} {k:List Int},(∀ p ∈ ps,p.1 ≠ k)->tot ps k=0
 | [],_,_=>rfl
 | p :: ps,k,h=>by
  show (if p.1=k then rq p.2 else 0) + tot ps k=0
  rw [if_neg (h p zao),xk λq hq=>h q (zal _ hq),Rat.zero_add]
def cnt (ps:List Part) (k:List Int):Nat:=(ps.filter λp=>decide (p.1=k)).length
structure Bd (A B:Nat) (p:Part):Prop where
 b0:0 < p.2.2
 t:intBits p.2.1 <= A
 b:intBits p.2.2 <= B
def N7 {q:Rat} {s:Int × Int} {m n A B:Nat} (h0:0 < s.2) (h1:intBits (lo q).1 <= m) (h2:intBits (lo q).2 <= n) (h3:intBits s.1 <= A) (h4:intBits s.2 <= B) (hA:A + n <= m + B):intBits (lo (q + rq s)).1 <= m + B + 1 /\ intBits (lo (q + rq s)).2 <= n + B:=by
 have e:lo (q + rq s)=rt ((lo q).1 * s.2 + s.1 * (lo q).2) ((lo q).2 * s.2):=by
  rw [Ye (u9 q) h0,show rq ((lo q).1,(lo q).2)=q from T3 q]
 have r:=P2 (t:=(lo q).1 * s.2 + s.1 * (lo q).2) (b:=(lo q).2 * s.2) (Int.ne_of_gt (Int.mul_pos (u9 q) h0))
 rw [e]
 have b1:=PySem.intBits_add_le (PySem.intBits_mul_le h1 h4) (PySem.intBits_mul_le h3 h2)
 refine ⟨wy r.lp (zak b1 ?_),wy r.lq (PySem.intBits_mul_le h2 h4)⟩
 rw [Nat.max_eq_left (by omega)]
 exact zaj _
def N0 {ps:List Part} {i:Nat} {p:Part} (h:ps[i]?=some p) (k:List Int):cnt (ps.take (i + 1)) k=cnt (ps.take i) k + if p.1=k then 1 else 0:=by
 unfold cnt
 rw [List.take_succ,h,List.filter_append,zLa]
 congr 1
 by_cases e:p.1=k <;> simp [e]
def Mc (ps:List Part) (i:Nat) (k:List Int):cnt (ps.take i) k <= cnt ps k:=by
 unfold cnt
 exact (List.Sublist.filter _ (List.take_sublist i ps)).length_le
def sx {A B:Nat} (hB:1 <= B) {ps:List Part} (hp:∀ p ∈ ps,Bd A B p) (k:List Int):∀ i,i <= ps.length->intBits (lo (tot (ps.take i) k)).1 <= A + (B + 1) * cnt (ps.take i) k /\ intBits (lo (tot (ps.take i) k)).2 <= B * cnt (ps.take i) k + 1
 | 0,_=>⟨by show intBits 0 <= _; rw [show intBits 0=0 by decide]; exact Nat.zero_le _,by show intBits 1 <= _; rw [show intBits 1=1 by decide]; omega⟩
 | i + 1,hi=>by
  obtain ⟨p,ep⟩:∃ p,ps[i]?=some p:=⟨_,zaf (by omega)⟩
  obtain ⟨h1,h2⟩:=sx hB hp k i (by omega)
  have g:=hp p (zan ep)
  rw [Xp ep,N0 ep]
  by_cases e:p.1=k
  ·rw [if_pos e,if_pos e]
   obtain ⟨a1,a2⟩:=N7 g.b0 h1 h2 g.t g.b (by rw [Nat.add_mul]; omega)
   refine ⟨zak a1 ?_,zak a2 ?_⟩
   ·rw [Nat.mul_add]; omega
   ·rw [Nat.mul_add]; omega
  ·rw [if_neg e,if_neg e,Rat.add_zero,Nat.add_zero]
   exact ⟨h1,h2⟩
def Lt (a b:List Int):Prop:=lexB a b=true
structure Cn (ps:List Part) (L:List (List Int)):Prop where
 ord:L.Pairwise Lt
 mem:∀ k,k ∈ L ↔ tot ps k ≠ 0
def cp (ps:List Part) (L:List (List Int)):List Part:=L.map λk=>(k,lo (tot ps k))
def Sb (a:List Int):¬ Lt a a:=λh=>by
 have:=rh h
 rw [show lexB a a=true from h] at this
 cases this
def uniq:∀ {L M:List (List Int)},L.Pairwise Lt->M.Pairwise Lt->(∀ k,k ∈ L ↔ k ∈ M)->L=M
 | [],[],_,_,_=>rfl
 | [],b :: M,_,_,h=>absurd ((h b).mpr zao) (by simp)
 | a :: L,[],_,_,h=>absurd ((h a).mp zao) (by simp)
 | a :: L,b :: M,p1,p2,h=>by
  obtain ⟨a1,a2⟩:=List.pairwise_cons.mp p1
  obtain ⟨b1,b2⟩:=List.pairwise_cons.mp p2
  have e:a=b:=by
   rcases zam.mp ((h a).mp zao) with z | z
   ·exact z
   ·rcases zam.mp ((h b).mpr zao) with y | y
    ·exact y.symm
    ·have:=rh (b1 a z)
     rw [show lexB a b=true from a1 b y] at this
     cases this
  subst e
  congr 1
  refine uniq a2 b2 λk=>⟨λhk=>?_,λhk=>?_⟩
  ·rcases zam.mp ((h k).mp (zal _ hk)) with z | z
   ·subst z; exact absurd (a1 _ hk) (Sb _)
   ·exact z
  ·rcases zam.mp ((h k).mpr (zal _ hk)) with z | z
   ·subst z; exact absurd (b1 _ hk) (Sb _)
   ·exact z
def Cn.same {ps qs:List Part} {L M:List (List Int)} (h1:Cn ps L) (h2:Cn qs M) (h:∀ k,tot ps k=tot qs k):cp ps L=cp qs M:=by
 have e:L=M:=uniq h1.ord h2.ord λk=>by rw [h1.mem,h2.mem,h]
 subst e
 unfold cp
 exact List.map_congr_left λk _=>by rw [h]
def Wh {L:List (List Int)} (h:L.Pairwise Lt):L.Nodup:=by
 unfold List.Nodup
 exact h.imp λ{a b} hab e=>by subst e; exact Sb _ hab
def Jm (a b:List Part) (k:List Int):cnt (a ++ b) k=cnt a k + cnt b k:=by
 unfold cnt
 rw [List.filter_append,zLa]
local macro_rules | `(tactic| walk_at "dl")=>do
 let ids <- (("sNil sSeq sRet sIf sSet sPar d2 d1 xi dC slot setS EV.sto EV.ret aNil j0 dTup dLst Zl dCB jb vAnd vNot bAnd bOr bNot bYes tTru tBo truD sSub sFd sMod sPow sLt sGt sGe sI sI0 sAdd sMul sNeg sEq sNe sIx sSl dSl Fk Fj sLen sAbs sIsI sTupC sListC sIntC sApp iSeq iR1 iR2 Nw gN gT2 q5 Yt bw Vm X0 Yx Z0 Yw Ys Yr gz Yq bm bx fg Yy List.map_cons List.map_nil zLc zLn List.cons_append List.nil_append List.replicate_succ List.replicate_zero Nat.reduceAdd Nat.reduceSub Nat.zero_add Nat.sub_self Bool.and_self Bool.and_true Bool.true_and true_and and_true Bool.not_true Bool.not_false forall_const true_implies false_implies Bool.true_eq_false Bool.false_eq_true reduceCtorEq implies_true Kh Fi Kf Kg fw Ja Eh ww cu x5 Bool.not_eq_eq_eq_not beq_eq_false_iff_ne beq_iff_eq ne_eq decide_eq_true_eq decide_eq_false_iff_not Bool.not_eq_true Bool.not_eq_false not_true_eq_false not_false_eq_true C0 Dy Dx and_self Nat.beq_eq Nat.ble_eq Nat.reduceLeDiff eq_self Nat.reduceEqDiff sIxx keyD sIn cp10 Int.reduceLE Int.reduceToNat Ua Jo zLm Option.map_some Int.zero_add Hz Int.reduceEq Int.reduceNeg Int.reduceLT clrS Option.map_none sFrz frzS iZ Qv Qt Qu sSum wd Eo Jk dSlT Pc gd P1 bo fc ff Z3 fh bn Yu bz Vl Yz Z1 iE Er Jj sMax sInT sIxT Rv u5 sSortedU bg gx Li seqD dFz dFzL Mb Ma iZt sDictPT zSeq zSet zCnt zFor Hy Wv Uz sMax2 Lh Uy iPt Ea qc".splitOn " ").toArray).mapM λs=>`(Lean.Parser.Tactic.simpLemma| $(Lean.mkIdent s.toName):ident)
 `(tactic| simp only [$ids,*])
seal SDs SD ED EA ET EW
structure Tops (mg:Str->Option Value):Prop where
 ValueError:mg "ValueError" = none
 abs:mg "abs" = none
 all:mg "all" = none
 bool:mg "bool" = none
 dict:mg "dict" = none
 enumerate:mg "enumerate" = none
 int:mg "int" = none
 isinstance:mg "isinstance" = none
 len:mg "len" = none
 list:mg "list" = none
 max:mg "max" = none
 range:mg "range" = none
 sorted:mg "sorted" = none
 sum:mg "sum" = none
 tuple:mg "tuple" = none
 zip:mg "zip" = none
section
variable {P:Program} {w:World} {K:W.Frag} {mg:Str->Option Value} {base:Heap} {f:Addr} {fd:FuncData}
def rD (p:Int × Int):D:=.tup [.int p.1,.int p.2]
def zn (p:Part):D:=.tup [.tup (nsD p.1),rD p.2]
def kz (k:List Int):TK:=k.map Sum.inl
def dtF (es:List (List Int)) (f:List Int->Int × Int):D:=.dt (es.map kz) (es.map λk=>rD (f k))
structure Ok (ps:List Part) (many A B c:Nat):Prop where
 len:ps.length <= 5000
 kn:∀ es:List (List Int),es.Nodup->(∀ k ∈ es,∃ p ∈ ps,p.1=k)->es.length <= 60
 bd:∀ p ∈ ps,Bd A B p
 key:∀ p ∈ ps,p.1.length=many
 cn:∀ k,cnt ps k <= c
 B1:1 <= B
 s1:A + (B + 1) * c <= 2900
 s2:B * c + 1 <= 2900
 A2:A <= 2900
 B2:B <= 2900
def Seq (l:D) (ps:List Part):Prop:=l=.lst (ps.map zn) \/ l=.tup (ps.map zn)
def Hl:FT:=g1 λl φ=>∃ (ps:List Part) (many A B c:Nat),Seq l ps /\ Ok ps many A B c /\ ∀ L,Cn ps L->L.length <= ps.length->φ (dv (.tup ((cp ps L).map zn)))
def Sl {a b:List Int} (h:kz a=kz b):a=b:=List.map_inj_right (λa b e=>Sum.inl.inj e) |>.mp h
def Nu {es:List (List Int)} {k:List Int}:kz k ∈ es.map kz ↔ k ∈ es:=by
 rw [zah]
 exact ⟨λ⟨a,h,e⟩=>Sl e ▸ h,λh=>⟨k,h,rfl⟩⟩
def Wi (f:List Int->D) (k:List Int):∀ es:List (List Int),yb (es.map kz) (es.map f) (kz k)=if k ∈ es then some (f k) else none
 | []=>by simp [yb]
 | a :: es=>by
  rw [List.map_cons,List.map_cons,yb]
  by_cases e:a=k
  ·subst e
   rw [if_pos rfl,if_pos zao]
  ·rw [if_neg (λz=>e (Sl z)),Wi f k es]
   by_cases m:k ∈ es
   ·rw [if_pos m,if_pos (zal _ m)]
   ·rw [if_neg m,if_neg (by simp [m,Ne.symm e])]
def putE (es:List (List Int)) (k:List Int):List (List Int):=if k ∈ es then es else es ++ [k]
def Ft (es:List (List Int)) (k:List Int):wc (es.map kz) (kz k)=(putE es k).map kz:=by
 unfold wc putE
 by_cases m:k ∈ es
 ·rw [if_pos (Nu.mpr m),if_pos m]
 ·rw [if_neg (λz=>m (Nu.mp z)),if_neg m,zMa]
  rfl
def M8 (f:List Int->D) (k:List Int) (v:D):∀ es:List (List Int),es.Nodup->x4 (es.map kz) (es.map f) (kz k) v=(putE es k).map λx=>if x=k then v else f x
 | [],_=>by simp [x4,putE]
 | a :: es,nd=>by
  obtain ⟨n1,n2⟩:=List.nodup_cons.mp nd
  rw [List.map_cons,List.map_cons,x4]
  by_cases e:a=k
  ·subst e
   rw [if_pos rfl]
   unfold putE
   rw [if_pos zao,List.map_cons,if_pos rfl]
   congr 1
   exact List.map_congr_left λx hx=>by rw [if_neg (show ¬ x=a from λz=>n1 (z ▸ hx))]
  ·rw [if_neg (λz=>e (Sl z)),M8 f k v es n2]
   unfold putE
   by_cases m:k ∈ es
   ·rw [if_pos m,if_pos (zal _ m),List.map_cons,if_neg e]
   ·rw [if_neg m,if_neg (by simp [m,Ne.symm e]),List.cons_append,List.map_cons,if_neg e]
def Va {es:List (List Int)} {k:List Int} (nd:es.Nodup):(putE es k).Nodup:=by
 unfold putE
 split
 ·exact nd
 ·rename_i h
  exact List.nodup_append.mpr ⟨nd,by simp,by intro a ha b hb e; simp at hb; subst hb; exact h (e ▸ ha)⟩
def P6 {es:List (List Int)} {k x:List Int}:x ∈ putE es k ↔ x ∈ es \/ x=k:=by
 unfold putE
 split
 ·rename_i h
  exact ⟨.inl,λz=>z.elim id λe=>e ▸ h⟩
 ·simp
def P7 {es:List (List Int)} {k:List Int}:(putE es k).length <= es.length + 1:=by
 unfold putE
 split
 ·omega
 ·simp
structure St (ps:List Part) (i:Nat) (es:List (List Int)):Prop where
 nd:es.Nodup
 mem:∀ k,k ∈ es ↔ ∃ p ∈ ps.take i,p.1=k
 len:es.length <= i
def St.step {ps:List Part} {i:Nat} {es:List (List Int)} {p:Part} (h:St ps i es) (ep:ps[i]?=some p):St ps (i + 1) (putE es p.1):=by
 refine ⟨Va h.nd,λk=>?_,zak P7 (by have:=h.len; omega)⟩
 rw [P6,h.mem,List.take_succ,ep]
 constructor
 ·rintro (⟨q,hq,e⟩ | e)
  ·exact ⟨q,List.mem_append_left _ hq,e⟩
  ·exact ⟨p,List.mem_append_right _ (by simp),e.symm⟩
 ·rintro ⟨q,hq,e⟩
  rcases zas.mp hq with hq | hq
  ·exact .inl ⟨q,hq,e⟩
  ·have:q=p:=by simpa using hq
   subst this
   exact .inr e.symm
def St.nil (ps:List Part):St ps 0 []:=⟨List.nodup_nil,λk=>by simp,zaj _⟩
def St.get {ps:List Part} {i:Nat} {es:List (List Int)} (h:St ps i es) (k:List Int):(yb (es.map kz) (es.map λk=>rD (lo (tot (ps.take i) k))) (kz k)).getD (.tup [.int 0,.int 1])=rD (lo (tot (ps.take i) k)):=by
 rw [Wi (λk=>rD (lo (tot (ps.take i) k))) k es]
 by_cases m:k ∈ es
 ·rw [if_pos m]
  rfl
 ·rw [if_neg m,xk λp hp e=>m ((h.mem k).mpr ⟨p,hp,e⟩)]
  rfl
def St.put {ps:List Part} {i:Nat} {es:List (List Int)} {p:Part} (h:St ps i es) (ep:ps[i]?=some p) :
  D.dt (wc (es.map kz) (kz p.1)) (x4 (es.map kz) (es.map λk=>rD (lo (tot (ps.take i) k))) (kz p.1) (rD (lo (tot (ps.take i) p.1 + rq p.2))))=dtF (putE es p.1) λk=>lo (tot (ps.take (i + 1)) k):=by
 unfold dtF
 rw [Ft,M8 (λk=>rD (lo (tot (ps.take i) k))) p.1 _ es h.nd]
 congr 1
 refine List.map_congr_left λx _=>?_
 dsimp only
 rw [Xp ep]
 by_cases e:x=p.1
 ·subst e
  rw [if_pos rfl,if_pos rfl]
 ·rw [if_neg e,if_neg (Ne.symm e),Rat.add_zero]
def kg {ti:TID} {n:Nat} {js:List Nat} {g:TGD} {tc:TDb} {te:TD} {ρ:DE} {φ:EV->Prop} (P:List D->Prop) (h:∀ ψ:List D->Prop,(∀ ds,P ds->ψ ds)->ti ρ ψ)
  (hall:∀ ds,P ds->∃ f:D->Option D,ds.length <= 100000 /\ (∀ d ∈ ds,g d (ρ0 n js ρ) λρ'=>tc ρ' λc=>(c=true->te ρ' λr=>(match r.k with | .own=>False | _=>True) /\ f d=some r.d) /\ (c=false->f d=none)) /\ φ (df (.lst (ds.filterMap f)))):Xf ti n js g tc te ρ φ:=h _ hall
def outF (f:List Int->Int × Int):D->Option D
 | d=>match keyT d with
  | some k=>if (f (zK k)).1=0 then none else some (.tup [d,rD (f (zK k))])
  | none=>none
def Mx (k:List Int):tkD (kz k)=.tup (nsD k):=Y1 k
def Yh (f:List Int->Int × Int) (k:List Int):outF f (tkD (kz k))=if (f k).1=0 then none else some (zn (k,f k)):=by
 unfold outF
 dsimp only
 rw [gx]
 dsimp only
 rw [show zK (kz k)=k from vg k,Mx]
 rfl
def gn (ps:List Part):∀ es:List (List Int),(es.map λk=>tkD (kz k)).filterMap (outF λk=>lo (tot ps k))=(cp ps (es.filter λk=>decide (tot ps k ≠ 0))).map zn
 | []=>rfl
 | k :: es=>by
  rw [List.map_cons,List.filterMap_cons,Yh,gn ps es,List.filter_cons]
  by_cases z:tot ps k=0
  ·rw [if_pos (Nt.mpr z),if_neg (by simp [z])]
  ·rw [if_neg (λy=>z (Nt.mp y)),if_pos (by simp [z])]
   rfl
def wv:∀ ns:List Int,x5 (nsD ns)
 | []=>trivial
 | n :: ns=>⟨trivial,wv ns⟩
def v4 (ps:List Part):x5 (ps.map zn):=yt.mpr λd hd=>by
 obtain ⟨p,_,rfl⟩:=zah.mp hd
 exact ⟨wv p.1,by simp [rD,cu,x5],trivial⟩
def qr (ns:List Int):keyT (.tup (nsD ns))=some (kz ns):=bg ns
def X6 (T:Tops mg) (F:Fun K "is_whole" "is_whole" (top 4) f fd) (m:mg "is_whole" = some (.ref f)):FD P w K mg base 1 "is_whole" ["thing"] ja:=by
 have S:zw ["thing"] ["thing"] (za (top 4)):=⟨rfl,rfl,rfl,by decide +kernel,rfl,by decide +kernel,by decide +kernel⟩
 refine yz F S (F.binds λ_ _ _ _ _ _ us hl=>(by obtain ⟨_,rfl⟩:=Sk hl; rfl)) m λqZ A outer s H E ds φ hr hl hT=>?_
 have hu:=hr.units
 refine ⟨_,(zk (y0 (M7 (xu T.isinstance (z9 (z0 0) (z9 (Xe T.int ku) zd))) (M5 (M6 (xu T.isinstance (z9 (z0 0) (z9 (Xe T.bool h8) zd)))))))),?_⟩
 obtain ⟨a,rfl,h⟩:=Mo hT
 walk_at "dl"
 exact h
def Rc (T:Tops mg) (F:Fun K "common" "common" (top 7) f fd) (m:mg "common" = some (.ref f)):FD P w K mg base 1 "common" ["one", "other"] Y3:=by
 have S:zw ["one", "other", "rest"] ["one", "other"] (za (top 7)):=⟨rfl,rfl,rfl,by decide +kernel,rfl,by decide +kernel,by decide +kernel⟩
 refine yz F S (F.binds λ_ _ _ _ _ _ us hl=>(by obtain ⟨_,_,rfl⟩:=vj hl; rfl)) m λqZ A outer s H E ds φ hr hl hT=>?_
 have hu:=hr.units
 refine ⟨_,(zf (W0 (Xb hu (z0 1) zc) (zf (zu 2 S.nd (x8 (z0 0) (z0 1)))
    (zf (zu 0 S.nd (z0 1))
    (zk (zu 1 S.nd (z0 2))))))
   (zk (y0 (Rn T.abs (z9 (z0 0) zd))))),?_⟩
 obtain ⟨a,b,rfl,h⟩:=U5 hT
 refine ⟨λρ=>∃ x y r,ρ=[some (dv (.int x)),some (dv (.int y)),r] /\ Int.gcd x y=Int.gcd a b,λρ=>match ρ with
  | [_,some ⟨_,.int y⟩,_]=>y.natAbs
  | _=>0,⟨a,b,none,rfl,rfl⟩,?_⟩
 rintro ρ ⟨x,y,r,rfl,e⟩
 walk_at "dl"
 refine ⟨λhy=>⟨hy,⟨_,_,_,rfl,?_⟩,Rb x y hy⟩,λhy=>?_⟩
 ·rw [Wn]; exact e
 ·subst hy
  rw [Q9]
  rw [Int.gcd_zero_right] at e
  rw [e]
  exact h
def Oh (T:Tops mg) (Cd:FD P w K mg base 1 "is_whole" ["thing"] ja) (Bo:FD P w K mg base 1 "common" ["one", "other"] Y3) (F:Fun K "ratio" "ratio" (top 6) f fd) (m:mg "ratio" = some (.ref f)):FD P w K mg base 2 "ratio" ["top", "bottom"] dm:=by
 have S:zw ["top", "bottom", "divisor"] ["top", "bottom"] (za (top 6)):=⟨rfl,rfl,rfl,by decide +kernel,rfl,by decide +kernel,by decide +kernel⟩
 refine yz F S (F.binds λ_ _ _ _ _ _ us hl=>(by obtain ⟨_,_,rfl⟩:=vj hl; rfl)) m λqZ A outer s H E ds φ hr hl hT=>?_
 have hu:=hr.units
 refine ⟨_,(zf (vh (EW.et (Oj (jv (ju (zm Cd (hr.mono (by decide)) (z9 (z0 0) zd)))) (Wq (jv (ju (zm Cd (hr.mono (by decide)) (z9 (z0 1) zd))))))) (zk W1) xp)
   (zf (vh (Ol hu (z0 1) zc) (zk W1) xp)
   (zf (zu 2 S.nd (zm Bo (hr.mono (by decide)) (z9 (z0 0) (z9 (z0 1) zd))))
   (zf (vh (J7 (z0 1) zc) (zk (zu 2 S.nd (Rj (z0 2)))) xp)
   (zk (y0 (x3 (z9 (vq (z0 0) (z0 2)) (z9 (vq (z0 1) (z0 2)) zd))))))))),?_⟩
 obtain ⟨a,b,rfl,hb,hs,h⟩:=U5 hT
 walk_at "dl"
 simp only [ja,Y3,w1,w2]
 walk_at "dl"
 have hg:intBits (Int.gcd a b:Int) <= 8000:=PySem.intBits_le_of_natAbs (by have:=Int.gcd_dvd_natAbs_right a b; have:=Nat.le_of_dvd (by omega) this; omega) hs
 have hp:=X3 (t:=a) hb
 refine ⟨λz=>absurd z hb,λ_=>⟨λhn=>?_,λhn=>?_⟩⟩
 ·have e:sg a b = -(Int.gcd a b:Int):=by unfold sg; rw [if_pos hn]
  refine ⟨fdOk (m:=8000) (by omega) (PySem.intBits_neg_le hg),fdOk (m:=8000) (by omega) (PySem.intBits_neg_le hg),?_⟩
  have h':=h
  unfold rt at h'
  rw [e] at h'
  exact h'
 ·have e:sg a b=(Int.gcd a b:Int):=by unfold sg; rw [if_neg hn]
  refine ⟨fdOk (m:=8000) (by omega) hg,fdOk (m:=8000) (by omega) hg,?_⟩
  have h':=h
  unfold rt at h'
  rw [e] at h'
  exact h'
def Kz (T:Tops mg) (Ck:FD P w K mg base 2 "ratio" ["top", "bottom"] dm) (F:Fun K "plus" "plus" (top 8) f fd) (m:mg "plus" = some (.ref f)):FD P w K mg base 3 "plus" ["one", "other"] Mz:=by
 have S:zw ["one", "other"] ["one", "other"] (za (top 8)):=⟨rfl,rfl,rfl,by decide +kernel,rfl,by decide +kernel,by decide +kernel⟩
 refine yz F S (F.binds λ_ _ _ _ _ _ us hl=>(by obtain ⟨_,_,rfl⟩:=vj hl; rfl)) m λqZ A outer s H E ds φ hr hl hT=>?_
 have hu:=hr.units
 refine ⟨_,(zk (y0 (zm Ck (hr.mono (by decide)) (z9 (y8 (yq (zx hu (z0 0) zc) (zx hu (z0 1) zc)) (yq (zx hu (z0 1) zc) (zx hu (z0 0) zc))) (z9 (yq (zx hu (z0 0) zc) (zx hu (z0 1) zc)) zd))))),?_⟩
 obtain ⟨a,b,c,d,rfl,hS,hb,h⟩:=Gd hT
 walk_at "dl"
 simp only [dm,w2]
 walk_at "dl"
 exact ⟨v8 hS.a hS.d,v8 hS.c hS.b,v8 hS.b hS.d,hb,zak (Q7 hS.b hS.d) (by decide),h⟩
def Og (T:Tops mg) (Ck:FD P w K mg base 2 "ratio" ["top", "bottom"] dm) (F:Fun K "times" "times" (top 9) f fd) (m:mg "times" = some (.ref f)):FD P w K mg base 3 "times" ["one", "other"] Na:=by
 have S:zw ["one", "other"] ["one", "other"] (za (top 9)):=⟨rfl,rfl,rfl,by decide +kernel,rfl,by decide +kernel,by decide +kernel⟩
 refine yz F S (F.binds λ_ _ _ _ _ _ us hl=>(by obtain ⟨_,_,rfl⟩:=vj hl; rfl)) m λqZ A outer s H E ds φ hr hl hT=>?_
 have hu:=hr.units
 refine ⟨_,(zk (y0 (zm Ck (hr.mono (by decide)) (z9 (yq (zx hu (z0 0) zc) (zx hu (z0 1) zc)) (z9 (yq (zx hu (z0 0) zc) (zx hu (z0 1) zc)) zd))))),?_⟩
 obtain ⟨a,b,c,d,rfl,hS,hb,h⟩:=Gd hT
 walk_at "dl"
 simp only [dm,w2]
 walk_at "dl"
 exact ⟨v8 hS.a hS.c,v8 hS.b hS.d,hb,zak (Q7 hS.b hS.d) (by decide),h⟩
def X8 (T:Tops mg) (Bw:FD P w K mg base 3 "plus" ["one", "other"] Mz) (F:Fun K "gathered" "gathered" (top 12) f fd) (m:mg "gathered" = some (.ref f)):FD P w K mg base 4 "gathered" ["parts"] Hl:=by
 have S:zw ["parts", "together", "powers", "share"] ["parts"] (za (top 12)):=⟨rfl,rfl,rfl,by decide +kernel,rfl,by decide +kernel,by decide +kernel⟩
 refine yz F S (F.binds λ_ _ _ _ _ _ us hl=>(by obtain ⟨_,rfl⟩:=Sk hl; rfl)) m λqZ A outer s H E ds φ hr hl hT=>?_
 have hu:=hr.units
 refine ⟨_,(zf (y3 (zu 1 S.nd uj))
   (zf (y3 (yn (xw (z0 0)) (yk (K0:=K) (n:=2) (by rfl) (by rfl) (zl (zj (i:=2) S.nd rfl (by walk_at "o")) (zl (zj (i:=3) S.nd rfl (by walk_at "o")) yj))) (yu 2 3) (zk (rc 1 hu (z0 2) (zm Bw (hr.mono (by decide)) (z9 (rk hu (z0 1) (z0 2) (x3 (z9 zc (z9 zc zd)))) (z9 (z0 3) zd)))))))
   (zk (y0 (xb T.tuple (z9 (xh (T:=["powers"]) (F:=["together"]) (js:=[1]) (xw (t7 T.sorted (z9 (z0 1) zd))) (show zt (za (top 12)) _ ["powers"] ["together"] from ⟨rfl,by decide +kernel,by decide +kernel,by decide +kernel,by decide +kernel,by decide +kernel⟩) (.cons rfl .nil) (by decide) (λcl C fp s H=>(zj (i:=0) (show ((["powers"]:List Str) ++ (["together"]:List Str)).Nodup by decide +kernel) rfl (by walk_at "o"))) (yh (by decide)) (yc 0) (λcl C fp s H=>(Xd (Xb hu (zx hu (Zh hu (z0 1) (z0 0)) zc) zc))) (λcl C fp s H=>(x3 (z9 (z0 0) (z9 (Zh hu (z0 1) (z0 0)) zd))))) zd)))))),?_⟩
 obtain ⟨l,rfl,ps,many,A,B,c,hsq,ok,h⟩:=Dt hT
 refine zy (λρ=>ρ=[some (dv l),some (dO (dtF [] λk=>lo (tot (ps.take 0) k))),none,none]) ?_ ?_
 ·walk_at "dl"
  rfl
 rintro _ rfl
 refine zy (λρ=>∃ (es:List (List Int)),∃ (a2 a3:Option EV),St ps ps.length es /\ ρ=[some (dv l),some (dO (dtF es λk=>lo (tot ps k))),a2,a3]) ?_ ?_
 ·refine ye (ps.map zn) (λψ hψ=>?_) (λi ρ=>∃ (es:List (List Int)),∃ (a2 a3:Option EV),St ps i es /\ ρ=[some (dv l),some (dO (dtF es λk=>lo (tot (ps.take i) k))),a2,a3]) ⟨[],none,none,St.nil ps,rfl⟩ ?_ ?_
  ·walk_at "dl"
   rcases hsq with rfl | rfl <;> exact hψ
  ·rintro i d ρ hd ⟨es,a2,a3,st,rfl⟩
   rw [zai] at hd
   obtain ⟨p,ep,rfl⟩:=zar.mp hd
   have hi:=(zag.mp ep).1
   have g:=ok.bd p (zan ep)
   obtain ⟨b1,b2⟩:=sx ok.B1 ok.bd p.1 i (by omega)
   have cl:=zak (Mc ps i p.1) (ok.cn p.1)
   have m1:=Nat.mul_le_mul_left (B + 1) cl
   have m2:=Nat.mul_le_mul_left B cl
   have s1:=ok.s1
   have s2:=ok.s2
   have A2:=ok.A2
   have B2:=ok.B2
   have ol:=ok.len
   have hget:=st.get p.1
   have hput:=st.put ep
   have pl:=Ye (a:=(lo (tot (ps.take i) p.1)).1) (c:=p.2.1) (u9 (tot (ps.take i) p.1)) g.b0
   rw [show rq ((lo (tot (ps.take i) p.1)).1,(lo (tot (ps.take i) p.1)).2)=tot (ps.take i) p.1 from T3 _] at pl
   have p0:=u9 (tot (ps.take i) p.1)
   unfold zn
   unfold rD at hget hput ⊢
   walk_at "dl"
   simp only [qr]
   unfold dtF rD at hput ⊢
   dsimp only
   rw [hget]
   simp only [Mz,r2]
   rw [pl,hput]
   exact ⟨⟨zak b1 (by omega),zak b2 (by omega),zak g.t (by omega),zak g.b (by omega)⟩,Int.ne_of_gt (Int.mul_pos p0 g.b0),trivial,by have:=st.len; rw [zLm]; omega,putE es p.1,_,_,st.step ep,rfl⟩
  ·rintro ρ ⟨es,a2,a3,st,rfl⟩
   rw [zLm] at st ⊢
   rw [List.take_length]
   exact ⟨es,a2,a3,st,rfl⟩
 rintro _ ⟨es,a2,a3,st,rfl⟩
 have hol:=ok.len
 have key:∀ k ∈ es,k.length=many:=λk hk=>by
  obtain ⟨p,hp,e⟩:=(st.mem k).mp hk
  rw [<- e]
  exact ok.key p (List.mem_of_mem_take hp)
 have ell:=st.len
 have ekn:=ok.kn es st.nd λk hk=>by
  obtain ⟨p,hp,e⟩:=(st.mem k).mp hk
  exact ⟨p,List.mem_of_mem_take hp,e⟩
 unfold dtF
 walk_at "dl"
 refine kg (λds=>∃ qs:List (List Int),qs.Perm es /\ qs.Pairwise Lt /\ ds=qs.map λk=>tkD (kz k)) (λψ hψ=>?_) λds hds=>?_
 ·walk_at "dl"
  refine ⟨by omega,⟨many,λk hk=>?_⟩,λks' pk pw=>?_⟩
  ·obtain ⟨ns,mn,rfl⟩:=zah.mp hk
   exact ⟨ns,rfl,key ns mn⟩
  ·obtain ⟨qs,pq,eq⟩:=qi pk.symm es rfl
   refine hψ _ ⟨qs,pq,?_,by rw [<- eq,List.map_map]; rfl⟩
   rw [<- eq,List.pairwise_map] at pw
   refine pw.imp λ{a b} hab=>?_
   unfold ltK at hab
   rw [show zK (kz a)=a from vg a,show zK (kz b)=b from vg b] at hab
   exact hab
 ·obtain ⟨qs,pq,pw,rfl⟩:=hds
  refine ⟨outF λk=>lo (tot ps k),by rw [zLm,pq.length_eq]; omega,λd hd=>?_,?_⟩
  ·obtain ⟨k,mk,rfl⟩:=zah.mp hd
   have el:yb (es.map kz) (es.map λk=>rD (lo (tot ps k))) (kz k)=some (rD (lo (tot ps k))):=by
    rw [Wi (λk=>rD (lo (tot ps k))) k es,if_pos (pq.mem_iff.mp mk)]
   rw [Yh]
   simp only [ρ0,List.map_cons,List.map_nil,List.replicate,List.cons_append,List.nil_append]
   walk_at "dl"
   simp only [el]
   unfold rD
   walk_at "dl"
   exact ⟨λz=>by rw [if_neg z,Mx]; rfl,λz=>by rw [if_pos z]⟩
  ·rw [gn]
   walk_at "dl"
   refine ⟨v4 _,h _ ⟨pw.sublist List.filter_sublist,λk=>?_⟩ ?_⟩
   ·rw [List.mem_filter,pq.mem_iff,st.mem,List.take_length]
    refine ⟨λz=>by simpa using z.2,λz=>⟨Decidable.byContradiction λy=>z (xk λp hp e=>y ⟨p,hp,e⟩),by simpa using z⟩⟩
   ·exact zak (List.length_filter_le _ _) (by rw [pq.length_eq]; exact ell)
end
def cb:Nat->Nat->Nat
 | _,0=>1
 | 0,_ + 1=>0
 | n + 1,k + 1=>cb n k + cb n (k + 1)
def yr (n:Nat):cb n 0=1:=by cases n <;> rfl
def N2:∀ {n k:Nat},n < k->cb n k=0
 | 0,k + 1,_=>rfl
 | n + 1,k + 1,h=>by rw [cb,N2 (by omega),N2 (by omega)]
 | _,0,h=>by omega
def Q0:∀ n,cb n n=1
 | 0=>rfl
 | n + 1=>by rw [cb,Q0 n,N2 (Nat.lt_succ_self n)]
def w6:∀ (n k:Nat),((k:Int) + 1) * cb n (k + 1)=(cb n k:Int) * ((n:Int) - k)
 | 0,0=>by simp [cb]
 | 0,k + 1=>by simp [cb]
 | n + 1,0=>by
  have:=w6 n 0
  simp only [yr] at this ⊢
  rw [show cb (n + 1) (0 + 1)=cb n 0 + cb n (0 + 1) from rfl,yr]
  push_cast at this ⊢
  omega
 | n + 1,k + 1=>by
  have h1:=w6 n k
  have h2:=w6 n (k + 1)
  rw [cb,cb]
  push_cast at h1 h2 ⊢
  grind
def um (n k:Nat):cb (n + 1) (k + 1)=cb n k + cb n (k + 1):=rfl
def sm:Nat->(Nat->Int)->Int
 | 0,_=>0
 | n + 1,f=>sm n f + f n
def ym {f g:Nat->Int}:∀ {n:Nat},(∀ i,i < n->f i=g i)->sm n f=sm n g
 | 0,_=>rfl
 | n + 1,h=>by rw [sm,sm,ym λi hi=>h i (by omega),h n (by omega)]
def Xy (f g:Nat->Int):∀ n,sm n (λi=>f i + g i)=sm n f + sm n g
 | 0=>rfl
 | n + 1=>by rw [sm,sm,sm,Xy f g n]; omega
def Xx (c:Int) (f:Nat->Int):∀ n,sm n (λi=>c * f i)=c * sm n f
 | 0=>by simp [sm]
 | n + 1=>by rw [sm,sm,Xx c f n,Int.mul_add]
def uv:∀ n,sm n (λ_=>0)=0
 | 0=>rfl
 | n + 1=>by rw [sm,uv n]; rfl
def xm (f:Nat->Int):∀ n,sm (n + 1) f=f 0 + sm n λi=>f (i + 1)
 | 0=>by simp [sm]
 | n + 1=>by rw [sm,xm f n,sm]; omega
def dy {f:Nat->Int}:∀ {n:Nat},(∀ i,i < n->0 <= f i)->0 <= sm n f
 | 0,_=>by simp [sm]
 | n + 1,h=>by
  have:=dy (f:=f) (n:=n) λi hi=>h i (by omega)
  have:=h n (by omega)
  rw [sm]; omega
def Hu {f:Nat->Int} {B:Int}:∀ {n:Nat},(∀ i,i < n->f i <= B)->sm n f <= n * B
 | 0,_=>by simp [sm]
 | n + 1,h=>by
  have:=Hu (f:=f) (n:=n) (B:=B) λi hi=>h i (by omega)
  have:=h n (by omega)
  rw [sm]; push_cast; rw [Int.add_mul]; omega
def km (q:Nat):∀ (p m:Nat),(cb (p + q) m:Int)=sm (m + 1) λt=>(cb p t:Int) * cb q (m - t)
 | 0,m=>by
  rw [xm,Nat.zero_add,yr]
  rw [ym (g:=λ_=>0) λi hi=>by simp [cb],uv]
  simp
 | p + 1,0=>by simp [sm,yr]
 | p + 1,m + 1=>by
  have h1:=km q p m
  have h2:=km q p (m + 1)
  rw [show p + 1 + q=(p + q) + 1 by omega,um]
  push_cast
  rw [h1,h2,xm (λt=>(cb p t:Int) * cb q (m + 1 - t)) (m + 1),xm (λt=>(cb (p + 1) t:Int) * cb q (m + 1 - t)) (m + 1)]
  rw [ym (n:=m + 1) (f:=λi=>(cb (p + 1) (i + 1):Int) * cb q (m + 1 - (i + 1))) (g:=λi=>(cb p i:Int) * cb q (m - i) + (cb p (i + 1):Int) * cb q (m + 1 - (i + 1))) λi hi=>by
   rw [um,Nat.succ_sub_succ]; push_cast; rw [Int.add_mul],Xy]
  simp only [yr]
  omega
def Md (x:Nat):(cb x 1:Int)=x:=by
 have:=w6 x 0
 rw [yr] at this
 push_cast at this
 omega
def Es (x:Nat) (a b:Nat) (h:a + b <= 3):sm (a + b + 1 - max a b) (λi=>(cb x (max a b + i):Int) * ((cb (max a b + i) a:Int) * cb a (a + b - (max a b + i))))=(cb x a:Int) * cb x b:=by
 have h2:=w6 x 1
 have h3:=w6 x 2
 have h1:=Md x
 have ha:a=0 \/ a=1 \/ a=2 \/ a=3:=by omega
 have hb:b=0 \/ b=1 \/ b=2 \/ b=3:=by omega
 rcases ha with rfl | rfl | rfl | rfl <;> rcases hb with rfl | rfl | rfl | rfl <;> first | omega | (simp [sm,cb,yr] at h1 h2 h3 ⊢ <;> grind)
def Uo (f:Nat->Nat->Int) (k:Nat):∀ n,sm n (λi=>sm k (λj=>f i j))=sm k (λj=>sm n (λi=>f i j))
 | 0=>by simp [sm,uv]
 | n + 1=>by rw [sm,Uo f k n,<- Xy]; rfl
def Uq {f:Nat->Int} {n:Nat}:∀ k,(∀ i,n <= i->f i=0)->sm (n + k) f=sm n f
 | 0,_=>rfl
 | k + 1,h=>by rw [<- Nat.add_assoc,sm,Uq k h,h _ (by omega)]; omega
def sg (a:Nat):Nat->Int
 | 0=>0
 | t + 1=>cb a (t + 1)
def hp (a:Nat):Nat->Nat->Int
 | 0,m=>if m=0 then 1 else 0
 | h + 1,m=>sm (m + 1) λt=>hp a h (m - t) * sg a t
def Eb (a:Nat):∀ {h m:Nat},m < h->hp a h m=0
 | h + 1,m,lt=>by
  rw [hp,ym (g:=λ_=>0) λt ht=>?_,uv]
  cases t with
  | zero=>rw [sg,Int.mul_zero]
  | succ t=>rw [Eb a (by omega),Int.zero_mul]
def ud (a:Nat):∀ h m,0 <= hp a h m
 | 0,m=>by rw [hp]; split <;> omega
 | h + 1,m=>by
  rw [hp]
  refine dy λt _=>Int.mul_nonneg (ud a h _) ?_
  cases t <;> simp [sg] <;> omega
def R0 (a:Nat):∀ (x m:Nat),sm (m + 1) (λh=>hp a h m * cb x h)=cb (a * x) m
 | 0,m=>by
  rw [xm,ym (g:=λ_=>0) λi _=>by simp [cb],uv,Nat.mul_zero,yr,hp]
  cases m <;> simp [cb]
 | x + 1,m=>by
  have e1:sm (m + 1) (λh=>hp a h m * cb (x + 1) h)=sm (m + 1) (λh=>hp a h m * cb x h) + sm m (λh=>hp a (h + 1) m * cb x h):=by
   rw [xm,xm (λh=>hp a h m * cb x h)]
   rw [ym (f:=λi=>hp a (i + 1) m * (cb (x + 1) (i + 1):Int)) (g:=λi=>hp a (i + 1) m * cb x (i + 1) + hp a (i + 1) m * cb x i) λi _=>by rw [um]; push_cast; rw [Int.mul_add]; omega,Xy]
   simp only [yr]
   omega
  have e2:sm m (λh=>hp a (h + 1) m * cb x h)=sm m (λt=>sg a (t + 1) * cb (a * x) (m - (t + 1))):=by
   rw [ym (g:=λh=>sm m (λt=>sg a (t + 1) * (hp a h (m - (t + 1)) * cb x h))) λh _=>?_,Uo]
   ·refine ym λt ht=>?_
    rw [Xx,<- R0 a x (m - (t + 1))]
    congr 1
    have:=Uq (f:=λh=>hp a h (m - (t + 1)) * cb x h) (n:=m - (t + 1) + 1) t λi hi=>by rw [Eb a (by omega),Int.zero_mul]
    rw [<- this]
    congr 1
    omega
   ·rw [hp,xm,sg,Int.mul_zero,Int.zero_add,Int.mul_comm,<- Xx]
    refine ym λt _=>?_
    grind
  rw [e1,e2,R0 a x m,Nat.mul_succ,Nat.add_comm (a * x) a,km,xm,yr]
  simp only [sg,Nat.sub_zero]
  omega
def Bv:(Nat->Nat)->List Int->Int
 | _,[]=>1
 | x,a :: k=>(cb (x 0) a.toNat:Int) * Bv (λi=>x (i + 1)) k
open DL in
def evR (x:Nat->Nat):RW->Int
 | []=>0
 | q :: r=>q.2 * Bv x q.1 + evR x r
open DL in
def qv (x:Nat->Nat):∀ a b:RW,evR x (a ++ b)=evR x a + evR x b
 | [],b=>by simp [evR]
 | q :: a,b=>by rw [List.cons_append,evR,evR,qv x a b]; omega
open DL in
def Xa (x:Nat->Nat) (k:List Int) (n:Int):∀ p:RW,evR x (putR p k n)=evR x p + n * Bv x k
 | []=>by simp [putR,evR]
 | q :: p=>by
  unfold putR
  split
  ·rename_i e
   rw [evR,evR,<- e]
   dsimp only
   rw [Int.add_mul]; omega
  ·rw [evR,evR,Xa x k n p]; omega
open DL in
def J6 (x:Nat->Nat) (k:List Int) (n:Int) (p:RW):evR x (cntR p k n)=evR x p + n * Bv x k:=by
 unfold cntR
 split
 ·rename_i e; rw [e]; simp
 ·exact Xa x k n p
def dc (x:Nat->Nat):∀ n,Bv x (List.replicate n 0)=1
 | 0=>rfl
 | n + 1=>by rw [List.replicate_succ,Bv,dc (λi=>x (i + 1)) n]; simp [yr]
def Qe (h:Nat):∀ (p:Nat) (x:Nat->Nat) (k:List Int),k[p]?=some 0->Bv x (k.set p h)=Bv x k * cb (x p) h
 | 0,x,[],e=>by simp at e
 | 0,x,a :: k,e=>by
  simp at e
  subst e
  rw [List.set_cons_zero,Bv,Bv]
  simp [yr,Int.mul_comm]
 | p + 1,x,[],e=>by simp at e
 | p + 1,x,a :: k,e=>by
  rw [List.set_cons_succ,Bv,Bv,Qe h p _ k (by simpa using e),Int.mul_assoc]
def Zy:∀ (x:Nat->Nat) (k:List Int),0 <= Bv x k
 | _,[]=>by simp [Bv]
 | x,a :: k=>Int.mul_nonneg (by omega) (Zy _ k)
section
variable {P:Program} {w:World} {K:W.Frag} {mg:Str->Option Value} {base:Heap} {f:Addr} {fd:FuncData}
def wf {ti:TID} {n:Nat} {js:List Nat} {te:TD} {ρ:DE} {φ:EV->Prop} (lo:Int) (m:Nat) (hti:∀ ψ:List D->Prop,ψ (rngD lo m)->ti ρ ψ) (g:Nat->D) (hm:m <= 100000)
  (ht:∀ i,i < m->te (setS (ρ0 n js ρ) 0 (dv (.int (lo + (i:Int))))) λr=>(match r.k with | .own=>False | _=>True) /\ some (g i)=some r.d) (hφ:φ (df (.lst ((List.range m).map g)))):Xf ti n js (gN 0) bYes te ρ φ:=by
 refine v6 (rngD lo m) hti (λd=>match d with | .int t=>some (g (t - lo).toNat) | _=>none) (by rw [xf]; exact hm) (λd hd=>?_) ?_
 ·obtain ⟨i,hi⟩:=List.getElem?_of_mem hd
  obtain ⟨hi2,rfl⟩:=x9 hi
  refine ⟨λ_=>?_,λh=>nomatch h⟩
  have e:(lo + (i:Int) - lo).toNat=i:=by omega
  dsimp only
  rw [e]
  exact ht i hi2
 ·have ef:(rngD lo m).filterMap (λd=>match d with | .int t=>some (g (t - lo).toNat) | _=>none)=(List.range m).map g:=by
   unfold rngD
   rw [List.filterMap_map,<- List.filterMap_eq_map]
   congr 1
   funext i
   have e:(lo + (i:Int) - lo).toNat=i:=by omega
   show some (g (lo + (i:Int) - lo).toNat)=_
   rw [e]
   rfl
  rw [ef]
  exact hφ
def Uk (g:Nat->Int):∀ n,((List.range n).map g).sum=sm n g
 | 0=>rfl
 | n + 1=>by rw [List.range_succ,zMa,List.sum_append,Uk g n,sm]; simp
def sy:FT:=λds φ=>∃ n k:Nat,ds=[.int n,.int k] /\ n < 2 ^ 63 /\ k <= 10 /\ φ (dv (.int (cb n k)))
def Hs:FT:=λds φ=>∃ (u v:List Int) (k:Nat),ds=[.scr u,.scr v,.int k] /\ k < u.length /\ k < v.length /\ (∀ a ∈ u,intBits a <= 3000) /\ (∀ a ∈ v,intBits a <= 3000) /\ k <= 10 /\ φ (dv (.int (sm (k + 1) λt=>u.getD (k - t) 0 * v.getD t 0)))
def N3:∀ (n k:Nat),cb n k <= (n + 1) ^ k
 | _,0=>by simp [yr]
 | 0,k + 1=>by simp [cb]
 | n + 1,k + 1=>by
  have h1:=N3 n k
  have h2:=N3 n (k + 1)
  rw [um]
  have e:(n + 1) ^ (k + 1)=(n + 1) ^ k * (n + 1):=Nat.pow_succ ..
  have e2:(n + 1 + 1) ^ (k + 1)=(n + 1 + 1) ^ k * (n + 1 + 1):=Nat.pow_succ ..
  have e3:(n + 1) ^ k <= (n + 1 + 1) ^ k:=Nat.pow_le_pow_left (by omega) k
  have e4:(n + 1) ^ k * (n + 1 + 1) <= (n + 1 + 1) ^ k * (n + 1 + 1):=Nat.mul_le_mul_right _ e3
  have e5:(n + 1) ^ k * (n + 1 + 1)=(n + 1) ^ k * (n + 1) + (n + 1) ^ k:=Nat.mul_succ ..
  omega
def Ut (a t:Nat) (ha:a < 2 ^ 63) (ht:t <= 3):intBits (sg a t) <= 250:=by
 refine uo ?_
 cases t with
 | zero=>simp [sg]
 | succ t =>
  have h:=N3 a (t + 1)
  have h2:(a + 1) ^ (t + 1) <= (2 ^ 63) ^ 3:=zak (Nat.pow_le_pow_left (by omega) _) (Nat.pow_le_pow_right (by decide) ht)
  rw [sg,Int.natAbs_natCast]
  have:(2 ^ 63) ^ 3 < 2 ^ 250:=by decide
  omega
def Us (a t:Nat):0 <= sg a t:=by cases t <;> simp [sg] <;> omega
def Ec (a:Nat) (ha:a < 2 ^ 63):∀ h m,m <= 3->hp a h m <= 2 ^ (252 * h)
 | 0,m,_=>by rw [hp]; split <;> simp
 | h + 1,m,hm=>by
  rw [hp]
  have b:∀ t,t < m + 1->hp a h (m - t) * sg a t <= 2 ^ (252 * h) * 2 ^ 250:=λt ht=>by
   have h1:=Ec a ha h (m - t) (by omega)
   have h2:=PySem.intBits_le_iff.mp (Ut a t ha (by omega))
   have h3:=Us a t
   have h4:=ud a h (m - t)
   have h5:sg a t <= 2 ^ 250:=by
    have:(sg a t).natAbs=sg a t:=Int.natAbs_of_nonneg h3
    have e:((2 ^ 250:Nat):Int)=2 ^ 250:=by simp
    omega
   exact Int.mul_le_mul h1 h5 h3 (Int.pow_nonneg (by decide))
  refine Int.le_trans (Hu b) ?_
  have e:(2:Int) ^ (252 * (h + 1))=4 * (2 ^ (252 * h) * 2 ^ 250):=by
   rw [Nat.mul_succ,Int.pow_add,show (252:Nat)=250 + 2 from rfl,Int.pow_add (2:Int) 250 2]
   grind
  rw [e]
  exact Int.mul_le_mul_of_nonneg_right (by omega) (Int.mul_nonneg (Int.pow_nonneg (by decide)) (Int.pow_nonneg (by decide)))
def R6 (a h m:Nat) (ha:a < 2 ^ 63) (hh:h <= 3) (hm:m <= 3):intBits (hp a h m) <= 800:=by
 refine uo ?_
 have h1:=Ec a ha h m hm
 have h2:=ud a h m
 have h3:(2:Int) ^ (252 * h) <= 2 ^ 756:=by
  have:=Nat.pow_le_pow_right (n:=2) (by decide) (show 252 * h <= 756 by omega)
  have e:∀ k:Nat,((2 ^ k:Nat):Int)=2 ^ k:=λk=>by simp
  rw [<- e,<- e]
  exact Int.ofNat_le.mpr this
 have e:((2 ^ 756:Nat):Int)=2 ^ 756:=by simp
 have:(2:Nat) ^ 756 < 2 ^ 800:=by decide
 omega
def hpL (a H h:Nat):List Int:=(List.range (H + 1)).map λm=>hp a h m
def Ud:FT:=λds φ=>∃ a H:Nat,ds=[.int a,.int H] /\ a < 2 ^ 63 /\ H <= 3 /\ φ (df (.lst ((List.range (H + 1)).map λh=>.scr (hpL a H h))))
def Vr (T:Tops mg) (F:Fun K "choices" "choices" (top 11) f fd) (m:mg "choices" = some (.ref f)):FD P w K mg base 1 "choices" ["many", "taken"] sy:=by
 have S:zw ["many", "taken", "ways", "step"] ["many", "taken"] (za (top 11)):=⟨rfl,rfl,rfl,by decide +kernel,rfl,by decide +kernel,by decide +kernel⟩
 refine yz F S (F.binds λ_ _ _ _ _ _ us hl=>(by obtain ⟨_,_,rfl⟩:=vj hl; rfl)) m λqZ A outer s H E ds φ hr hl hT=>?_
 have hu:=hr.units
 refine ⟨_,(zf (y3 (zu 2 S.nd zc))
   (zf (y3 (yn (y7 T.range (z9 (z0 1) zd)) (zj (i:=3) S.nd rfl (by walk_at "o")) (yc 3) (zk (zu 2 S.nd (vq (yq (z0 2) (ui (z0 0) (z0 3))) (y8 (z0 3) zc))))))
   (zk (y0 (z0 2))))),?_⟩
 obtain ⟨n,k,rfl,hn,hk,h⟩:=hT
 refine zy (λρ=>ρ=[some (dv (.int n)),some (dv (.int k)),some (dv (.int 1)),none]) ?_ ?_
 ·walk_at "dl"
 rintro _ rfl
 refine zy (λρ=>∃ a,ρ=[some (dv (.int n)),some (dv (.int k)),some (dv (.int (cb n k))),a]) ?_ ?_
 ·refine ye (rngD 0 k) (λψ hψ=>?_) (λi ρ=>∃ a,ρ=[some (dv (.int n)),some (dv (.int k)),some (dv (.int (cb n i))),a]) ⟨none,by rw [yr]; rfl⟩ ?_ ?_
  ·walk_at "dl"
   exact ⟨by omega,by omega,hψ⟩
  ·rintro i d _ hd ⟨a,rfl⟩
   obtain ⟨hi,rfl⟩:=x9 hd
   have st:=w6 n i
   walk_at "dl"
   refine ⟨IntMulOk.of_right (uo (m:=64) (by omega)),fdOk (m:=64) (by omega) (uo (by omega)),some (dv (.int i)),?_⟩
   rw [<- st,Int.mul_fdiv_cancel_left _ (by omega)]
  ·rintro _ ⟨a,rfl⟩
   rw [xf]
   exact ⟨a,rfl⟩
 rintro _ ⟨a,rfl⟩
 walk_at "dl"
 exact h
def sj (T:Tops mg) (F:Fun K "taken_of_both" "taken_of_both" (top 19) f fd) (m:mg "taken_of_both" = some (.ref f)):FD P w K mg base 1 "taken_of_both" ["one", "other", "power"] Hs:=by
 have S:zw ["one", "other", "power"] ["one", "other", "power"] (za (top 19)):=⟨rfl,rfl,rfl,by decide +kernel,rfl,by decide +kernel,by decide +kernel⟩
 refine yz F S (F.binds λ_ _ _ _ _ _ us hl=>(by obtain ⟨_,_,_,rfl⟩:=bf hl; rfl)) m λqZ A outer s H E ds φ hr hl hT=>?_
 have hu:=hr.units
 refine ⟨_,(zk (y0 (Jd T.sum (z9 (xh (T:=["taken"]) (F:=["one", "other", "power"]) (js:=[0,1,2]) (y7 T.range (z9 (y8 (z0 2) zc) zd)) (show zt (za (top 19)) _ ["taken"] ["one", "other", "power"] from ⟨rfl,by decide +kernel,by decide +kernel,by decide +kernel,by decide +kernel,by decide +kernel⟩) (.cons rfl (.cons rfl (.cons rfl .nil))) (by decide) (λcl C fp s H=>(zj (i:=0) (show ((["taken"]:List Str) ++ (["one", "other", "power"]:List Str)).Nodup by decide +kernel) rfl (by walk_at "o"))) (yh (by decide)) (yc 0) (λcl C fp s H=>xg) (λcl C fp s H=>(yq (zx hu (z0 1) (ui (z0 3) (z0 0))) (zx hu (z0 2) (z0 0))))) zd)))),?_⟩
 obtain ⟨u,v,k,rfl,hu1,hv1,bu,bv,hk,h⟩:=hT
 walk_at "dl"
 refine wf 0 (k + 1) (λψ hψ=>?_) (λt=>.int (u.getD (k - t) 0 * v.getD t 0)) (by omega) (λi hi=>?_) ?_
 ·walk_at "dl"
  exact ⟨by omega,by omega,hψ⟩
 ·have e1:atI u ((k:Int) - (0 + (i:Int)))=some (u.getD (k - i) 0):=by
   rw [show (k:Int) - (0 + (i:Int))=((k - i:Nat):Int) by omega]
   exact se (by omega) (by simp [show k - i < u.length by omega])
  have e2:atI v (0 + (i:Int))=some (v.getD i 0):=se (by omega) (by simp [show i < v.length by omega])
  have m1:u.getD (k - i) 0 ∈ u:=by simp [show k - i < u.length by omega]
  have m2:v.getD i 0 ∈ v:=by simp [show i < v.length by omega]
  unfold ρ0
  walk_at "dl"
  simp only [Int.zero_add] at e1 e2
  simp only [e1,e2]
  exact ⟨v8 (bu _ m1) (bv _ m2),trivial⟩
 ·show match vc _ with | some ns=>φ (dv (.int ns.sum)) | none=>False
  rw [show (List.range (k + 1)).map (λt=>D.int (u.getD (k - t) 0 * v.getD t 0))=((List.range (k + 1)).map λt=>u.getD (k - t) 0 * v.getD t 0).map D.int from by rw [List.map_map]; rfl,wd]
  dsimp only
  rw [Uk]
  exact h
def X7 (T:Tops mg) (C4:FD P w K mg base 1 "choices" ["many", "taken"] sy) (Cb:FD P w K mg base 1 "taken_of_both" ["one", "other", "power"] Hs) (F:Fun K "heaps_of" "heaps_of" (top 18) f fd) (m:mg "heaps_of" = some (.ref f)):FD P w K mg base 2 "heaps_of" ["number", "highest"] Ud:=by
 have S:zw ["number", "highest", "single", "heaps", "heap"] ["number", "highest"] (za (top 18)):=⟨rfl,rfl,rfl,by decide +kernel,rfl,by decide +kernel,by decide +kernel⟩
 refine yz F S (F.binds λ_ _ _ _ _ _ us hl=>(by obtain ⟨_,_,rfl⟩:=vj hl; rfl)) m λqZ A outer s H E ds φ hr hl hT=>?_
 have hu:=hr.units
 refine ⟨_,(zf (y3 (zu 2 S.nd (Rl (y8 (xc (z9 zc zd)) (xh (T:=["power"]) (F:=["number"]) (js:=[0]) (Zd T.range (z9 zc (z9 (y8 (z0 1) zc) zd))) (show zt (za (top 18)) _ ["power"] ["number"] from ⟨rfl,by decide +kernel,by decide +kernel,by decide +kernel,by decide +kernel,by decide +kernel⟩) (.cons rfl .nil) (by decide) (λcl C fp s H=>(zj (i:=0) (show ((["power"]:List Str) ++ (["number"]:List Str)).Nodup by decide +kernel) rfl (by walk_at "o"))) (yh (by decide)) (yc 0) (λcl C fp s H=>xg) (λcl C fp s H=>(zm C4 (hr.mono (by decide)) (z9 (z0 1) (z9 (z0 0) zd)))))))))
   (zf (y3 (zu 3 S.nd (xc (z9 (Rl (y8 (xc (z9 zc zd)) (yq (xc (z9 zc zd)) (z0 1)))) zd))))
   (zf (y3 (yn (y7 T.range (z9 (z0 1) zd)) (zj (i:=4) S.nd rfl (by walk_at "o")) (yc 4) (zk (u4 3 (Rl (xh (T:=["power"]) (F:=["single", "heaps"]) (js:=[2,3]) (y7 T.range (z9 (y8 (z0 1) zc) zd)) (show zt (za (top 18)) _ ["power"] ["single", "heaps"] from ⟨rfl,by decide +kernel,by decide +kernel,by decide +kernel,by decide +kernel,by decide +kernel⟩) (.cons rfl (.cons rfl .nil)) (by decide) (λcl C fp s H=>(zj (i:=0) (show ((["power"]:List Str) ++ (["single", "heaps"]:List Str)).Nodup by decide +kernel) rfl (by walk_at "o"))) (yh (by decide)) (yc 0) (λcl C fp s H=>xg) (λcl C fp s H=>(zm Cb (hr.mono (by decide)) (z9 (zx hu (z0 2) (Rj zc)) (z9 (z0 1) (z9 (z0 0) zd)))))))))))
   (zk (y0 (z0 3)))))),?_⟩
 obtain ⟨a,H,rfl,ha,hH,h⟩:=hT
 have sgb:∀ t,t <= 3->intBits (sg a t) <= 250:=λt ht=>Ut a t ha ht
 refine zy (λρ=>ρ=[some (dv (.int a)),some (dv (.int H)),some (dv (.scr ((List.range (H + 1)).map (sg a)))),none,none]) ?_ ?_
 ·walk_at "dl"
  refine wf 1 H (λψ hψ=>?_) (λt=>.int (sg a (t + 1))) (by omega) (λi hi=>?_) ?_
  ·walk_at "dl"
   exact ⟨⟨by omega,by omega,by omega,by omega⟩,by rw [show ((H:Int) + 1 - 1).toNat=H by omega]; exact hψ⟩
  ·unfold ρ0
   walk_at "dl"
   refine ⟨a,i + 1,by rw [show (1:Int) + (i:Int)=((i + 1:Nat):Int) by omega],ha,by omega,trivial,rfl⟩
  ·refine ⟨by rw [sizeLine_eq,zLm,List.length_range]; simp only [zLc,zLn]; omega,(List.range (H + 1)).map (sg a),?_,rfl⟩
   rw [show D.int 0=D.int (sg a 0) from rfl,show [D.int (sg a 0)] ++ (List.range H).map (λt=>D.int (sg a (t + 1)))=((List.range (H + 1)).map (sg a)).map D.int from by rw [List.range_succ_eq_map,List.map_cons,List.map_cons,List.map_map,List.map_map]; rfl]
 rintro _ rfl
 refine zy (λρ=>ρ=[some (dv (.int a)),some (dv (.int H)),some (dv (.scr ((List.range (H + 1)).map (sg a)))),some (dO (.lst [.scr (hpL a H 0)])),none]) ?_ ?_
 ·walk_at "dl"
  refine ⟨by omega,by omega,by rw [sizeLine_eq]; omega,by rw [sizeLine_eq,gw]; simp; omega,hpL a H 0,?_,rfl⟩
  rw [show ((H:Int)).toNat=H from by simp,show (List.replicate H [D.int 0]).flatten=(List.replicate H (0:Int)).map D.int from by rw [List.map_replicate]; exact List.flatten_replicate_singleton ..]
  unfold hpL
  rw [List.range_succ_eq_map,List.map_cons,List.map_cons,List.map_map,show (List.replicate H (0:Int))=(List.range H).map (λm=>hp a 0 (m + 1)) from by
   have e:∀ m,hp a 0 (m + 1)=0:=λm=>by rw [hp]; rfl
   simp only [e]
   rw [List.map_const',List.length_range]]
  simp only [List.map_map]
  rfl
 rintro _ rfl
 refine zy (λρ=>∃ x,ρ=[some (dv (.int a)),some (dv (.int H)),some (dv (.scr ((List.range (H + 1)).map (sg a)))),some (dO (.lst ((List.range (H + 1)).map λh=>.scr (hpL a H h)))),x]) ?_ ?_
 ·refine ye (rngD 0 H) (λψ hψ=>?_) (λi ρ=>∃ x,ρ=[some (dv (.int a)),some (dv (.int H)),some (dv (.scr ((List.range (H + 1)).map (sg a)))),some (dO (.lst ((List.range (i + 1)).map λh=>.scr (hpL a H h)))),x]) ⟨none,rfl⟩ ?_ ?_
  ·walk_at "dl"
   exact ⟨by omega,by omega,hψ⟩
  ·rintro i d _ hd ⟨x,rfl⟩
   obtain ⟨hi,rfl⟩:=x9 hd
   unfold gN
   have last:atI (List.range (i + 1)) (-1)=some i:=by
    unfold atI ixN
    rw [if_neg (by omega),if_pos (by simp; omega)]
    show (List.range (i + 1))[_]?=_
    rw [show ((-1:Int) + (List.range (i + 1)).length).toNat=i by simp; omega]
    simp
   refine Y8 rfl ?_
   walk_at "dl"
   refine wf 0 (H + 1) (λψ hψ=>?_) (λt=>.int (hp a (i + 1) t)) (by omega) (λt ht=>?_) ?_
   ·walk_at "dl"
    exact ⟨by omega,by omega,hψ⟩
   ·unfold ρ0
    walk_at "dl"
    simp only [last,Option.map_some]
    refine ⟨hpL a H i,(List.range (H + 1)).map (sg a),t,rfl,by simp [hpL]; omega,by simp; omega,?_,?_,by omega,trivial,?_⟩
    ·intro b hb
     unfold hpL at hb
     obtain ⟨y,hy,rfl⟩:=zah.mp hb
     exact zak (R6 a i y ha (by omega) (by have:=List.mem_range.mp hy; omega)) (by decide)
    ·intro b hb
     obtain ⟨y,hy,rfl⟩:=zah.mp hb
     exact zak (sgb y (by have:=List.mem_range.mp hy; omega)) (by decide)
    ·rw [hp]
     congr 2
     refine ym λj hj=>?_
     have e1:(hpL a H i).getD (t - j) 0=hp a i (t - j):=by unfold hpL; simp [show t - j < H + 1 by omega]
     have e2:((List.range (H + 1)).map (sg a)).getD j 0=sg a j:=by simp [show j < H + 1 by omega]
     rw [e1,e2]
   ·refine ⟨hpL a H (i + 1),?_,by simp; omega,some (dv (.int (i:Int))),?_⟩
    ·unfold hpL
     rw [List.map_map]
     rfl
    ·rw [List.range_succ (n:=i + 1),zMa]
     rfl
  ·rintro _ ⟨x,rfl⟩
   rw [xf]
   exact ⟨x,rfl⟩
 rintro _ ⟨x,rfl⟩
 walk_at "dl"
 exact ⟨yt.mpr λd hd=>by obtain ⟨y,_,rfl⟩:=zah.mp hd; trivial,h⟩
def g0 {ti:TID} {g:TGD} {tb:TG3} {ρ:DE} {ps:List RW} {N:DE->List RW->Prop} (ds:List D) (h:∀ ψ:List D->Prop,ψ ds->ti ρ ψ) (P:Nat->DE->List RW->Prop) (h0:P 0 ρ ps) (ht:∀ i d ρ ps,ds[i]?=some d->P i ρ ps->g d ρ λρ'=>tb ρ' ps (P (i + 1))) (hN:∀ ρ ps,P ds.length ρ ps->N ρ ps):zFor ti g tb ρ ps N:=h _ ⟨P,h0,ht,hN⟩
def xo {i:Nat} {ρ:DE} {v:EV} {φ:EV->Prop} (e:slot ρ i=some v) (h:φ v):xi i ρ φ:=by
 unfold xi
 rw [e]
 exact h
def d0 {op:D->D->(EV->Prop)->Prop} {ta tb:TD} {ρ:DE} {φ:EV->Prop} (x y:EV) (h1:∀ ψ:EV->Prop,ψ x->ta ρ ψ) (h2:∀ ψ:EV->Prop,ψ y->tb ρ ψ) (h:op x.d y.d φ):d2 op ta tb ρ φ:=h1 _ (h2 _ h)
def KOk (many d z:Nat) (k:List Int):Prop:=k.length=many /\ (∀ a ∈ k,0 <= a) /\ k.sum <= d /\ ∀ j,z <= j->j < many->k[j]?=some 0
def ROk (many d z:Nat) (r:RW):Prop:=(r.map Prod.fst).Nodup /\ ∀ q ∈ r,KOk many d z q.1 /\ 0 <= q.2
def ROk.cnt {many d z:Nat} {r:RW} {k:List Int} {n:Int} (h:ROk many d z r) (hk:KOk many d z k) (hn:0 <= n):ROk many d z (cntR r k n):=by
 unfold cntR
 split
 ·exact h
 ·refine ⟨uw h.1,?_⟩
  have gen:∀ p:RW,(∀ q ∈ p,KOk many d z q.1 /\ 0 <= q.2)->∀ q ∈ putR p k n,KOk many d z q.1 /\ 0 <= q.2:=by
   intro p
   induction p with
   | nil=>intro _ q hq; simp [putR] at hq; subst hq; exact ⟨hk,hn⟩
   | cons a p ih =>
    intro hp q hq
    unfold putR at hq
    have ha:=hp a (by simp)
    split at hq
    ·rcases zam.mp hq with rfl | hq
     ·exact ⟨ha.1,by have:=ha.2; show 0 <= a.2 + n; omega⟩
     ·exact hp q (by simp [hq])
    ·rcases zam.mp hq with rfl | hq
     ·exact ha
     ·exact ih (λq hq=>hp q (by simp [hq])) q hq
  exact gen r h.2
def hv (hh:List (List Int)) (h j:Nat):Int:=(hh.getD h []).getD j 0
def Fv (hh:List (List Int)) (pl:Nat) (x:Nat->Nat) (j:Nat):Int:=sm (j + 1) λh=>hv hh h j * cb (x pl) h
structure GIn (many H pl:Nat) (ss:List RW) (hh:List (List Int)):Prop where
 H3:H <= 3
 m3:many <= 16
 ls:ss.length=H + 1
 lh:hh.length=H + 1
 lr:∀ r ∈ hh,r.length=H + 1
 hb:∀ r ∈ hh,∀ a ∈ r,0 <= a /\ intBits a <= 3000
 pm:pl < many
 ok:∀ (i:Nat) r,ss[i]?=some r->ROk many i pl r
 bt:∀ r ∈ ss,∀ q ∈ r,intBits q.2 <= 3000
 sz:∀ r ∈ ss,r.length <= 1000
 fin:∀ (es:List (List Int)),es.Nodup->(∀ k ∈ es,KOk many H many k)->es.length <= 1000
def gR (ss:List RW) (i:Nat):RW:=ss.getD i []
def Ei {l:List D} {i:Nat} {d:D} (h:(enD l)[i]?=some d):∃ hi:i < l.length,d=.tup [.int (i:Nat),l[i]]:=by
 unfold enD at h
 rw [zai,List.getElem?_zipIdx] at h
 cases ex:l[i]? with
 | none=>rw [ex] at h; cases h
 | some x =>
  rw [ex] at h
  obtain ⟨hi,e⟩:=zag.mp ex
  refine ⟨hi,?_⟩
  rw [e]
  simpa using h.symm
def Jl (k:List Int) (pl:Nat) (h:Nat) (hl:pl < k.length):(DL.cutD (k.map D.int) none (some (pl:Int))) ++ [D.int (0 + (h:Int))] ++ DL.cutD (k.map D.int) (some ((pl:Int) + 1)) none=(k.set pl (h:Int)).map D.int:=by
 rw [Rx,show ((pl:Int) + 1)=((pl + 1:Nat):Int) by omega,Ry,List.set_eq_take_append_cons_drop,if_pos hl,Int.zero_add]
 simp
def W4 {ds:List D} {i:Int} {d:D} {φ:EV->Prop} (e:atI ds i=some d) (h:φ (dv d)):sIxx (.lst ds) (.int i) φ:=by
 show match atI ds i with | some d=>φ (dv d) | none=>False
 rw [e]
 exact h
def Qx {ns:List Int} {i n:Int} {φ:EV->Prop} (e:atI ns i=some n) (h:φ (dv (.int n))):sIxx (.scr ns) (.int i) φ:=by
 show match atI ns i with | some d=>φ (dv (.int d)) | none=>False
 rw [e]
 exact h
def Nc:FT:=λds φ=>∃ (many H pl:Nat) (ss:List RW) (hh:List (List Int)),ds=[.lst (ss.map D.dz),.int pl,.lst (hh.map D.scr)] /\ GIn many H pl ss hh /\
 ∀ rs:List RW,rs.length=H + 1->(∀ (m:Nat) r,rs[m]?=some r->ROk many m (pl + 1) r)->(∀ x m,m <= H->evR x (gR rs m)=sm (m + 1) λi=>evR x (gR ss i) * Fv hh pl x (m - i))->φ ⟨.new,.lst (rs.map D.dz)⟩
def KOk.up {many d z d' z':Nat} {k:List Int} (h:KOk many d z k) (hd:d <= d') (hz:z <= z'):KOk many d' z' k:=⟨h.1,h.2.1,by have:=h.2.2.1; omega,λj hj=>h.2.2.2 j (by omega)⟩
def Uj:∀ (k:List Int) (p:Nat) (h:Int),k[p]?=some 0->(k.set p h).sum=k.sum + h
 | [],p,h,e=>by simp at e
 | a :: k,0,h,e=>by
  simp at e
  subst e
  simp; omega
 | a :: k,p + 1,h,e=>by
  rw [List.set_cons_succ,List.sum_cons,List.sum_cons,Uj k p h (by simpa using e)]; omega
def KOk.set {many i pl:Nat} {k:List Int} (hk:KOk many i pl k) (pm:pl < many) (h:Nat):KOk many (i + h) (pl + 1) (k.set pl h):=by
 have e0:=hk.2.2.2 pl (zaj _) pm
 refine ⟨by rw [List.length_set]; exact hk.1,λa ha=>?_,by rw [Uj k pl h e0]; have:=hk.2.2.1; push_cast; omega,λj hj hj2=>?_⟩
 ·rcases List.mem_or_eq_of_mem_set ha with ha | rfl
  ·exact hk.2.1 a ha
  ·omega
 ·rw [List.getElem?_set_ne (by omega)]
  exact hk.2.2.2 j (by omega) hj2
def X9 (T:Tops mg) (F:Fun K "count_in" "count_in" (top 21) f fd) (m:mg "count_in" = some (.ref f)):FC P w K mg base 1 "count_in" ["told", "powers", "ways"]:=by
 have S:zw ["told", "powers", "ways"] ["told", "powers", "ways"] (za (top 21)):=⟨rfl,rfl,rfl,by decide +kernel,rfl,by decide +kernel,by decide +kernel⟩
 refine Dq F S rfl rfl (F.binds λ_ _ _ _ _ _ us hl=>(by obtain ⟨_,_,_,rfl⟩:=bf hl; rfl)) m λqZ A outer s H E hr=>?_
 have hu:=hr.units
 refine ⟨_,_,Ls (Γ:=λ_=>True) ⟨H,trivial⟩ hu (Xb hu (z0 2) zc) (y8 (rk hu (z0 0) (z0 1) zc) (z0 2)) rfl rfl,λp k n=>⟨λφ h=>?_,λφ h=>?_⟩⟩
 ·walk_at "dl"
  rw [show (decide (n ≠ 0))=!(n == 0) from by by_cases z:n=0 <;> simp [z]] at h
  exact h
 ·walk_at "dl"
  rw [show keyT (ikD k)=some (k.map Sum.inl) from qr k]
  show match (yb _ _ _).getD (D.int 0),D.int n with | D.int i,D.int j=>φ (dv (D.int (i + j))) | D.str p,D.str q=>_ | D.lst p,D.lst q=>_ | D.tup p,D.tup q=>_ | _,_=>False
  rw [Yl]
  exact h
def Oi (T:Tops mg) (B7:FC P w K mg base 1 "count_in" ["told", "powers", "ways"]) (F:Fun K "grown" "grown" (top 20) f fd) (m:mg "grown" = some (.ref f)):FD P w K mg base 2 "grown" ["spread", "place", "heaps"] Nc:=by
 have S:zw ["spread", "place", "heaps", "told", "here", "one", "powers", "ways", "more", "heap", "met"] ["spread", "place", "heaps"] (za (top 20)):=⟨rfl,rfl,rfl,by decide +kernel,rfl,by decide +kernel,by decide +kernel⟩
 refine yz F S (F.binds λ_ _ _ _ _ _ us hl=>(by obtain ⟨_,_,_,rfl⟩:=bf hl; rfl)) m λqZ A outer s H E ds φ hr hl hT=>?_
 have hu:=hr.units
 refine ⟨_,(L7 3 S.nd (xw (z0 0)) (show zt (za (top 20)) _ ["one"] [] from ⟨rfl,by decide +kernel,by decide +kernel,by decide +kernel,by decide +kernel,by decide +kernel⟩) (λcl C fp s H=>(zj (i:=0) (show ((["one"]:List Str) ++ ([]:List Str)).Nodup by decide +kernel) rfl (by walk_at "o"))) (yh (by decide)) (Xl (Zf T.enumerate (z9 (z0 0) zd)) (yk (K0:=K) (n:=2) (by rfl) (by rfl) (zl (zj (i:=4) S.nd rfl (by walk_at "o")) (zl (zj (i:=5) S.nd rfl (by walk_at "o")) yj))) (U1 4 5 (by decide) (by decide)) (Xk (Xl (uh (z0 5)) (yk (K0:=K) (n:=2) (by rfl) (by rfl) (zl (zj (i:=6) S.nd rfl (by walk_at "o")) (zl (zj (i:=7) S.nd rfl (by walk_at "o")) yj))) (U1 6 7 (by decide) (by decide)) (Xk (Xl (y7 T.range (z9 (ui (Rk T.len (z9 (z0 0) zd)) (z0 4)) zd)) (zj (i:=8) S.nd rfl (by walk_at "o")) (U2 8 (by decide)) (Xk (Xl (y7 T.range (z9 (y8 (z0 8) zc) zd)) (zj (i:=9) S.nd rfl (by walk_at "o")) (U2 9 (by decide)) (Mh (Jw 10 (by decide) S.nd (fx (fx (Zg (z0 6) qx (vp (z0 1))) (Jc (z9 (z0 9) zd))) (Zg (z0 6) (vp (y8 (z0 1) zc)) qx))) (Xk (Jx B7 (hr.mono (by decide)) (y8 (z0 4) (z0 8)) (z0 10) (yq (z0 7) (zx hu (zx hu (z0 2) (z0 9)) (z0 8)))))))))))))),?_⟩
 obtain ⟨many,H,pl,ss,hh,rfl,gi,h⟩:=hT
 refine ⟨?_,by show 3 < 11; decide,?_⟩
 ·intro i r e
  have:i < 3 \/ 3 <= i:=by omega
  rcases this with z | z
  ·have:i=0 \/ i=1 \/ i=2:=by omega
   rcases this with rfl | rfl | rfl <;> cases e <;> rfl
  ·rw [show q5 _ _=[some (dv (.lst (ss.map D.dz))),some (dv (.int pl)),some (dv (.lst (hh.map D.scr)))] ++ List.replicate 8 none from rfl,List.getElem?_append_right z,List.getElem?_replicate] at e
   split at e <;> cases e
 ·refine ⟨trivial,(show (ss.map D.dz).length <= 1000 by rw [zLm]; have:=gi.ls; have:=gi.H3; omega),?_⟩
  rw [zLm]
  have H3:=gi.H3
  have ls:=gi.ls
  refine g0 (enD (ss.map D.dz)) (λψ hψ=>⟨trivial,hψ⟩) (λi ρ ps=>(∃ a b c d e f g,ρ=[some (dv (.lst (ss.map D.dz))),some (dv (.int pl)),some (dv (.lst (hh.map D.scr))),none,a,b,c,d,e,f,g]) /\ ps.length=H + 1 /\ (∀ (m:Nat) r,ps[m]?=some r->ROk many m (pl + 1) r) /\ ∀ x m,m <= H->evR x (gR ps m)=sm i λi'=>if i' <= m then evR x (gR ss i') * Fv hh pl x (m - i') else 0) ?_ ?_ ?_
  ·refine ⟨⟨none,none,none,none,none,none,none,rfl⟩,by rw [List.length_replicate,ls],λm r e=>?_,λx m hm=>?_⟩
   ·rw [List.getElem?_replicate] at e
    split at e
    ·cases e; exact ⟨List.nodup_nil,λq hq=>absurd hq (by simp)⟩
    ·cases e
   ·unfold gR
    rw [show (List.replicate ss.length ([]:RW)).getD m []=[] by simp [List.getElem?_replicate]; split <;> rfl,evR]
    exact (uv 0).symm
  ·rintro i d _ ps hd ⟨⟨a,b,c,d4,e5,f6,g7,rfl⟩,lps,okp,evp⟩
   obtain ⟨hi,rfl⟩:=Ei hd
   rw [zLm] at hi
   have ei:ss[i]?=some ss[i]:=zaf hi
   rw [List.getElem_map]
   obtain ⟨si,esi⟩:∃ si,si=ss[i]:=⟨_,rfl⟩
   rw [<- esi] at ei ⊢
   have egR:gR ss i=si:=by unfold gR; simp [List.getD,ei]
   have oks:=gi.ok i si ei
   have bts:=gi.bt si (zan ei)
   show zFor (iZt (xi 5)) (gT2 6 7) _ [some (dv (.lst (ss.map D.dz))),some (dv (.int pl)),some (dv (.lst (hh.map D.scr))),none,some (dv (.int (i:Nat))),some (dv (.dz si)),c,d4,e5,f6,g7] ps _
   refine g0 (si.map prD) (λψ hψ=>hψ) (λt ρ qs=>(∃ c d e f g,ρ=[some (dv (.lst (ss.map D.dz))),some (dv (.int pl)),some (dv (.lst (hh.map D.scr))),none,some (dv (.int (i:Nat))),some (dv (.dz si)),c,d,e,f,g]) /\ qs.length=H + 1 /\ (∀ (m:Nat) r,qs[m]?=some r->ROk many m (pl + 1) r) /\ ∀ x m,m <= H->evR x (gR qs m)=evR x (gR ps m) + if i <= m then evR x (si.take t) * Fv hh pl x (m - i) else 0) ⟨⟨_,_,_,_,_,rfl⟩,lps,okp,λx m _=>by simp [evR]⟩ ?_ ?_
   ·rintro t d _ qs hd ⟨⟨c,d4,e5,f6,g7,rfl⟩,lqs,okq,evq⟩
    rw [zai] at hd
    obtain ⟨⟨k,n⟩,ep,rfl⟩:=zar.mp hd
    have mq:=zan ep
    obtain ⟨ok1,n0⟩:=oks.2 _ mq
    have nb:=bts _ mq
    have etk:∀ x,evR x (si.take (t + 1))=evR x (si.take t) + n * Bv x k:=λx=>by
     rw [List.take_add_one,ep,qv]
     simp [evR]
    show zFor (iR1 _) (gN 8) _ [some (dv (.lst (ss.map D.dz))),some (dv (.int pl)),some (dv (.lst (hh.map D.scr))),none,some (dv (.int (i:Nat))),some (dv (.dz si)),some (dv (ikD k)),some (dv (.int n)),e5,f6,g7] qs _
    refine g0 (rngD 0 (H + 1 - i)) (λψ hψ=>?_) (λj ρ us=>(∃ e f g,ρ=[some (dv (.lst (ss.map D.dz))),some (dv (.int pl)),some (dv (.lst (hh.map D.scr))),none,some (dv (.int (i:Nat))),some (dv (.dz si)),some (dv (ikD k)),some (dv (.int n)),e,f,g]) /\ us.length=H + 1 /\ (∀ (m:Nat) r,us[m]?=some r->ROk many m (pl + 1) r) /\ ∀ x m,m <= H->evR x (gR us m)=evR x (gR qs m) + if i <= m /\ m < i + j then n * Bv x k * Fv hh pl x (m - i) else 0) ⟨⟨_,_,_,rfl⟩,lqs,okq,λx m _=>by rw [if_neg (by omega)]; omega⟩ ?_ ?_
    ·walk_at "dl"
     exact ⟨by omega,by omega,by rw [show ((ss.length:Int) - i).toNat=H + 1 - i by omega]; exact hψ⟩
    ·rintro j d _ us hd ⟨⟨e5,f6,g7,rfl⟩,lus,oku,evu⟩
     obtain ⟨hj,rfl⟩:=x9 hd
     show zFor (iR1 _) (gN 9) _ [some (dv (.lst (ss.map D.dz))),some (dv (.int pl)),some (dv (.lst (hh.map D.scr))),none,some (dv (.int (i:Nat))),some (dv (.dz si)),some (dv (ikD k)),some (dv (.int n)),some (dv (.int (0 + (j:Int)))),f6,g7] us _
     refine g0 (rngD 0 (j + 1)) (λψ hψ=>?_) (λh ρ vs=>(∃ f g,ρ=[some (dv (.lst (ss.map D.dz))),some (dv (.int pl)),some (dv (.lst (hh.map D.scr))),none,some (dv (.int (i:Nat))),some (dv (.dz si)),some (dv (ikD k)),some (dv (.int n)),some (dv (.int (0 + (j:Int)))),f,g]) /\ vs.length=H + 1 /\ (∀ (m:Nat) r,vs[m]?=some r->ROk many m (pl + 1) r) /\ ∀ x m,m <= H->evR x (gR vs m)=evR x (gR us m) + if m=i + j then sm h λh=>n * hv hh h j * (Bv x k * cb (x pl) h) else 0) ⟨⟨_,_,rfl⟩,lus,oku,λx m _=>by simp [sm]⟩ ?_ ?_
     ·walk_at "dl"
      exact ⟨by omega,by omega,hψ⟩
     ·rintro hq d _ vs hd ⟨⟨f6,g7,rfl⟩,lvs,okv,evv⟩
      obtain ⟨hh1,rfl⟩:=x9 hd
      have hj2:j < H + 1 - i:=hj
      have e0:(i:Int) + (0 + (j:Int))=((i + j:Nat):Int):=by omega
      have hvl:i + j < vs.length:=by omega
      have evj:vs[i + j]?=some vs[i + j]:=zaf hvl
      obtain ⟨p,ep2⟩:∃ p,p=vs[i + j]:=⟨_,rfl⟩
      rw [<- ep2] at evj
      have okp2:=okv _ _ evj
      have lhh:hq < hh.length:=by rw [gi.lh]; omega
      have mh:hh.getD hq [] ∈ hh:=by simp [lhh]
      have e3:atI hh (0 + (hq:Int))=some (hh.getD hq []):=by rw [Int.zero_add]; exact se (by omega) (by simp [lhh])
      have lr:=gi.lr _ mh
      have e4:atI (hh.getD hq []) (0 + (j:Int))=some (hv hh hq j):=by rw [Int.zero_add]; exact se (by omega) (by unfold hv; rw [zaq (l:=hh.getD hq [])]; rw [show ((j:Int)).toNat=j from by simp,zaf (show j < (hh.getD hq []).length by omega)]; rfl)
      have mv:hv hh hq j ∈ hh.getD hq []:=by unfold hv; rw [zaq (l:=hh.getD hq [])]; rw [zaf (show j < (hh.getD hq []).length by omega)]; exact List.getElem_mem _
      obtain ⟨v0,vb⟩:=gi.hb _ mh _ mv
      have kk:=ok1.set gi.pm hq
      have cut:(DL.cutD (k.map D.int) none (some (pl:Int))) ++ [D.int (0 + (hq:Int))] ++ DL.cutD (k.map D.int) (some ((pl:Int) + 1)) none=(k.set pl (hq:Int)).map D.int:=Jl k pl hq (by rw [ok1.1]; exact gi.pm)
      have lp:p.length <= 10000:=by
       have:=gi.fin (p.map Prod.fst) okp2.1 λk hk=>by
        obtain ⟨q,hq,rfl⟩:=zah.mp hk
        exact (okp2.2 q hq).1.up (by omega) (by have:=gi.pm; omega)
       rw [zLm] at this
       omega
      unfold gN
      have e3':atI (hh.map D.scr) (0 + (hq:Int))=some (.scr (hh.getD hq [])):=by rw [Int.zero_add]; exact se (by omega) (by simp [lhh])
      have pc:∀ a b,x5 (DL.cutD (k.map D.int) a b):=λa b=>yt.mpr λd hd=>by
       have:=List.mem_of_mem_drop (List.mem_of_mem_take hd)
       obtain ⟨y,_,rfl⟩:=zah.mp this
       trivial
      have lc:∀ a b,(DL.cutD (k.map D.int) a b).length <= 20:=λa b=>by
       unfold DL.cutD
       rw [List.length_take,List.length_drop,zLm,ok1.1]
       have:=gi.m3
       omega
      have l1:=lc none (some (pl:Int))
      have l2:=lc (some ((pl:Int) + 1)) none
      refine ⟨⟨trivial,trivial⟩,rfl,pc _ _,trivial,?_,?_⟩
      ·rw [sizeLine_eq]
       show _ + 1 <= _
       omega
      refine ⟨trivial,pc _ _,?_,trivial,i + j,p,congrArg D.int e0,evj,lp,?_⟩
      ·rw [sizeLine_eq,zLa]
       show _ + 1 + _ <= _
       omega
      refine xo (v:=dv (.tup (DL.cutD (k.map D.int) none (some (pl:Int)) ++ [D.int (0 + (hq:Int))] ++ DL.cutD (k.map D.int) (some ((pl:Int) + 1)) none))) rfl ?_
      refine d0 (x:=dv (.int n)) (y:=dv (.int (hv hh hq j))) (λψ hψ=>xo rfl hψ) (λψ hψ=>d0 (x:=dv (.scr (hh.getD hq []))) (y:=dv (.int (0 + (j:Int)))) (λψ hψ=>d0 (x:=dv (.lst (hh.map D.scr))) (y:=dv (.int (0 + (hq:Int)))) (λψ hψ=>xo rfl hψ) (λψ hψ=>xo rfl hψ) (W4 e3' hψ)) (λψ hψ=>xo rfl hψ) (Qx e4 hψ)) ?_
      refine ⟨v8 nb vb,k.set pl (hq:Int),n * hv hh hq j,congrArg D.tup cut,rfl,⟨_,_,rfl⟩,by rw [List.length_set]; exact lvs,λm r em=>?_,λx m hm=>?_⟩
      ·by_cases z:m=i + j
       ·subst z
        rw [List.getElem?_set_self hvl] at em
        cases em
        exact okp2.cnt (kk.up (by omega) (zaj _)) (Int.mul_nonneg n0 v0)
       ·rw [List.getElem?_set_ne (λy=>z y.symm)] at em
        exact okv m r em
      ·have gs:gR (vs.set (i + j) (cntR p (k.set pl (hq:Int)) (n * hv hh hq j))) m=if m=i + j then cntR p (k.set pl (hq:Int)) (n * hv hh hq j) else gR vs m:=by
        unfold gR
        by_cases z:m=i + j
        ·subst z
         rw [if_pos rfl,zaq,List.getElem?_set_self hvl]
         rfl
        ·rw [if_neg z,zaq,List.getElem?_set_ne (λy=>z y.symm),<- zaq]
       have hev:=evv x m hm
       rw [gs]
       by_cases z:m=i + j
       ·subst z
        have gp:gR vs (i + j)=p:=by unfold gR; rw [zaq,evj]; rfl
        rw [gp,if_pos rfl] at hev
        rw [if_pos rfl,if_pos rfl,J6,hev,sm,Qe hq pl x k (ok1.2.2.2 pl (zaj _) gi.pm)]
        omega
       ·rw [if_neg z] at hev ⊢
        rw [if_neg z]
        exact hev
     ·rintro _ vs ⟨⟨f6,g7,rfl⟩,lvs,okv,evv⟩
      rw [xf] at evv
      refine ⟨⟨_,_,_,rfl⟩,lvs,okv,λx m hm=>?_⟩
      rw [evv x m hm,evu x m hm]
      by_cases z:m=i + j
      ·subst z
       rw [if_pos rfl,if_neg (by omega),if_pos ⟨by omega,by omega⟩,show i + j - i=j by omega]
       unfold Fv
       rw [Int.add_zero,<- Xx]
       congr 1
       exact ym λh _=>by grind
      ·rw [if_neg z,Int.add_zero]
       congr 1
       by_cases y:i <= m /\ m < i + j
       ·rw [if_pos y,if_pos ⟨y.1,by omega⟩]
       ·rw [if_neg y,if_neg (λw=>y ⟨w.1,by omega⟩)]
    ·rintro _ us ⟨⟨e5,f6,g7,rfl⟩,lus,oku,evu⟩
     rw [xf] at evu
     refine ⟨⟨_,_,_,_,_,rfl⟩,lus,oku,λx m hm=>?_⟩
     rw [evu x m hm,evq x m hm,etk x]
     by_cases z:i <= m
     ·rw [if_pos z,if_pos z,if_pos ⟨z,by omega⟩,Int.add_mul]; omega
     ·rw [if_neg z,if_neg z,if_neg (λy=>z y.1)]; omega
   ·rintro _ qs ⟨⟨c,d4,e5,f6,g7,rfl⟩,lqs,okq,evq⟩
    refine ⟨⟨_,_,_,_,_,_,_,rfl⟩,lqs,okq,λx m hm=>?_⟩
    rw [evq x m hm,evp x m hm,sm,egR,zLm,List.take_length]
  ·rintro _ ps ⟨_,lps,okp,evp⟩
   refine ⟨trivial,h ps lps okp λx m hm=>?_⟩
   rw [evp x m hm]
   have e1:(enD (ss.map D.dz)).length=m + 1 + (H - m):=by unfold enD; rw [zLm,List.length_zipIdx,zLm,ls]; omega
   rw [e1,Uq _ λi hi=>by rw [if_neg (by omega)]]
   exact ym λi hi=>by rw [if_pos (by omega)]
def qj {α:Type} [DecidableEq α]:∀ (es l:List α),es.Nodup->(∀ a ∈ es,a ∈ l)->es.length <= l.length
 | [],_,_,_=>Nat.zero_le _
 | a :: es,l,nd,h=>by
  have nd':=List.nodup_cons.mp nd
  have h1:=qj es (l.erase a) nd'.2 λb hb=>(List.mem_erase_of_ne (λe=>nd'.1 (by rw [<- e]; exact hb))).mpr (h b (zal _ hb))
  have h2:=h a zao
  rw [List.length_erase_of_mem h2] at h1
  have:=List.length_pos_of_mem h2
  simp only [zLc]
  omega
def allK:Nat->Nat->List (List Int)
 | 0,_=>[[]]
 | n + 1,d=>(List.range (d + 1)).flatMap λa=>(allK n (d - a)).map λk=>(a:Int) :: k
def Nd:∀ {k:List Int},(∀ a ∈ k,0 <= a)->0 <= k.sum
 | [],_=>by simp
 | a :: k,h=>by
  have h1:=Nd (k:=k) λb hb=>h b (zal _ hb)
  have h2:=h a zao
  rw [List.sum_cons]
  omega
def V0:∀ {n d:Nat} {k:List Int},k.length=n->(∀ a ∈ k,0 <= a)->k.sum <= d->k ∈ allK n d
 | 0,d,[],_,_,_=>by simp [allK]
 | n + 1,d,a :: k,hl,h,hs=>by
  have h1:=Nd (k:=k) λb hb=>h b (zal _ hb)
  have h2:=h a zao
  rw [List.sum_cons] at hs
  refine List.mem_flatMap.mpr ⟨a.toNat,List.mem_range.mpr (by omega),zah.mpr ⟨k,V0 (by simpa using hl) (λb hb=>h b (zal _ hb)) (by omega),?_⟩⟩
  rw [Int.toNat_of_nonneg h2]
def N6 (many:Nat) (h:many <= 5):(allK many 3).length <= 56:=by
 have:many=0 \/ many=1 \/ many=2 \/ many=3 \/ many=4 \/ many=5:=by omega
 rcases this with rfl | rfl | rfl | rfl | rfl | rfl <;> decide
def Kp {many d z:Nat} {k:List Int} (h:KOk many d z k):∀ a ∈ k,a <= d:=by
 have gen:∀ k:List Int,(∀ a ∈ k,0 <= a)->0 <= k.sum /\ ∀ a ∈ k,a <= k.sum:=by
  intro k
  induction k with
  | nil=>intro _; exact ⟨by simp,λa ha=>absurd ha (by simp)⟩
  | cons b k ih =>
   intro hb
   obtain ⟨i1,i2⟩:=ih λa ha=>hb a (by simp [ha])
   have b0:=hb b (by simp)
   rw [List.sum_cons]
   refine ⟨by omega,λa ha=>?_⟩
   rcases zam.mp ha with rfl | ha
   ·omega
   ·have:=i2 a ha; omega
 intro a ha
 have:=(gen k h.2.1).2 a ha
 have:=h.2.2.1
 omega
def qp {many d:Nat} (m3:many <= 5) (d3:d <= 3) {es:List (List Int)} (nd:es.Nodup) (h:∀ k ∈ es,KOk many d many k):es.length <= 56 :=
 zak (qj es (allK many 3) nd λk hk=>V0 (h k hk).1 (h k hk).2.1 (Int.le_trans (h k hk).2.2.1 (by omega))) (N6 many m3)
def ROk.up {many d z d' z':Nat} {r:RW} (h:ROk many d z r) (hd:d <= d') (hz:z <= z'):ROk many d' z' r:=⟨h.1,λq hq=>⟨(h.2 q hq).1.up hd hz,(h.2 q hq).2⟩⟩
def ROk.len {many d:Nat} {r:RW} (m3:many <= 5) (d3:d <= 3) (h:ROk many d many r):r.length <= 56:=by
 have:=qp m3 d3 h.1 λk hk=>by
  obtain ⟨q,hq,rfl⟩:=zah.mp hk
  exact (h.2 q hq).1
 rwa [zLm] at this
def Jn {a:Int} (h:a <= 3):1 <= cb 3 a.toNat:=by
 have:a.toNat=0 \/ a.toNat=1 \/ a.toNat=2 \/ a.toNat=3:=by omega
 rcases this with e | e | e | e <;> rw [e] <;> decide
def jr {many d z:Nat} (x:Nat->Nat) {r:RW} (h:∀ q ∈ r,KOk many d z q.1 /\ 0 <= q.2):0 <= evR x r:=by
 induction r with
 | nil=>exact Int.le_refl _
 | cons q r ih =>
  rw [show q :: r=[q] ++ r from rfl,qv]
  have h1:=ih λq hq=>h q (by simp [hq])
  have h2:=Int.mul_nonneg (h q (by simp)).2 (Zy x q.1)
  simp [evR]
  omega
def d5 {many d z:Nat} {r:RW} (d3:d <= 3) (h:∀ q ∈ r,KOk many d z q.1 /\ 0 <= q.2):∀ q ∈ r,q.2 <= evR (λ_=>3) r:=by
 have bv1:∀ k:List Int,(∀ a ∈ k,a <= 3)->1 <= Bv (λ_=>3) k:=by
  intro k
  induction k with
  | nil=>intro _; exact Int.le_refl _
  | cons a k ih =>
   intro hk
   have h1:=ih λa ha=>hk a (by simp [ha])
   have h2:(1:Int) <= (cb 3 a.toNat:Nat):=by exact_mod_cast Jn (hk a (by simp))
   show 1 <= ((cb 3 a.toNat:Nat):Int) * Bv (λ_=>3) k
   have:=Int.mul_le_mul h2 h1 (by decide) (by omega)
   omega
 induction r with
 | nil=>exact λq hq=>absurd hq (by simp)
 | cons p r ih =>
  intro q hq
  have hr:=λq hq=>h q (zal p hq)
  have h0:=jr (λ_=>3) hr
  obtain ⟨kp,np⟩:=h p zao
  have h1:=bv1 p.1 λa ha=>by have:=Kp kp a ha; omega
  have h2:p.2 <= p.2 * Bv (λ_=>3) p.1:=by
   have:=Int.mul_le_mul_of_nonneg_left h1 np
   omega
  show q.2 <= p.2 * Bv (λ_=>3) p.1 + evR (λ_=>3) r
  rcases zam.mp hq with rfl | hq
  ·omega
  ·have:=ih hr q hq
   omega
def jt (x:Nat->Nat):∀ r:RW,evR x (r.filter λq=>decide (q.2 ≠ 0))=evR x r
 | []=>rfl
 | q :: r=>by
  have ih:=jt x r
  by_cases z:q.2=0
  ·rw [List.filter_cons_of_neg (by simpa using z),ih]
   show _=q.2 * Bv x q.1 + evR x r
   rw [z]; omega
  ·rw [List.filter_cons_of_pos (by simpa using z)]
   show q.2 * Bv x q.1 + _=q.2 * Bv x q.1 + evR x r
   rw [ih]
def ROk.filter {many d z:Nat} {r:RW} (h:ROk many d z r) (p:List Int × Int->Bool):ROk many d z (r.filter p) :=
 ⟨List.Pairwise.sublist (List.Sublist.map _ List.filter_sublist) h.1,λq hq=>h.2 q ((List.mem_filter.mp hq).1)⟩
def wx {n:Int} {m:Nat} (h0:0 <= n) (h:n < 2 ^ m):intBits n <= m:=PySem.intBits_le_iff.mpr (by
 have e:((n.natAbs:Nat):Int) < ((2 ^ m:Nat):Int):=by push_cast; omega
 exact_mod_cast e)
def Tz:∀ rs:RW,(rs.map prD).filterMap (λd=>match d with | .tup [k,.int n]=>if n=0 then none else some (.tup [k,.int n]) | _=>none)=(rs.filter λq=>decide (q.2 ≠ 0)).map prD
 | []=>rfl
 | q :: rs=>by
  by_cases z:q.2=0
  ·rw [List.filter_cons_of_neg (by simpa using z),List.map_cons,List.filterMap_cons_none (by show (if q.2=0 then none else _)=_; rw [if_pos z]),Tz rs]
  ·rw [List.filter_cons_of_pos (by simpa using z),List.map_cons,List.filterMap_cons_some (b:=prD q) (by show (if q.2=0 then none else _)=_; rw [if_neg z]; rfl),Tz rs,List.map_cons]
def W3 {ds:List D} {i:Int} {d:D} {φ:EV->Prop} (e:atI ds i=some d) (h:φ (dv d)):sIxx (.tup ds) (.int i) φ:=by
 show match atI ds i with | some d=>φ (dv d) | none=>False
 rw [e]
 exact h
def Fp {ln:List Nat} {i:Nat} (h:i < ln.length):atI (ln.map λ(n:Nat)=>D.int n) (i:Int)=some (.int (ln.getD i 0:Nat)):=se (by omega) (by simp [h])
def yw {n:Nat} {T:FT} {t:TDs} {ρ:DE} {φ:EV->Prop} (rs:List EV) (h:∀ ψ:List EV->Prop,ψ rs->t ρ ψ) (hn:Nat.beq rs.length n=true) (hT:T (rs.map EV.d) φ):Zl n T t ρ φ:=h _ ⟨hn,hT⟩
def v7 {te:TD} {t:TDs} {ρ:DE} {φ:List EV->Prop} (r:EV) (rs:List EV) (h1:∀ ψ:EV->Prop,ψ r->te ρ ψ) (h2:∀ ψ:List EV->Prop,ψ rs->t ρ ψ) (h:φ (r :: rs)):j0 te t ρ φ:=h1 _ (h2 _ h)
def Ky {i:Nat} {d:D} {ρ:DE} {ψ:DE->Prop} (h:ψ (setS ρ i (dv d))):gN i d ρ ψ:=h
def Lj {tc:TDb} {t1 t2:TDS} {ρ:DE} {Z:DZ} (b:Bool) (h:∀ ψ:Bool->Prop,ψ b->tc ρ ψ) (h1:b=true->t1 ρ Z) (h2:b=false->t2 ρ Z):sIf tc t1 t2 ρ Z:=h _ ⟨h1,h2⟩
def tNo:FT:=λds φ=>∃ rs:RW,ds=[.dz rs] /\ (rs.map Prod.fst).Nodup /\ rs.length <= 1000 /\ φ (dv (.dz (rs.filter λq=>decide (q.2 ≠ 0))))
def xy (ln:List Nat) (p:Nat) (x:Nat->Nat):Nat:=match p with
 | 0=>ln.getD 0 0
 | p + 1=>xy ln p x + ln.getD (p + 1) 0 * x p
def Wk {ln:List Nat} (h:∀ a ∈ ln,a < 2 ^ 50):∀ p,xy ln p (λ_=>3) <= 2 ^ 50 * (1 + 3 * p)
 | 0=>by
  unfold xy
  by_cases z:0 < ln.length
  ·have:=h (ln.getD 0 0) (by simp [z])
   omega
  ·rw [zaq,List.getElem?_eq_none (by omega)]; simp
 | p + 1=>by
  have ih:=Wk h p
  show xy ln p (λ_=>3) + ln.getD (p + 1) 0 * 3 <= _
  by_cases z:p + 1 < ln.length
  ·have:=h (ln.getD (p + 1) 0) (by simp [z])
   omega
  ·rw [zaq,List.getElem?_eq_none (by omega)]; simp; omega
def d6 {ln:List Nat} (h:∀ a ∈ ln,a < 2 ^ 50) {p m:Nat} (hp:p <= 5) (hm:m <= 3):(cb (xy ln p λ_=>3) m:Int) < 2 ^ 170:=by
 have h1:=Wk h p
 have h2:=N3 (xy ln p λ_=>3) m
 have h3:xy ln p (λ_=>3) + 1 <= 2 ^ 55:=by omega
 have h4:(xy ln p (λ_=>3) + 1) ^ m <= (2 ^ 55) ^ m:=Nat.pow_le_pow_left h3 m
 have h5:(2 ^ 55:Nat) ^ m <= (2 ^ 55) ^ 3:=Nat.pow_le_pow_right (by decide) hm
 have h6:((2:Nat) ^ 45) ^ 3 < 2 ^ 170:=by decide
 have h7:cb (xy ln p λ_=>3) m < 2 ^ 170:=by omega
 exact_mod_cast h7
def hhL (a H:Nat):List (List Int):=(List.range (H + 1)).map λh=>hpL a H h
def C2 (a H pl:Nat) (x:Nat->Nat) (j:Nat) (hj:j <= H):Fv (hhL a H) pl x j=cb (a * x pl) j:=by
 unfold Fv
 rw [<- R0]
 refine ym λh hh=>?_
 have e:hv (hhL a H) h j=hp a h j:=by
  unfold hv hhL hpL
  simp [show h < H + 1 by omega,show j < H + 1 by omega]
 rw [e]
structure SI (ln:List Nat) (many H p:Nat) (ss:List RW):Prop where
 ls:ss.length=H + 1
 ok:∀ (m:Nat) r,ss[m]?=some r->ROk many m p r
 ev:∀ x m,m <= H->evR x (gR ss m)=cb (xy ln p x) m
def SI.gin {ln:List Nat} {many H p a:Nat} {ss:List RW} (S:SI ln many H p ss) (hl:∀ a ∈ ln,a < 2 ^ 50) (m3:many <= 5) (h3:H <= 3) (hp:p < many) (ha:a < 2 ^ 50):GIn many H p ss (hhL a H) where
 H3:=h3
 m3:=by omega
 ls:=S.ls
 lh:=by unfold hhL; simp
 lr:=λr hr=>by
  unfold hhL at hr
  obtain ⟨h,_,rfl⟩:=zah.mp hr
  unfold hpL; simp
 hb:=λr hr b hb=>by
  unfold hhL at hr
  obtain ⟨h,hh,rfl⟩:=zah.mp hr
  unfold hpL at hb
  obtain ⟨m,hm,rfl⟩:=zah.mp hb
  rw [List.mem_range] at hh hm
  exact ⟨ud _ _ _,zak (R6 a h m (by omega) (by omega) (by omega)) (by decide)⟩
 pm:=hp
 ok:=S.ok
 bt:=λr hr q hq=>by
  obtain ⟨m,hm⟩:=List.getElem?_of_mem hr
  have hmH:m < H + 1:=by rw [<- S.ls]; exact (zag.mp hm).1
  have o:=S.ok m r hm
  have h1:=d5 (by omega) o.2 q hq
  have e:=S.ev (λ_=>3) m (by omega)
  rw [show gR ss m=r by unfold gR; simp [List.getD,hm]] at e
  rw [e] at h1
  have h2:=d6 hl (p:=p) (m:=m) (by omega) (by omega)
  exact zak (wx (o.2 q hq).2 (Int.lt_of_le_of_lt h1 h2)) (by decide)
 sz:=λr hr=>by
  obtain ⟨m,hm⟩:=List.getElem?_of_mem hr
  have hmH:m < H + 1:=by rw [<- S.ls]; exact (zag.mp hm).1
  have:=((S.ok m r hm).up (d':=m) (z':=many) (zaj _) (by omega)).len m3 (by omega)
  omega
 fin:=λes nd he=>zak (qp m3 h3 nd he) (by decide)
def SI.step {ln:List Nat} {many H p:Nat} {ss rs:List RW} (S:SI ln many H p ss) (lr:rs.length=H + 1) (ok:∀ (m:Nat) r,rs[m]?=some r->ROk many m (p + 1) r)
  (ev:∀ x m,m <= H->evR x (gR rs m)=sm (m + 1) λi=>evR x (gR ss i) * Fv (hhL (ln.getD (p + 1) 0) H) p x (m - i)):SI ln many H (p + 1) rs:=⟨lr,ok,λx m hm=>by
 rw [ev x m hm]
 show _=((cb (xy ln p x + ln.getD (p + 1) 0 * x p) m:Nat):Int)
 rw [km]
 exact ym λi hi=>by rw [S.ev x i (by omega),C2 _ _ _ _ _ (by omega)]⟩
def SI.same {ln:List Nat} {many H p:Nat} {ss:List RW} (S:SI ln many H p ss) (h0:ln.getD (p + 1) 0=0):SI ln many H (p + 1) ss:=⟨S.ls,λm r e=>(S.ok m r e).up (zaj _) (by omega),λx m hm=>by
 rw [S.ev x m hm]
 show _=((cb (xy ln p x + ln.getD (p + 1) 0 * x p) m:Nat):Int)
 rw [h0,Nat.zero_mul,Nat.add_zero]⟩
def s0 (ln:List Nat) (many H:Nat):List RW:=(List.range (H + 1)).map λm=>[(List.replicate many 0,((cb (ln.getD 0 0) m:Nat):Int))]
def SI.zero (ln:List Nat) (many H:Nat):SI ln many H 0 (s0 ln many H):=by
 refine ⟨by unfold s0; simp,λm r e=>?_,λx m hm=>?_⟩
 ·unfold s0 at e
  rw [zai] at e
  obtain ⟨m',e',rfl⟩:=zar.mp e
  refine ⟨by simp,λq hq=>?_⟩
  simp at hq
  subst hq
  refine ⟨⟨by simp,λa ha=>by simp at ha; omega,?_,λj _ hj=>by simp [hj]⟩,by show (0:Int) <= ((_:Nat):Int); omega⟩
  have:(List.replicate many (0:Int)).sum=0:=by
   clear e e'
   induction many with
   | zero=>rfl
   | succ n ih=>rw [List.replicate_succ,List.sum_cons,ih]; rfl
  rw [this]; omega
 ·have:gR (s0 ln many H) m=[(List.replicate many 0,((cb (ln.getD 0 0) m:Nat):Int))]:=by
   unfold gR s0
   simp [show m < H + 1 by omega]
  rw [this]
  show ((cb (ln.getD 0 0) m:Nat):Int) * Bv x (List.replicate many 0) + 0=_
  rw [dc,Int.mul_one,Int.add_zero]
  rfl
def lnD (ln:List Nat):D:=.tup (ln.map λ(n:Nat)=>D.int n)
def Ub:FT:=λds φ=>∃ (ln:List Nat) (many H:Nat),ds=[lnD ln,.int many,.int H] /\ many <= 5 /\ H <= 3 /\ ln.length=many + 1 /\ (∀ a ∈ ln,a < 2 ^ 50) /\
 ∀ rs:List RW,rs.length=H + 1->(∀ (m:Nat) r,rs[m]?=some r->ROk many m many r)->(∀ x m,m <= H->evR x (gR rs m)=cb (xy ln many x) m)->φ (df (.lst (rs.map D.dz)))
def uf (T:Tops mg) (F:Fun K "without_noughts" "without_noughts" (top 17) f fd) (m:mg "without_noughts" = some (.ref f)):FD P w K mg base 1 "without_noughts" ["one"] tNo:=by
 have S:zw ["one"] ["one"] (za (top 17)):=⟨rfl,rfl,rfl,by decide +kernel,rfl,by decide +kernel,by decide +kernel⟩
 refine yz F S (F.binds λ_ _ _ _ _ _ us hl=>(by obtain ⟨_,rfl⟩:=Sk hl; rfl)) m λqZ A outer s H E ds φ hr hl hT=>?_
 have hu:=hr.units
 refine ⟨_,(zk (y0 (Ot (Rm hu T.dict (z9 (xh (T:=["powers", "ways"]) (F:=[]) (js:=[]) (uh (z0 0)) (show zt (za (top 17)) _ ["powers", "ways"] [] from ⟨rfl,by decide +kernel,by decide +kernel,by decide +kernel,by decide +kernel,by decide +kernel⟩) .nil (by decide) (λcl C fp s H=>(yk (K0:=K) (n:=2) (by rfl) (by rfl) (zl (zj (i:=0) (show ((["powers", "ways"]:List Str) ++ ([]:List Str)).Nodup by decide +kernel) rfl (by walk_at "o")) (zl (zj (i:=1) (show ((["powers", "ways"]:List Str) ++ ([]:List Str)).Nodup by decide +kernel) rfl (by walk_at "o")) yj)))) (R8 (t4 wk (X2 wk jq) (yh (by decide)) (t4 wk jq (yh (by decide)) R9))) (yu 0 1) (λcl C fp s H=>(Xd (Xb hu (z0 1) zc))) (λcl C fp s H=>(x3 (z9 (z0 0) (z9 (z0 1) zd))))) zd))))),?_⟩
 obtain ⟨rs,rfl,nd,hl,h⟩:=hT
 delta sRet dFz dCB
 delta j0
 refine v6 (rs.map prD) (λψ hψ=>hψ) (λd=>match d with | .tup [k,.int n]=>if n=0 then none else some (.tup [k,.int n]) | _=>none) (by rw [zLm]; omega) (λd hd=>?_) ?_
 ·obtain ⟨⟨k,n⟩,hq,rfl⟩:=zah.mp hd
  refine ⟨trivial,trivial,?_⟩
  by_cases z:n=0
  ·subst z
   exact ⟨λz=>(by cases z),λ_=>rfl⟩
  ·have e:eqD (D.int n) (D.int 0)=false:=by rw [fw]; exact beq_eq_false_iff_ne.mpr z
   show ((!eqD (D.int n) (D.int 0))=true->_) /\ ((!eqD (D.int n) (D.int 0))=false->_)
   rw [e]
   refine ⟨λ_=>⟨rfl,rfl,trivial,?_⟩,λz=>(by cases z)⟩
   show (if n=0 then none else some (D.tup [ikD k,.int n]))=some (D.tup [ikD k,.int n])
   rw [if_neg z]
 ·exact ⟨rs.filter (λq=>decide (q.2 ≠ 0)),Tz rs,List.Pairwise.sublist (List.Sublist.map _ List.filter_sublist) nd,_,rfl,trivial,h⟩
def Z7 (T:Tops mg) (C4:FD P w K mg base 1 "choices" ["many", "taken"] sy) (B8:FD P w K mg base 2 "heaps_of" ["number", "highest"] Ud) (Br:FD P w K mg base 2 "grown" ["spread", "place", "heaps"] Nc) (C7:FD P w K mg base 1 "without_noughts" ["one"] tNo) (F:Fun K "spread_of" "spread_of" (top 16) f fd) (m:mg "spread_of" = some (.ref f)):FD P w K mg base 3 "spread_of" ["line", "many", "highest"] Ub:=by
 have S:zw ["line", "many", "highest", "spread", "place"] ["line", "many", "highest"] (za (top 16)):=⟨rfl,rfl,rfl,by decide +kernel,rfl,by decide +kernel,by decide +kernel⟩
 refine yz F S (F.binds λ_ _ _ _ _ _ us hl=>(by obtain ⟨_,_,_,rfl⟩:=bf hl; rfl)) m λqZ A outer s H E ds φ hr hl hT=>?_
 have hu:=hr.units
 refine ⟨_,(zf (jd (T:=["power"]) (F:=["many", "line"]) (js:=[1,0]) 3 S.nd (y7 T.range (z9 (y8 (z0 2) zc) zd)) (show zt (za (top 16)) _ ["power"] ["many", "line"] from ⟨rfl,by decide +kernel,by decide +kernel,by decide +kernel,by decide +kernel,by decide +kernel⟩) (.cons rfl (.cons rfl .nil)) (by decide) (λcl C fp s H=>(zj (i:=0) (show ((["power"]:List Str) ++ (["many", "line"]:List Str)).Nodup by decide +kernel) rfl (by walk_at "o"))) (yh (by decide)) (yc 0) (λcl C fp s H=>xg) (λcl C fp s H=>(Ot (Ws hu (Rh (x3 (z9 zc zd)) (z0 1)) (zm C4 (hr.mono (by decide)) (z9 (zx hu (z0 2) zc) (z9 (z0 0) zd)))))))
   (zf (W2 3 (yn (y7 T.range (z9 (z0 1) zd)) (zj (i:=4) S.nd rfl (by walk_at "o")) (yc 4) (zk (vh (J8 (zx hu (z0 0) (y8 (z0 4) zc)) zc) (zk (zu 3 S.nd (zm Br (hr.mono (by decide)) (z9 (z0 3) (z9 (z0 4) (z9 (zm B8 (hr.mono (by decide)) (z9 (zx hu (z0 0) (y8 (z0 4) zc)) (z9 (z0 2) zd))) zd)))))) xp))))
   (zk (W2 3 (y0 (xh (T:=["one"]) (F:=[]) (js:=[]) (xw (z0 3)) (show zt (za (top 16)) _ ["one"] [] from ⟨rfl,by decide +kernel,by decide +kernel,by decide +kernel,by decide +kernel,by decide +kernel⟩) .nil (by decide) (λcl C fp s H=>(zj (i:=0) (show ((["one"]:List Str) ++ ([]:List Str)).Nodup by decide +kernel) rfl (by walk_at "o"))) (yh (by decide)) (yc 0) (λcl C fp s H=>xg) (λcl C fp s H=>(zm C7 (hr.mono (by decide)) (z9 (z0 0) zd))))))))),?_⟩
 obtain ⟨ln,many,H,rfl,m3,h3,ll,hb,h⟩:=hT
 delta sSeq sSet
 refine wf 0 (H + 1) (λψ hψ=>?_) (λm=>.dz [(List.replicate many 0,((cb (ln.getD 0 0) m:Nat):Int))]) (by omega) (λm hm=>?_) ?_
 ·refine ⟨by omega,by omega,?_⟩
  exact hψ
 ·refine ⟨rfl,rfl,[0],many,rfl,rfl,(λz=>nomatch z),(by rw [sizeLine_eq]; simp; omega),?_⟩
  refine d0 (x:=dv (lnD ln)) (y:=dv (.int 0)) (λψ hψ=>xo rfl hψ) (λψ hψ=>hψ) (W3 (Fp (i:=0) (by omega)) ?_)
  refine ⟨rfl,ln.getD 0 0,m,?_,?_,by omega,_,_,rfl,rfl,_,rfl,trivial,?_⟩
  ·show [D.int _,D.int (0 + (m:Int))]=_
   rw [Int.zero_add]
  ·have:=hb (ln.getD 0 0) (by simp [show 0 < ln.length by omega])
   omega
  ·congr 2
   simp
 ·refine ⟨trivial,?_⟩
  have hl2:∀ (i:Nat),i < many->ln.getD (i + 1) 0 < 2 ^ 50:=λi hi=>hb _ (by simp [show i + 1 < ln.length by omega])
  refine (show sFor (iR1 (j0 (xi 1) aNil)) _ _ [some (dv (lnD ln)),some (dv (.int many)),some (dv (.int H)),some (dv (.lst ((List.range (H + 1)).map λm=>D.dz [(List.replicate many 0,((cb (ln.getD 0 0) m:Nat):Int))]))),none] _ from ?_)
  refine ye (rngD 0 many) (λψ hψ=>⟨by omega,by omega,hψ⟩) (λp ρ=>∃ ss b,ρ=[some (dv (lnD ln)),some (dv (.int many)),some (dv (.int H)),some (dv (.lst (ss.map D.dz))),b] /\ SI ln many H p ss) ?_ ?_ ?_
  ·refine ⟨s0 ln many H,none,?_,SI.zero ln many H⟩
   unfold s0
   rw [List.map_map]
   rfl
  ·rintro p d _ hd ⟨ss,b,rfl,S⟩
   obtain ⟨hp,rfl⟩:=x9 hd
   have ha:=hl2 p hp
   have e1:(0 + (p:Int)) + 1=((p + 1:Nat):Int):=by omega
   have ix:∀ ψ:EV->Prop,ψ (dv (.int (ln.getD (p + 1) 0:Nat)))->d2 sIxx (xi 0) (d2 sAdd (xi 4) (dC (D.int 1))) [some (dv (lnD ln)),some (dv (.int many)),some (dv (.int H)),some (dv (.lst (ss.map D.dz))),some (dv (.int (0 + (p:Int))))] ψ:=λψ hψ =>
    d0 (x:=dv (lnD ln)) (y:=dv (.int ((0 + (p:Int)) + 1))) (λψ hψ=>xo rfl hψ) (λψ hψ=>hψ) (W3 (by rw [e1]; exact Fp (by omega)) hψ)
   refine Ky ?_
   refine (show sIf _ _ _ [some (dv (lnD ln)),some (dv (.int many)),some (dv (.int H)),some (dv (.lst (ss.map D.dz))),some (dv (.int (0 + (p:Int))))] _ from ?_)
   refine Lj (decide (0 < ln.getD (p + 1) 0)) (λψ hψ=>?_) (λhz=>?_) (λhz=>?_)
   ·refine ix _ ?_
    show ψ (decide (((ln.getD (p + 1) 0:Nat):Int) > 0))
    rw [show decide (((ln.getD (p + 1) 0:Nat):Int) > 0)=decide (0 < ln.getD (p + 1) 0) from by congr 1; exact propext (by omega)]
    exact hψ
   ·have hps:∀ ψ:EV->Prop,ψ (df (.lst ((hhL (ln.getD (p + 1) 0) H).map D.scr)))->Zl 2 Ud (j0 (d2 sIxx (xi 0) (d2 sAdd (xi 4) (dC (D.int 1)))) (j0 (xi 2) aNil)) [some (dv (lnD ln)),some (dv (.int many)),some (dv (.int H)),some (dv (.lst (ss.map D.dz))),some (dv (.int (0 + (p:Int))))] ψ:=λψ hψ =>
     yw [dv (.int (ln.getD (p + 1) 0:Nat)),dv (.int H)] (λψ hψ=>v7 _ _ ix (λψ hψ=>hψ) hψ) rfl ⟨ln.getD (p + 1) 0,H,rfl,by omega,h3,by unfold hhL at hψ; rw [List.map_map] at hψ; exact hψ⟩
    refine yw [dv (.lst (ss.map D.dz)),dv (.int (0 + (p:Int))),df (.lst ((hhL (ln.getD (p + 1) 0) H).map D.scr))] (λψ hψ=>v7 _ _ (λψ hψ=>hψ) (λψ hψ=>v7 _ _ (λψ hψ=>hψ) (λψ hψ=>v7 _ _ hps (λψ hψ=>hψ) hψ) hψ) hψ) rfl ⟨many,H,p,ss,hhL (ln.getD (p + 1) 0) H,?_,S.gin hb m3 h3 hp ha,λrs lr ok ev=>⟨trivial,rs,_,rfl,S.step lr ok ev⟩⟩
    show [D.lst (ss.map D.dz),D.int (0 + (p:Int)),D.lst _]=_
    rw [Int.zero_add]
   ·exact ⟨ss,_,rfl,S.same (by simpa using hz)⟩
  ·rintro _ ⟨ss,b,rfl,S⟩
   rw [xf] at S
   have lr:∀ r ∈ ss,(r.map Prod.fst).Nodup /\ r.length <= 1000:=λr hr=>by
    obtain ⟨m,hm⟩:=List.getElem?_of_mem hr
    have hmH:m < H + 1:=by rw [<- S.ls]; exact (zag.mp hm).1
    have o:=S.ok m r hm
    have:=o.len m3 (by omega)
    exact ⟨o.1,by omega⟩
   refine (show Xf (iSeq (xi 3)) 1 [] (gN 0) bYes (Zl 1 tNo (j0 (xi 0) aNil)) [some (dv (lnD ln)),some (dv (.int many)),some (dv (.int H)),some (dv (.lst (ss.map D.dz))),b] _ from ?_)
   refine v6 (ss.map D.dz) (λψ hψ=>⟨trivial,hψ⟩) (λd=>match d with | .dz r=>some (.dz (r.filter λq=>decide (q.2 ≠ 0))) | _=>none) (by rw [zLm,S.ls]; omega) (λd hd=>?_) ?_
   ·obtain ⟨r,hr,rfl⟩:=zah.mp hd
    exact ⟨λ_=>⟨rfl,r,rfl,(lr r hr).1,(lr r hr).2,trivial,rfl⟩,λz=>(by cases z)⟩
   ·rw [show (ss.map D.dz).filterMap (λd=>match d with | .dz r=>some (.dz (r.filter λq=>decide (q.2 ≠ 0))) | _=>none)=(ss.map λr=>r.filter λq=>decide (q.2 ≠ 0)).map D.dz from by
     rw [List.filterMap_map,List.map_map,<- List.filterMap_eq_map]; rfl]
    refine ⟨?_,h _ (by rw [zLm]; exact S.ls) (λm r e=>?_) λx m hm=>?_⟩
    ·exact yt.mpr λd hd=>by
      obtain ⟨r,_,rfl⟩:=zah.mp hd
      trivial
    ·rw [zai] at e
     obtain ⟨r',e',rfl⟩:=zar.mp e
     exact (S.ok m r' e').filter _
    ·rw [<- S.ev x m hm]
     unfold gR
     rw [zaq,zai,zaq]
     cases ss[m]? with
     | none=>rfl
     | some r=>exact jt x r
def nk (a:List Nat):List Int:=a.map λ(n:Nat)=>(n:Int)
structure MK (n d w:Nat) (q:List Int × Int):Prop where
 ln:q.1.length=n
 nn:∀ c ∈ q.1,0 <= c
 sm:q.1.sum <= d
 n0:0 <= q.2
 nb:q.2 <= w
def L1:FT:=λds φ=>∃ a b:List Nat,ds=[ikD (nk a),ikD (nk b)] /\ a.length=b.length /\ a.length <= 5 /\ (∀ i,a.getD i 0 + b.getD i 0 <= 3) /\
 ∀ ms:RW,ms.length <= 2 ^ a.length->(∀ q ∈ ms,MK a.length (a.sum + b.sum) (9 ^ a.length) q)->(∀ x,evR x ms=Bv x (nk a) * Bv x (nk b))->φ (df (.lst (ms.map prD)))
def j3 (c:Int):∀ (x:Nat->Nat) (k:List Int),Bv x (k ++ [c])=Bv x k * cb (x k.length) c.toNat
 | x,[]=>by
  show ((cb (x 0) c.toNat:Nat):Int) * 1=1 * ((cb (x 0) c.toNat:Nat):Int)
  omega
 | x,a :: k=>by
  show ((cb (x 0) a.toNat:Nat):Int) * Bv (λi=>x (i + 1)) (k ++ [c])=((cb (x 0) a.toNat:Nat):Int) * Bv (λi=>x (i + 1)) k * _
  rw [j3 c (λi=>x (i + 1)) k,Int.mul_assoc]
  rfl
def sn (c w:Int) (ms:RW):RW:=ms.map λq=>(q.1 ++ [c],q.2 * w)
def M4 (x:Nat->Nat) (c w:Int) (n:Nat):∀ ms:RW,(∀ q ∈ ms,q.1.length=n)->evR x (sn c w ms)=evR x ms * (cb (x n) c.toNat * w)
 | [],_=>by show (0:Int)=0 * _; omega
 | q :: ms,h=>by
  show q.2 * w * Bv x (q.1 ++ [c]) + evR x (sn c w ms)=(q.2 * Bv x q.1 + evR x ms) * _
  rw [M4 x c w n ms λq hq=>h q (by simp [hq]),j3,h q (by simp),Int.add_mul]
  congr 1
  grind
def S1 (a:List Nat) {i:Nat} (h:i < a.length):nk (a.take (i + 1))=nk (a.take i) ++ [((a.getD i 0:Nat):Int)]:=by
 unfold nk
 rw [List.take_add_one,zaf h,zMa]
 simp [h]
structure MI (a b:List Nat) (i:Nat) (ms:RW):Prop where
 ln:ms.length <= 2 ^ i
 ok:∀ q ∈ ms,MK i ((a.take i).sum + (b.take i).sum) (9 ^ i) q
 ev:∀ x,evR x ms=Bv x (nk (a.take i)) * Bv x (nk (b.take i))
def MI.zero (a b:List Nat):MI a b 0 [([],1)]:=⟨by simp,λq hq=>by
 simp at hq
 subst hq
 exact ⟨rfl,λc hc=>absurd hc (by simp),by simp,by decide,by decide⟩,λx=>by simp [evR,Bv,nk]⟩
structure JI (f s S i:Nat) (ms:RW) (j:Nat) (us:RW):Prop where
 ln:us.length <= j * 2 ^ i
 ok:∀ q ∈ us,MK (i + 1) (S + f + s) (9 ^ (i + 1)) q
 ev:∀ x,evR x us=evR x ms * sm j λt=>(cb (x i) (max f s + t):Int) * ((cb (max f s + t) f:Int) * cb f (f + s - (max f s + t)))
def Xr (a:List Nat) {i:Nat} (h:i < a.length):(a.take (i + 1)).sum=(a.take i).sum + a.getD i 0:=by
 rw [List.take_add_one,zaf h,List.sum_append]
 simp [h]
def cb_3 (a b:Nat) (ha:a <= 3) (hb:b <= 3):cb a b <= 3:=by
 have h1:a=0 \/ a=1 \/ a=2 \/ a=3:=by omega
 have h2:b=0 \/ b=1 \/ b=2 \/ b=3:=by omega
 rcases h1 with rfl | rfl | rfl | rfl <;> rcases h2 with rfl | rfl | rfl | rfl <;> decide
def wu {t u:TDS} {ρ:DE} {Z:DZ} (h:t ρ { Z with nx:=λρ'=>u ρ' Z }):sSeq t u ρ Z:=h
def Lk {i:Nat} {t:TDS} {ρ:DE} {Z:DZ} (h:t (frzS ρ i) Z):sFrz i t ρ Z:=h
def je {t u:TDS} {ρ ρ':DE} {Z:DZ} (e:ρ=ρ') (h:sSeq t u ρ' Z):sSeq t u ρ Z:=e ▸ h
def wj {i:Nat} {te:TD} {u:TDS} {ρ:DE} {Z:DZ} (h:te ρ λr=>(match r.k with | .own=>False | _=>True) /\ u (setS ρ i r.sto) Z):sSeq (sSet i te) u ρ Z:=h
def Qy {i:Nat} {te:TD} {ρ:DE} {Z:DZ} (ds:List D) (e:slot ρ i=some (dO (.lst ds))) (h:te ρ λr=>∃ gs,r=df (.lst gs) /\ gs.length <= 1000 /\ ds.length <= 100000 /\ Z.nx (setS ρ i (dO (.lst (ds ++ gs))))):Uz i te ρ Z:=by
 unfold Uz
 rw [e]
 exact h
def snF (c w:Int):D->Option D
 | .tup [.tup k,.int n]=>some (.tup [.tup (k ++ [.int c]),.int (n * w)])
 | _=>none
def L9 (c w:Int) (ms:RW):(ms.map prD).filterMap (snF c w)=(sn c w ms).map prD:=by
 unfold sn
 rw [List.filterMap_map,List.map_map,<- List.filterMap_eq_map]
 congr 1
 funext q
 show some (D.tup [.tup (q.1.map D.int ++ [.int c]),.int (q.2 * w)])=some (D.tup [.tup ((q.1 ++ [c]).map D.int),.int (q.2 * w)])
 rw [zMa]
 rfl
def Ta (k:List Int):x5 (k.map D.int):=yt.mpr λd hd=>by
 obtain ⟨y,_,rfl⟩:=zah.mp hd
 trivial
def Lq (ms:RW):x5 (ms.map prD):=yt.mpr λd hd=>by
 obtain ⟨y,_,rfl⟩:=zah.mp hd
 exact ⟨Ta _,trivial,trivial⟩
def qa {n:Int} {m:Nat} (h0:0 <= n) (h:n <= 2 ^ m - 1) (hm:m <= 3000):intBits n <= 3000:=zak (wx h0 (by omega)) hm
def JI.step {f s S i j:Nat} {ms us:RW} (ml:ms.length <= 2 ^ i) (mk:∀ q ∈ ms,MK i S (9 ^ i) q) (J:JI f s S i ms j us) (h3:f + s <= 3) (hj:j < f + s + 1 - max f s) :
  JI f s S i ms (j + 1) (us ++ sn ((max f s + j:Nat):Int) ((cb (max f s + j) f:Int) * cb f (f + s - (max f s + j))) ms):=by
 have hM:max f s + j <= f + s:=by omega
 have c1:=cb_3 (max f s + j) f (by omega) (by omega)
 have c2:=cb_3 f (f + s - (max f s + j)) (by omega) (by omega)
 refine ⟨?_,λq hq=>?_,λx=>?_⟩
 ·rw [zLa,Nat.succ_mul]
  unfold sn
  rw [zLm]
  exact Nat.add_le_add J.ln ml
 ·rcases zas.mp hq with hq | hq
  ·exact J.ok q hq
  ·unfold sn at hq
   obtain ⟨p,hp,rfl⟩:=zah.mp hq
   have o:=mk p hp
   have s1:=o.sm
   have e9:(9:Nat) ^ (i + 1)=9 ^ i * 9:=Nat.pow_succ ..
   have c3:((cb (max f s + j) f:Nat):Int) * (cb f (f + s - (max f s + j)):Nat) <= 9:=by
    have:=Nat.mul_le_mul c1 c2
    exact_mod_cast this
   have c4:0 <= ((cb (max f s + j) f:Nat):Int) * (cb f (f + s - (max f s + j)):Nat):=Int.mul_nonneg (by omega) (by omega)
   refine ⟨by rw [zLa,o.ln]; rfl,λc hc=>?_,?_,Int.mul_nonneg o.n0 c4,?_⟩
   ·rcases zas.mp hc with hc | hc
    ·exact o.nn c hc
    ·simp at hc; omega
   ·rw [List.sum_append]
    simp only [List.sum_cons,List.sum_nil]
    omega
   ·have:=Int.mul_le_mul o.nb c3 c4 (by omega)
    rw [e9]
    exact_mod_cast this
 ·rw [qv,J.ev x,M4 x _ _ i ms λq hq=>(mk q hq).ln,sm,Int.mul_add,Int.toNat_natCast]
def JI.zero (f s S i:Nat) (ms:RW):JI f s S i ms 0 []:=⟨by simp,λq hq=>absurd hq (by simp),λx=>by show (0:Int)=_ * 0; omega⟩
def MI.step {a b:List Nat} {i:Nat} {ms us:RW} (M:MI a b i ms) (la:i < a.length) (lb:i < b.length) (h3:a.getD i 0 + b.getD i 0 <= 3) (J:JI (a.getD i 0) (b.getD i 0) ((a.take i).sum + (b.take i).sum) i ms (a.getD i 0 + b.getD i 0 + 1 - max (a.getD i 0) (b.getD i 0)) us):MI a b (i + 1) us:=by
 refine ⟨?_,λq hq=>by have:=J.ok q hq; rw [Xr a la,Xr b lb]; exact ⟨this.ln,this.nn,by have:=this.sm; omega,this.n0,this.nb⟩,λx=>?_⟩
 ·have h1:=J.ln
  have h2:a.getD i 0 + b.getD i 0 + 1 - max (a.getD i 0) (b.getD i 0) <= 2:=by omega
  have:=Nat.mul_le_mul_right (2 ^ i) h2
  rw [Nat.pow_succ]
  omega
 ·rw [J.ev x,Es _ _ _ h3,M.ev x,S1 a la,S1 b lb,j3,j3]
  have e1:(nk (a.take i)).length=i:=by unfold nk; simp; omega
  have e2:(nk (b.take i)).length=i:=by unfold nk; simp; omega
  rw [e1,e2,Int.toNat_natCast,Int.toNat_natCast]
  grind
def Jz {a b:List Nat} (h:a.length=b.length) {i:Nat} {d:D} (e:(zipD ((nk a).map D.int) ((nk b).map D.int))[i]?=some d):i < a.length /\ i < b.length /\ d=.tup [.int (a.getD i 0:Nat),.int (b.getD i 0:Nat)]:=by
 have hi:=(zag.mp e).1
 unfold zipD nk at e hi
 simp at hi
 have la:i < a.length:=by omega
 have lb:i < b.length:=by omega
 refine ⟨la,lb,?_⟩
 rw [List.getElem?_zipWith] at e
 simp [la,lb] at e
 simp [la,lb,e]
def X4 (T:Tops mg) (C4:FD P w K mg base 1 "choices" ["many", "taken"] sy) (F:Fun K "meetings" "meetings" (top 23) f fd) (m:mg "meetings" = some (.ref f)):FD P w K mg base 2 "meetings" ["powers", "more"] L1:=by
 have S:zw ["powers", "more", "told", "first", "second", "longer", "both", "counted"] ["powers", "more"] (za (top 23)):=⟨rfl,rfl,rfl,by decide +kernel,rfl,by decide +kernel,by decide +kernel⟩
 refine yz F S (F.binds λ_ _ _ _ _ _ us hl=>(by obtain ⟨_,_,rfl⟩:=vj hl; rfl)) m λqZ A outer s H E ds φ hr hl hT=>?_
 have hu:=hr.units
 refine ⟨_,(zf (zu 2 S.nd (xc (z9 (x3 (z9 (x3 zd) (z9 zc zd))) zd)))
   (zf (yn (Rf T.zip (z9 (z0 0) (z9 (z0 1) zd))) (yk (K0:=K) (n:=2) (by rfl) (by rfl) (zl (zj (i:=3) S.nd rfl (by walk_at "o")) (zl (zj (i:=4) S.nd rfl (by walk_at "o")) yj))) (yu 3 4) (zf (zu 5 S.nd (xc zd))
    (zf (W2 2 (yn (Zd T.range (z9 (Jf T.max (z9 (z0 3) (z9 (z0 4) zd))) (z9 (y8 (y8 (z0 3) (z0 4)) zc) zd))) (zj (i:=6) S.nd rfl (by walk_at "o")) (yc 6) (zf (zu 7 S.nd (yq (zm C4 (hr.mono (by decide)) (z9 (z0 6) (z9 (z0 3) zd))) (zm C4 (hr.mono (by decide)) (z9 (z0 3) (z9 (ui (y8 (z0 3) (z0 4)) (z0 6)) zd)))))
     (zk (Le 5 (xh (T:=["ahead", "ways"]) (F:=["counted", "both"]) (js:=[7,6]) (xw (z0 2)) (show zt (za (top 23)) _ ["ahead", "ways"] ["counted", "both"] from ⟨rfl,by decide +kernel,by decide +kernel,by decide +kernel,by decide +kernel,by decide +kernel⟩) (.cons rfl (.cons rfl .nil)) (by decide) (λcl C fp s H=>(yk (K0:=K) (n:=2) (by rfl) (by rfl) (zl (zj (i:=0) (show ((["ahead", "ways"]:List Str) ++ (["counted", "both"]:List Str)).Nodup by decide +kernel) rfl (by walk_at "o")) (zl (zj (i:=1) (show ((["ahead", "ways"]:List Str) ++ (["counted", "both"]:List Str)).Nodup by decide +kernel) rfl (by walk_at "o")) yj)))) (R8 (t4 wk (X2 wk jq) (yh (by decide)) (t4 wk jq (yh (by decide)) R9))) (yu 0 1) (λcl C fp s H=>xg) (λcl C fp s H=>(x3 (z9 (fx (z0 0) (x3 (z9 (z0 3) zd))) (z9 (yq (z0 1) (z0 2)) zd))))))))))
    (zk (Ld 2 5 (by decide) S.nd)))))
   (zk (y0 (z0 2))))),?_⟩
 obtain ⟨a,b,rfl,lab,l3,h3,h⟩:=hT
 refine ⟨rfl,rfl,rfl,rfl,rfl,rfl,trivial,?_⟩
 dsimp only
 refine je (ρ':=[some (dv (ikD (nk a))),some (dv (ikD (nk b))),some (dO (.lst [.tup [.tup [],.int 1]])),none,none,none,none,none]) ?_ ?_
 ·rfl
 refine (show sSeq _ _ [some (dv (ikD (nk a))),some (dv (ikD (nk b))),some (dO (.lst [.tup [.tup [],.int 1]])),none,none,none,none,none] _ from ?_)
 refine wu (ye (zipD ((nk a).map D.int) ((nk b).map D.int)) (λψ hψ=>⟨trivial,trivial,hψ⟩) (λi ρ=>∃ (ms:RW) (f s g c:Option EV),ρ=[some (dv (ikD (nk a))),some (dv (ikD (nk b))),some (dO (.lst (ms.map prD))),f,s,none,g,c] /\ MI a b i ms) ⟨[([],1)],none,none,none,none,rfl,MI.zero a b⟩ ?_ ?_)
 ·rintro i d _ hd ⟨ms,f,s,g,c,rfl,M⟩
  obtain ⟨la,lb,rfl⟩:=Jz lab hd
  have h3i:=h3 i
  obtain ⟨fi,ef⟩:∃ fi,fi=a.getD i 0:=⟨_,rfl⟩
  obtain ⟨si,es⟩:∃ si,si=b.getD i 0:=⟨_,rfl⟩
  obtain ⟨S0,eS⟩:∃ S0,S0=(a.take i).sum + (b.take i).sum:=⟨_,rfl⟩
  have Mk:=M.ok
  rw [<- eS] at Mk
  rw [<- ef,<- es] at h3i ⊢
  refine ⟨rfl,rfl,trivial,?_⟩
  dsimp only
  refine wu (Lk ?_)
  refine (show sFor (iR2 _) (gN 6) _ [some (dv (ikD (nk a))),some (dv (ikD (nk b))),some (dv (.lst (ms.map prD))),some (dv (.int fi)),some (dv (.int (si:Nat))),some (dO (.lst [])),g,c] _ from ?_)
  refine ye (rngD ((max fi si:Nat):Int) (fi + si + 1 - max fi si)) (λψ hψ=>?_) (λj ρ=>∃ (us:RW) (g c:Option EV),ρ=[some (dv (ikD (nk a))),some (dv (ikD (nk b))),some (dv (.lst (ms.map prD))),some (dv (.int fi)),some (dv (.int (si:Nat))),some (dO (.lst (us.map prD))),g,c] /\ JI fi si S0 i ms j us) ⟨[],g,c,rfl,JI.zero fi si S0 i ms⟩ ?_ ?_
  ·have e1:(if ((si:Nat):Int) > (fi:Int) then ((si:Nat):Int) else (fi:Int))=((max fi si:Nat):Int):=by split <;> omega
   have e2:((fi:Int) + ((si:Nat):Int) + 1 - ((max fi si:Nat):Int)).toNat=fi + si + 1 - max fi si:=by omega
   show (_ /\ _ /\ _ /\ _) /\ ψ (rngD (if ((si:Nat):Int) > (fi:Int) then ((si:Nat):Int) else (fi:Int)) ((fi:Int) + ((si:Nat):Int) + 1 - (if ((si:Nat):Int) > (fi:Int) then ((si:Nat):Int) else (fi:Int))).toNat)
   rw [e1,e2]
   exact ⟨⟨by omega,by omega,by omega,by omega⟩,hψ⟩
  ·rintro j d _ hd ⟨us,g,c,rfl,J⟩
   obtain ⟨hj,rfl⟩:=x9 hd
   have c1:=cb_3 (max fi si + j) fi (by omega) (by omega)
   have c2:=cb_3 fi (fi + si - (max fi si + j)) (by omega) (by omega)
   have J2:=J.step M.ln Mk h3i hj
   obtain ⟨w,ew⟩:∃ w:Int,w=(cb (max fi si + j) fi:Int) * cb fi (fi + si - (max fi si + j)):=⟨_,rfl⟩
   rw [<- ew] at J2
   have w0:0 <= w /\ w <= 9:=by
    have:=Nat.mul_le_mul c1 c2
    rw [ew]
    exact ⟨by exact_mod_cast Nat.zero_le _,by exact_mod_cast this⟩
   refine Ky (wj ?_)
   refine d0 (x:=dv (.int (cb (max fi si + j) fi:Nat))) (y:=dv (.int (cb fi (fi + si - (max fi si + j)):Nat)))
    (λψ hψ=>yw [dv (.int (((max fi si:Nat):Int) + j)),dv (.int fi)] (λψ hψ=>hψ) rfl ⟨_,_,by rw [<- Int.natCast_add]; rfl,by omega,by omega,hψ⟩)
    (λψ hψ=>yw [dv (.int fi),dv (.int ((fi:Int) + ((si:Nat):Int) - (((max fi si:Nat):Int) + j)))] (λψ hψ=>hψ) rfl ⟨_,fi + si - (max fi si + j),by rw [show (fi:Int) + ((si:Nat):Int) - (((max fi si:Nat):Int) + j)=((fi + si - (max fi si + j):Nat):Int) by omega]; rfl,by omega,by omega,hψ⟩) ?_
   refine ⟨v8 (qa (m:=2) (by omega) (by omega) (by decide)) (qa (m:=2) (by omega) (by omega) (by decide)),trivial,?_⟩
   rw [<- ew]
   refine Qy (us.map prD) rfl ?_
   refine v6 (ms.map prD) (λψ hψ=>⟨trivial,hψ⟩) (snF (((max fi si:Nat):Int) + j) w) (by
    rw [zLm]
    have h1:=M.ln
    have h2:2 ^ i <= 2 ^ 5:=Nat.pow_le_pow_right (by decide) (by omega)
    omega) (λd hd=>?_) ?_
   ·obtain ⟨q,hq,rfl⟩:=zah.mp hd
    have o:=Mk q hq
    have b9:9 ^ i <= 9 ^ 5:=Nat.pow_le_pow_right (by decide) (by omega)
    have ob:=o.nb
    refine ⟨λ_=>?_,λz=>(by cases z)⟩
    refine ⟨rfl,rfl,Ta _,⟨trivial,trivial⟩,?_,?_,rfl,rfl,trivial,rfl⟩
    ·rw [sizeLine_eq,zLm,o.ln]
     show i + 1 <= _
     omega
    ·exact v8 (qa (m:=20) o.n0 (by omega) (by decide)) (qa (m:=20) w0.1 (by omega) (by decide))
   ·rw [L9]
    refine ⟨_,rfl,?_,?_,us ++ sn ((max fi si + j:Nat):Int) w ms,some (dv (.int (((max fi si:Nat):Int) + j))),some (dv (.int w)),?_,J2⟩
    ·unfold sn
     rw [zLm,zLm]
     have h1:=M.ln
     have h2:2 ^ i <= 2 ^ 5:=Nat.pow_le_pow_right (by decide) (by omega)
     omega
    ·rw [zLm]
     have h1:=J.ln
     have h2:2 ^ i <= 2 ^ 5:=Nat.pow_le_pow_right (by decide) (by omega)
     have h3:j * 2 ^ i <= 3 * 2 ^ 5:=Nat.mul_le_mul (by omega) h2
     omega
    ·rw [zMa,Int.natCast_add]
     rfl
  ·rintro _ ⟨us,g,c,rfl,J⟩
   rw [xf] at J
   exact ⟨us,_,_,_,_,rfl,M.step la lb (h3 i) (by rw [<- ef,<- es,<- eS]; exact J)⟩
 ·rintro _ ⟨ms,f,s,g,c,rfl,M⟩
  have e:(zipD ((nk a).map D.int) ((nk b).map D.int)).length=a.length:=by unfold zipD nk; simp; omega
  rw [e] at M
  refine ⟨Lq ms,h ms M.ln ?_ ?_⟩
  ·have:=M.ok
   rw [List.take_length,lab,List.take_length,<- lab] at this
   exact this
  ·intro x
   have:=M.ev x
   rw [List.take_length,lab,List.take_length] at this
   exact this
def Ko (k:List Int) (n:Int) (p:RW):wc (p.map λq=>q.1.map (Sum.inl:Int->Key)) (k.map Sum.inl)=(putR p k n).map λq=>q.1.map Sum.inl:=by
 have e:(putR p k n).map (λq=>q.1.map (Sum.inl:Int->Key))=((putR p k n).map Prod.fst).map (λk=>k.map Sum.inl):=by rw [List.map_map]; rfl
 have e2:p.map (λq=>q.1.map (Sum.inl:Int->Key))=(p.map Prod.fst).map (λk=>k.map Sum.inl):=by rw [List.map_map]; rfl
 rw [e,cr,e2]
 unfold wc
 have iff:k.map (Sum.inl:Int->Key) ∈ (p.map Prod.fst).map (λk=>k.map Sum.inl) ↔ k ∈ p.map Prod.fst:=by
  rw [zah]
  exact ⟨λ⟨a,h,z⟩=>kinl.mp z ▸ h,λh=>⟨k,h,rfl⟩⟩
 by_cases m:k ∈ p.map Prod.fst
 ·rw [if_pos m,if_pos (iff.mpr m)]
 ·rw [if_neg m,if_neg (λz=>m (iff.mp z)),zMa]
  rfl
def Rq (k:List Int) (n:Int):∀ p:RW,x4 (p.map λq=>q.1.map (Sum.inl:Int->Key)) (p.map λq=>D.int q.2) (k.map Sum.inl) (D.int (getR p k + n))=(putR p k n).map λq=>D.int q.2
 | []=>by show [D.int (0 + n)]=[D.int n]; rw [Int.zero_add]
 | q :: p=>by
  have ih:=Rq k n p
  rw [List.map_cons,List.map_cons,x4]
  unfold putR getR
  by_cases e:q.1=k
  ·rw [if_pos e,if_pos e,if_pos (by rw [e])]
   rfl
  ·rw [if_neg e,if_neg e,if_neg (λz=>e (kinl.mp z)),ih]
   rfl
def T1 {i:Nat} {tk te:TD} {ρ:DE} {Z:DZ} (r:RW) (k:List Int) (n:Int) (e:slot ρ i=some (dO (dtI r))) (he:∀ ψ:EV->Prop,ψ (dv (.int (getR r k + n)))->te ρ ψ) (hk:∀ ψ:EV->Prop,ψ (dv (ikD k))->tk ρ ψ) (hl:r.length <= 100000) (h:Z.nx (setS ρ i (dO (dtI (putR r k n))))):u5 i tk te ρ Z:=by
 unfold u5
 rw [e]
 refine he _ (hk _ ⟨trivial,by rw [zLm]; exact hl,?_⟩)
 show match keyT (ikD k) with | some k=>_ | none=>False
 rw [show keyT (ikD k)=some (k.map Sum.inl) from qr k]
 show Z.nx (setS ρ i (dO (.dt (wc _ _) (x4 _ _ _ (D.int (getR r k + n))))))
 rw [Ko k n r,Rq k n r]
 exact h
def Ru {i j:Nat} {ρ:DE} {ψ:EV->Prop} (r:RW) (k:List Int) (e:slot ρ i=some (dO (dtI r))) (e2:slot ρ j=some (dv (ikD k))) (h:ψ (dv (.int (getR r k)))):Rv (xi i) (xi j) (dC (.int 0)) ρ ψ:=by
 refine xo e ?_
 refine xo e2 ⟨trivial,?_⟩
 show match keyT (ikD k) with | some k=>_ | none=>False
 rw [show keyT (ikD k)=some (k.map Sum.inl) from qr k]
 show ψ (dv ((yb _ _ _).getD (D.int 0)))
 rw [Yl]
 exact h
def ROk.put {many d z:Nat} {r:RW} {k:List Int} {n:Int} (h:ROk many d z r) (hk:KOk many d z k) (hn:0 <= n):ROk many d z (putR r k n):=by
 refine ⟨uw h.1,?_⟩
 have gen:∀ p:RW,(∀ q ∈ p,KOk many d z q.1 /\ 0 <= q.2)->∀ q ∈ putR p k n,KOk many d z q.1 /\ 0 <= q.2:=by
  intro p
  induction p with
  | nil=>intro _ q hq; simp [putR] at hq; subst hq; exact ⟨hk,hn⟩
  | cons a p ih =>
   intro hp q hq
   unfold putR at hq
   have ha:=hp a (by simp)
   split at hq
   ·rcases zam.mp hq with rfl | hq
    ·exact ⟨ha.1,by have:=ha.2; show 0 <= a.2 + n; omega⟩
    ·exact hp q (by simp [hq])
   ·rcases zam.mp hq with rfl | hq
    ·exact ha
    ·exact ih (λq hq=>hp q (by simp [hq])) q hq
 exact gen r h.2
def tw {i j:Nat} {a b:D} {ρ:DE} {ψ:DE->Prop} (h:ψ (setS (setS ρ i (dv a)) j (dv b))):gT2 i j (.tup [a,b]) ρ ψ:=h
def W5 {ti:TID} {g:TGD} {tb:TDS} {ρ:DE} {Z:DZ} (R:List D->Prop) (h:∀ ψ:List D->Prop,(∀ ds,R ds->ψ ds)->ti ρ ψ) (k:∀ ds,R ds->∃ P:Nat->DE->Prop,P 0 ρ /\ (∀ i d ρ,ds[i]?=some d->P i ρ->g d ρ λρ'=>tb ρ' { Z with nx:=P (i + 1),ct:=P (i + 1),bk:=Z.nx }) /\ ∀ ρ,P ds.length ρ->Z.nx ρ):sFor ti g tb ρ Z:=h _ k
def S4 {k:List Int} (h:∀ c ∈ k,0 <= c):nk (k.map Int.toNat)=k:=by
 unfold nk
 rw [List.map_map]
 conv=>rhs; rw [<- List.map_id k]
 refine List.map_congr_left λc hc=>?_
 show ((c.toNat:Nat):Int)=c
 have:=h c hc
 omega
def S2:∀ a:List Nat,(nk a).sum=((a.sum:Nat):Int)
 | []=>rfl
 | a :: l=>by
  show ((a:Nat):Int) + (nk l).sum=_
  rw [S2 l,List.sum_cons]
  omega
def fj:∀ (a:List Nat) (i:Nat),a.getD i 0 <= a.sum
 | [],i=>by simp
 | a :: l,0=>by simp
 | a :: l,i + 1=>by
  have:=fj l i
  simp at this ⊢
  omega
def fu (x:Nat->Nat) {p:RW} {t:Nat} {k:List Int} {n:Int} (e:p[t]?=some (k,n)):evR x (p.take (t + 1))=evR x (p.take t) + n * Bv x k:=by
 rw [List.take_add_one,e,qv]
 simp [evR]
def Hi:FT:=λds φ=>∃ (p q:RW) (many e1 e2:Nat),ds=[.dz p,.dz q] /\ many <= 5 /\ e1 + e2 <= 3 /\ ROk many e1 many p /\ ROk many e2 many q /\ (∀ c ∈ p,intBits c.2 <= 1400) /\ (∀ c ∈ q,intBits c.2 <= 1400) /\
 ∀ r:RW,ROk many (e1 + e2) many r->(∀ x,evR x r=evR x p * evR x q)->φ (df (dtI r))
def Kj {many e1 e2:Nat} {k l:List Int} (m3:many <= 5) (d3:e1 + e2 <= 3) (hk:KOk many e1 many k) (hl:KOk many e2 many l) {φ:EV->Prop} (h:∀ ms:RW,(∀ c ∈ ms,KOk many (e1 + e2) many c.1 /\ 0 <= c.2 /\ c.2 <= 59049)->(∀ x,evR x ms=Bv x k * Bv x l)->φ (df (.lst (ms.map prD)))):L1 [ikD k,ikD l] φ:=by
 have ek:=S4 hk.2.1
 have el:=S4 hl.2.1
 have lk:(k.map Int.toNat).length=many:=by rw [zLm]; exact hk.1
 have ll:(l.map Int.toNat).length=many:=by rw [zLm]; exact hl.1
 have sk:(k.map Int.toNat).sum <= e1:=by have:=S2 (k.map Int.toNat); rw [ek] at this; have:=hk.2.2.1; omega
 have sl:(l.map Int.toNat).sum <= e2:=by have:=S2 (l.map Int.toNat); rw [el] at this; have:=hl.2.2.1; omega
 refine ⟨k.map Int.toNat,l.map Int.toNat,by rw [ek,el],by rw [lk,ll],by omega,λi=>?_,λms _ ok ev=>h ms (λc hc=>?_) λx=>?_⟩
 ·have h1:=fj (k.map Int.toNat) i
  have h2:=fj (l.map Int.toNat) i
  omega
 ·have o:=ok c hc
  rw [lk] at o
  have h9:9 ^ many <= 9 ^ 5:=Nat.pow_le_pow_right (by decide) m3
  have:=o.nb
  have:=o.sm
  exact ⟨⟨o.ln,o.nn,by omega,λj h1 h2=>by omega⟩,o.n0,by omega⟩
 ·rw [ev x,ek,el]
def fo (T:Tops mg) (B9:FD P w K mg base 2 "meetings" ["powers", "more"] L1) (F:Fun K "multiplied" "multiplied" (top 22) f fd) (m:mg "multiplied" = some (.ref f)):FD P w K mg base 3 "multiplied" ["one", "other"] Hi:=by
 have S:zw ["one", "other", "product", "powers", "ways", "more", "by", "met", "counted"] ["one", "other"] (za (top 22)):=⟨rfl,rfl,rfl,by decide +kernel,rfl,by decide +kernel,by decide +kernel⟩
 refine yz F S (F.binds λ_ _ _ _ _ _ us hl=>(by obtain ⟨_,_,rfl⟩:=vj hl; rfl)) m λqZ A outer s H E ds φ hr hl hT=>?_
 have hu:=hr.units
 refine ⟨_,(zf (zu 2 S.nd uj)
   (zf (yn (uh (z0 0)) (yk (K0:=K) (n:=2) (by rfl) (by rfl) (zl (zj (i:=3) S.nd rfl (by walk_at "o")) (zl (zj (i:=4) S.nd rfl (by walk_at "o")) yj))) (yu 3 4) (zk (yn (uh (z0 1)) (yk (K0:=K) (n:=2) (by rfl) (by rfl) (zl (zj (i:=5) S.nd rfl (by walk_at "o")) (zl (zj (i:=6) S.nd rfl (by walk_at "o")) yj))) (yu 5 6) (zk (yn (xw (zm B9 (hr.mono (by decide)) (z9 (z0 3) (z9 (z0 5) zd)))) (yk (K0:=K) (n:=2) (by rfl) (by rfl) (zl (zj (i:=7) S.nd rfl (by walk_at "o")) (zl (zj (i:=8) S.nd rfl (by walk_at "o")) yj))) (yu 7 8) (zk (rc 2 hu (z0 7) (y8 (rk hu (z0 2) (z0 7) zc) (yq (yq (z0 4) (z0 6)) (z0 8))))))))))
   (zk (y0 (z0 2))))),?_⟩
 obtain ⟨p,q,many,e1,e2,rfl,m3,d3,okp,okq,bp,bq,h⟩:=hT
 refine ⟨trivial,?_⟩
 dsimp only
 refine je (ρ':=[some (dv (.dz p)),some (dv (.dz q)),some (dO (dtI [])),none,none,none,none,none,none]) (by rfl) (wu ?_)
 refine ye (p.map prD) (λψ hψ=>hψ) (λt ρ=>∃ (r:RW) (a b c d e f:Option EV),ρ=[some (dv (.dz p)),some (dv (.dz q)),some (dO (dtI r)),a,b,c,d,e,f] /\ ROk many (e1 + e2) many r /\ ∀ x,evR x r=evR x (p.take t) * evR x q) ⟨[],none,none,none,none,none,none,rfl,⟨List.nodup_nil,λc hc=>absurd hc (by simp)⟩,λx=>by show (0:Int)=0 * _; omega⟩ ?_ ?_
 ·rintro t d _ hd ⟨r,a,b,c,d,e,f,rfl,okr,evr⟩
  rw [zai] at hd
  obtain ⟨⟨k,n⟩,ep,rfl⟩:=zar.mp hd
  have mp:=zan ep
  obtain ⟨ok1,n0⟩:=okp.2 _ mp
  have nb:=bp _ mp
  refine (show sFor (iZt (xi 1)) (gT2 5 6) _ [some (dv (.dz p)),some (dv (.dz q)),some (dO (dtI r)),some (dv (ikD k)),some (dv (.int n)),c,d,e,f] _ from ?_)
  refine ye (q.map prD) (λψ hψ=>hψ) (λu ρ=>∃ (r':RW) (c d e f:Option EV),ρ=[some (dv (.dz p)),some (dv (.dz q)),some (dO (dtI r')),some (dv (ikD k)),some (dv (.int n)),c,d,e,f] /\ ROk many (e1 + e2) many r' /\ ∀ x,evR x r'=evR x r + n * Bv x k * evR x (q.take u)) ⟨r,c,d,e,f,rfl,okr,λx=>by show _=_ + _ * (0:Int); omega⟩ ?_ ?_
  ·rintro u d _ hd ⟨r',c,d,e,f,rfl,okr',evr'⟩
   rw [zai] at hd
   obtain ⟨⟨l,n'⟩,eq,rfl⟩:=zar.mp hd
   have mq:=zan eq
   obtain ⟨ok2,n0'⟩:=okq.2 _ mq
   have nb':=bq _ mq
   refine (show sFor (iSeq _) (gT2 7 8) _ [some (dv (.dz p)),some (dv (.dz q)),some (dO (dtI r')),some (dv (ikD k)),some (dv (.int n)),some (dv (ikD l)),some (dv (.int n')),e,f] _ from ?_)
   refine W5 (λds=>∃ ms:RW,ds=ms.map prD /\ (∀ c ∈ ms,KOk many (e1 + e2) many c.1 /\ 0 <= c.2 /\ c.2 <= 59049) /\ ∀ x,evR x ms=Bv x k * Bv x l) (λψ hψ=>?_) ?_
   ·exact yw [dv (ikD k),dv (ikD l)] (λψ hψ=>hψ) rfl (Kj m3 d3 ok1 ok2 λms h1 h2=>⟨trivial,hψ _ ⟨ms,rfl,h1,h2⟩⟩)
   ·rintro _ ⟨ms,rfl,okm,evm⟩
    refine ⟨λv ρ=>∃ (r2:RW) (e f:Option EV),ρ=[some (dv (.dz p)),some (dv (.dz q)),some (dO (dtI r2)),some (dv (ikD k)),some (dv (.int n)),some (dv (ikD l)),some (dv (.int n')),e,f] /\ ROk many (e1 + e2) many r2 /\ ∀ x,evR x r2=evR x r' + n * n' * evR x (ms.take v),⟨r',e,f,rfl,okr',λx=>by show _=_ + _ * (0:Int); omega⟩,?_,?_⟩
    ·rintro v d _ hd ⟨r2,e,f,rfl,okr2,evr2⟩
     rw [zai] at hd
     obtain ⟨⟨l2,w⟩,em,rfl⟩:=zar.mp hd
     obtain ⟨ok3,w0,wb⟩:=okm _ (zan em)
     refine tw (a:=ikD l2) (b:=.int w) ?_
     refine (show u5 2 (xi 7) _ [some (dv (.dz p)),some (dv (.dz q)),some (dO (dtI r2)),some (dv (ikD k)),some (dv (.int n)),some (dv (ikD l)),some (dv (.int n')),some (dv (ikD l2)),some (dv (.int w))] _ from ?_)
     have nn:intBits (n * n') <= 3000:=zak (PySem.intBits_mul_le nb nb') (by decide)
     have nnn:0 <= n * n':=Int.mul_nonneg n0 n0'
     refine T1 r2 l2 (n * n' * w) rfl (λψ hψ=>?_) (λψ hψ=>hψ) (by have:=okr2.len m3 d3; omega) ⟨putR r2 l2 (n * n' * w),_,_,rfl,okr2.put ok3 (Int.mul_nonneg nnn w0),λx=>?_⟩
     ·exact d0 (x:=dv (.int (getR r2 l2))) (y:=dv (.int (n * n' * w))) (λψ hψ=>Ru r2 l2 rfl rfl hψ) (λψ hψ=>⟨v8 (zak nb (by decide)) (zak nb' (by decide)),v8 nn (qa (m:=20) w0 (by omega) (by decide)),hψ⟩) hψ
     ·rw [Xa,evr2 x,fu x em]
      grind
    ·rintro _ ⟨r2,e,f,rfl,okr2,evr2⟩
     refine ⟨r2,_,_,_,_,rfl,okr2,λx=>?_⟩
     rw [evr2 x,evr' x,fu x eq,zLm,List.take_length,evm x]
     grind
  ·rintro _ ⟨r',c,d,e,f,rfl,okr',evr'⟩
   refine ⟨r',_,_,_,_,_,_,rfl,okr',λx=>?_⟩
   rw [evr' x,evr x,fu x ep,zLm,List.take_length]
   grind
 ·rintro _ ⟨r,a,b,c,d,e,f,rfl,okr,evr⟩
  rw [zLm,List.take_length] at evr
  refine ⟨?_,h r okr evr⟩
  exact yt.mpr λd hd=>by
   obtain ⟨r,_,rfl⟩:=zah.mp hd
   trivial
structure Sp (many H:Nat) (ln:List Nat) (ss:List RW):Prop where
 ls:ss.length=H + 1
 ok:∀ (m:Nat) r,ss[m]?=some r->ROk many m many r
 ev:∀ x m,m <= H->evR x (gR ss m)=cb (xy ln many x) m
def LOk (many:Nat) (ln:List Nat):Prop:=ln.length=many + 1 /\ ∀ a ∈ ln,a < 2 ^ 50
def spD' (ss:List RW):D:=.lst (ss.map D.dz)
def SeqL (lz:D) (lns:List (List Nat)):Prop:=lz=.lst (lns.map lnD) \/ lz=.tup (lns.map lnD)
def Xs:FT:=λds φ=>∃ (lz:D) (lns:List (List Nat)) (many H:Nat),ds=[lz,.int many,.int H] /\ SeqL lz lns /\ many <= 5 /\ H <= 3 /\ lns.length <= 16 /\ (∀ ln ∈ lns,LOk many ln) /\
 ∀ sss:List (List RW),sss.length=lns.length->(∀ (i:Nat) ln ss,lns[i]?=some ln->sss[i]?=some ss->Sp many H ln ss)->φ ⟨.new,.lst (sss.map spD')⟩
def Yv (lns:List (List Nat)) (many:Nat) (x:Nat->Nat) (i:Nat):Nat:=xy (lns.getD i []) many x
def Hg:FT:=λds φ=>∃ (k:List Int) (lns:List (List Nat)) (sss:List (List RW)) (many H:Nat),ds=[ikD k,.lst (sss.map spD'),.int many] /\ many <= 5 /\ H <= 3 /\ lns.length <= 16 /\ sss.length=lns.length /\ (∀ ln ∈ lns,LOk many ln) /\
 (∀ (i:Nat) ln ss,lns[i]?=some ln->sss[i]?=some ss->Sp many H ln ss) /\ KOk lns.length 3 lns.length k /\ (∀ c ∈ k,c <= H) /\
 ∀ r:RW,ROk many 3 many r->(∀ x,evR x r=Bv (Yv lns many x) k)->(∀ c ∈ r,c.2 <= 2 ^ 510)->φ (dv (.dz r))
def Sp.coef {many H:Nat} {ln:List Nat} {ss:List RW} (S:Sp many H ln ss) (hl:LOk many ln) (m3:many <= 5) (h3:H <= 3) {m:Nat} {r:RW} (e:ss[m]?=some r):∀ c ∈ r,0 <= c.2 /\ c.2 < 2 ^ 170:=λc hc=>by
 have hm:m < H + 1:=by rw [<- S.ls]; exact (zag.mp e).1
 have o:=S.ok m r e
 have h1:=d5 (by omega) o.2 c hc
 have e2:=S.ev (λ_=>3) m (by omega)
 rw [show gR ss m=r by unfold gR; simp [List.getD,e]] at e2
 rw [e2] at h1
 have h2:=d6 hl.2 (p:=many) (m:=m) (by omega) (by omega)
 exact ⟨(o.2 c hc).2,Int.lt_of_le_of_lt h1 h2⟩
def Jv {k:List Int} {i:Nat} (y:Nat->Nat) (h:i < k.length):Bv y (k.take (i + 1))=Bv y (k.take i) * cb (y i) (k.getD i 0).toNat:=by
 have e:k.take (i + 1)=k.take i ++ [k.getD i 0]:=by
  rw [List.take_add_one,zaf h]
  simp [h]
 have l:(k.take i).length=i:=by rw [List.length_take]; omega
 rw [e,j3,l]
def Qq {k:List Int} {i:Nat} (h:i < k.length):(k.take (i + 1)).sum=(k.take i).sum + k.getD i 0:=by
 rw [List.take_add_one,zaf h,List.sum_append]
 simp [h]
def ut:∀ {k:List Int},(∀ c ∈ k,0 <= c)->0 <= k.sum
 | [],_=>Int.le_refl _
 | a :: k,h=>by
  have h1:=ut (k:=k) λc hc=>h c (by simp [hc])
  have h2:=h a (by simp)
  rw [List.sum_cons]
  omega
def Xv {k:List Int} (h:∀ c ∈ k,0 <= c) (i:Nat):(k.take i).sum <= k.sum /\ 0 <= (k.take i).sum:=by
 have e:k.sum=(k.take i).sum + (k.drop i).sum:=by
  conv=>lhs; rw [<- List.take_append_drop i k,List.sum_append]
 have h1:=ut (k:=k.drop i) λc hc=>h c (List.mem_of_mem_drop hc)
 have h2:=ut (k:=k.take i) λc hc=>h c (List.mem_of_mem_take hc)
 omega
def Jy {k:List Int} {sss:List (List RW)} (h:k.length=sss.length) {i:Nat} {d:D} (e:(zipD (k.map D.int) (sss.map spD'))[i]?=some d):i < k.length /\ d=.tup [.int (k.getD i 0),spD' (sss.getD i [])]:=by
 have hi:=(zag.mp e).1
 unfold zipD at e hi
 simp at hi
 have la:i < k.length:=by omega
 have lb:i < sss.length:=by omega
 refine ⟨la,?_⟩
 rw [List.getElem?_zipWith] at e
 simp [la,lb] at e
 simp [la,lb,e]
def Lf {i:Nat} {te:TD} {ρ:DE} {Z:DZ} (h:te ρ λr=>∃ rs,r=df (dtI rs) /\ True /\ Z.nx (setS ρ i (dv (.dz rs)))):sSet i (dFz te) ρ Z:=h
def Vw {many:Nat} {ln:List Nat} (h:LOk many ln) (m3:many <= 5) {m:Nat} (hm:m <= 3):(cb (xy ln many λ_=>3) m:Int) < 2 ^ 170:=d6 h.2 m3 hm
def fk (T:Tops mg) (B3:FD P w K mg base 3 "spread_of" ["line", "many", "highest"] Ub) (F:Fun K "spreads_of" "spreads_of" (top 15) f fd) (m:mg "spreads_of" = some (.ref f)):FD P w K mg base 4 "spreads_of" ["lines", "many", "highest"] Xs:=by
 have S:zw ["lines", "many", "highest"] ["lines", "many", "highest"] (za (top 15)):=⟨rfl,rfl,rfl,by decide +kernel,rfl,by decide +kernel,by decide +kernel⟩
 refine yz F S (F.binds λ_ _ _ _ _ _ us hl=>(by obtain ⟨_,_,_,rfl⟩:=bf hl; rfl)) m λqZ A outer s H E ds φ hr hl hT=>?_
 have hu:=hr.units
 refine ⟨_,(zk (y0 (Ou (T:=["line"]) (F:=["many", "highest"]) (js:=[1,2]) (xw (z0 0)) (show zt (za (top 15)) _ ["line"] ["many", "highest"] from ⟨rfl,by decide +kernel,by decide +kernel,by decide +kernel,by decide +kernel,by decide +kernel⟩) (.cons rfl (.cons rfl .nil)) (by decide) (λcl C fp s H=>(zj (i:=0) (show ((["line"]:List Str) ++ (["many", "highest"]:List Str)).Nodup by decide +kernel) rfl (by walk_at "o"))) (yh (by decide)) (yc 0) (λcl C fp s H=>xg) (λcl C fp s H=>(zm B3 (hr.mono (by decide)) (z9 (z0 0) (z9 (z0 1) (z9 (z0 2) zd)))))))),?_⟩
 obtain ⟨lz,lns,many,H,rfl,sl,m3,h3,l3,hl,h⟩:=hT
 refine Rw (lns.map lnD) (λψ hψ=>by rcases sl with rfl | rfl <;> exact ⟨trivial,hψ⟩) (λi es=>∃ sss:List (List RW),es=sss.map spD' /\ sss.length=i /\ ∀ (j:Nat) ln ss,lns[j]?=some ln->sss[j]?=some ss->Sp many H ln ss) (by rw [zLm]; omega) ⟨[],rfl,rfl,λj ln ss _ e=>by simp at e⟩ ?_ ?_
 ·rintro i d _ hd _ ⟨sss,rfl,li,S⟩
  rw [zai] at hd
  obtain ⟨ln,el,rfl⟩:=zar.mp hd
  have hln:=hl ln (zan el)
  refine ⟨λ_=>?_,λz=>(by cases z)⟩
  refine ⟨rfl,ln,many,H,rfl,m3,h3,hln.1,hln.2,λrs lr ok ev=>⟨?_,sss ++ [rs],?_,?_,?_⟩⟩
  ·exact yt.mpr λd hd=>by
    obtain ⟨r,_,rfl⟩:=zah.mp hd
    trivial
  ·rw [zMa]; rfl
  ·rw [zLa,li]; rfl
  ·intro j ln' ss e1 e2
   by_cases z:j < sss.length
   ·rw [List.getElem?_append_left z] at e2
    exact S j ln' ss e1 e2
   ·rw [List.getElem?_append_right (by omega)] at e2
    have hj:j - sss.length=0:=by
     have:=(zag.mp e2).1
     simp at this
     omega
    rw [hj] at e2
    simp at e2
    subst e2
    have:j=i:=by omega
    subst this
    rw [el] at e1
    cases e1
    exact ⟨lr,ok,ev⟩
 ·rintro _ ⟨sss,rfl,li,S⟩
  rw [zLm] at li
  exact ⟨trivial,h sss li S⟩
def fm (T:Tops mg) (Cm:FD P w K mg base 3 "multiplied" ["one", "other"] Hi) (F:Fun K "product_at" "product_at" (top 14) f fd) (m:mg "product_at" = some (.ref f)):FD P w K mg base 4 "product_at" ["powers", "spreads", "many"] Hg:=by
 have S:zw ["powers", "spreads", "many", "product", "power", "spread"] ["powers", "spreads", "many"] (za (top 14)):=⟨rfl,rfl,rfl,by decide +kernel,rfl,by decide +kernel,by decide +kernel⟩
 refine yz F S (F.binds λ_ _ _ _ _ _ us hl=>(by obtain ⟨_,_,_,rfl⟩:=bf hl; rfl)) m λqZ A outer s H E ds φ hr hl hT=>?_
 have hu:=hr.units
 refine ⟨_,(zf (zu 3 S.nd (Ot (Ws hu (Rh (x3 (z9 zc zd)) (z0 2)) zc)))
   (zf (yn (Rf T.zip (z9 (z0 0) (z9 (z0 1) zd))) (yk (K0:=K) (n:=2) (by rfl) (by rfl) (zl (zj (i:=4) S.nd rfl (by walk_at "o")) (zl (zj (i:=5) S.nd rfl (by walk_at "o")) yj))) (yu 4 5) (zk (vh (J8 (z0 4) zc) (zk (zu 3 S.nd (Ot (zm Cm (hr.mono (by decide)) (z9 (z0 3) (z9 (zx hu (z0 5) (z0 4)) zd)))))) xp)))
   (zk (y0 (z0 3))))),?_⟩
 obtain ⟨k,lns,sss,many,H,rfl,m3,h3,l3,lss,hl,hS,hk,kH,h⟩:=hT
 have kl:k.length=sss.length:=by rw [hk.1,lss]
 refine ⟨rfl,rfl,[0],many,rfl,rfl,(λz=>nomatch z),(by rw [sizeLine_eq]; simp; omega),_,_,rfl,rfl,_,rfl,trivial,?_⟩
 dsimp only
 refine je (ρ':=[some (dv (ikD k)),some (dv (.lst (sss.map spD'))),some (dv (.int many)),some (dv (.dz [((List.replicate many [(0:Int)]).flatten,1)])),none,none]) (by rfl) (wu ?_)
 refine ye (zipD (k.map D.int) (sss.map spD')) (λψ hψ=>⟨trivial,trivial,hψ⟩) (λi ρ=>∃ (r:RW) (a b:Option EV),ρ=[some (dv (ikD k)),some (dv (.lst (sss.map spD'))),some (dv (.int many)),some (dv (.dz r)),a,b] /\ ROk many (k.take i).sum.toNat many r /\ (∀ x,evR x r=Bv (Yv lns many x) (k.take i)) /\ evR (λ_=>3) r <= 2 ^ (170 * (k.take i).sum.toNat)) ?_ ?_ ?_
 ·have e0:[((List.replicate many [(0:Int)]).flatten,(1:Int))]=[(List.replicate many 0,((cb (([]:List Nat).getD 0 0) 0:Nat):Int))]:=by simp [cb]
  have Z:=SI.zero [] many 0
  have zo:=Z.ok 0 _ rfl
  have ze:∀ x,evR x [(List.replicate many 0,((cb (([]:List Nat).getD 0 0) 0:Nat):Int))]=1:=λx=>by
   have:=Z.ev x 0 (zaj _)
   rw [yr] at this
   exact this
  rw [e0]
  exact ⟨_,none,none,rfl,zo.up (zaj _) (by omega),λx=>ze x,by rw [ze]; exact Int.le_refl _⟩
 ·rintro i d _ hd ⟨r,a,b,rfl,okr,evr,br⟩
  obtain ⟨la,rfl⟩:=Jy kl hd
  obtain ⟨c,ec⟩:∃ c,c=k.getD i 0:=⟨_,rfl⟩
  have mc:c ∈ k:=by rw [ec]; simp [la]
  have c0:=hk.2.1 c mc
  have cH:=kH c mc
  have li:i < lns.length:=by rw [<- hk.1]; exact la
  have lsi:i < sss.length:=by omega
  have e1:lns[i]?=some (lns.getD i []):=by simp [li]
  have e2:sss[i]?=some (sss.getD i []):=by simp [lsi]
  have S:=hS i _ _ e1 e2
  have hln:=hl _ (zan e1)
  obtain ⟨ss,ess⟩:∃ ss,ss=sss.getD i []:=⟨_,rfl⟩
  rw [<- ess] at S
  rw [<- ec,<- ess]
  have sp:=Xv hk.2.1 i
  have sp1:=Xv hk.2.1 (i + 1)
  have k3:=hk.2.2.1
  have st:=Qq la
  rw [<- ec] at st
  have bt:=λy=>Jv (k:=k) y la
  rw [<- ec] at bt
  refine tw ?_
  refine (show sIf _ _ _ [some (dv (ikD k)),some (dv (.lst (sss.map spD'))),some (dv (.int many)),some (dv (.dz r)),some (dv (.int c)),some (dv (spD' ss))] _ from ?_)
  refine Lj (decide (c > 0)) (λψ hψ=>hψ) (λhz=>?_) (λhz=>?_)
  ·have lc:c.toNat < ss.length:=by rw [S.ls]; omega
   obtain ⟨t,et⟩:∃ t,ss[c.toNat]?=some t:=⟨_,zaf lc⟩
   have okt:=S.ok _ _ et
   have ct:=S.coef hln m3 h3 et
   have evt:∀ x,evR x t=cb (xy (lns.getD i []) many x) c.toNat:=λx=>by
    rw [<- S.ev x c.toNat (by omega)]
    unfold gR
    simp [List.getD,et]
   have cp:0 < c:=by simpa using hz
   have i3:(k.take i).sum.toNat <= 2:=by omega
   have bi:(2:Int) ^ (170 * (k.take i).sum.toNat) <= 2 ^ 340:=by
    have:(2:Nat) ^ (170 * (k.take i).sum.toNat) <= 2 ^ 340:=Nat.pow_le_pow_right (by decide) (Nat.mul_le_mul_left 170 i3)
    exact_mod_cast this
   refine Lf (yw [dv (.dz r),dv (.dz t)] (λψ hψ=>v7 _ _ (λψ hψ=>hψ) (λψ hψ=>v7 _ [] (λψ hψ=>d0 (x:=dv (spD' ss)) (y:=dv (.int c)) (λψ hψ=>hψ) (λψ hψ=>hψ) (W4 (se c0 (by rw [zai,et]; rfl)) hψ)) (λψ hψ=>hψ) hψ) hψ) rfl ⟨r,t,many,(k.take i).sum.toNat,c.toNat,rfl,m3,by omega,okr,okt,λq hq=>?_,λq hq=>?_,λr' ok' ev'=>⟨r',rfl,trivial,r',_,_,rfl,?_,λx=>?_,?_⟩⟩)
   ·have h1:=d5 (by omega) okr.2 q hq
    exact zak (wx (m:=341) (okr.2 q hq).2 (by omega)) (by decide)
   ·exact zak (wx (ct q hq).1 (ct q hq).2) (by decide)
   ·exact ok'.up (by omega) (zaj _)
   ·rw [ev' x,evr x,evt x,bt]
    rfl
   ·rw [ev' (λ_=>3),evt]
    have h1:0 <= evR (λ_=>3) r:=jr _ okr.2
    have h2:=Vw hln m3 (m:=c.toNat) (by omega)
    have h4:(2:Int) ^ (170 * (k.take i).sum.toNat) * 2 ^ 170 <= 2 ^ (170 * (k.take (i + 1)).sum.toNat):=by
     rw [<- Int.pow_add]
     have:(2:Nat) ^ (170 * (k.take i).sum.toNat + 170) <= 2 ^ (170 * (k.take (i + 1)).sum.toNat):=Nat.pow_le_pow_right (by decide) (by omega)
     exact_mod_cast this
    exact Int.le_trans (Int.mul_le_mul br (by omega) (by omega) (by omega)) h4
  ·have cz:c=0:=by
    have:¬ c > 0:=by simpa using hz
    omega
   refine ⟨r,_,_,rfl,okr.up (by omega) (zaj _),λx=>?_,?_⟩
   ·rw [evr x,bt,cz]
    show _=_ * ((cb _ 0:Nat):Int)
    rw [yr]
    show _=_ * (1:Int)
    omega
   ·have:(2:Int) ^ (170 * (k.take i).sum.toNat) <= 2 ^ (170 * (k.take (i + 1)).sum.toNat):=by
     have:(2:Nat) ^ (170 * (k.take i).sum.toNat) <= 2 ^ (170 * (k.take (i + 1)).sum.toNat):=Nat.pow_le_pow_right (by decide) (by omega)
     exact_mod_cast this
    omega
 ·rintro _ ⟨r,a,b,rfl,okr,evr,br⟩
  have lz:(zipD (k.map D.int) (sss.map spD')).length=k.length:=by unfold zipD; simp; omega
  rw [lz,List.take_length] at okr evr
  rw [lz,List.take_length] at br
  have k3:=hk.2.2.1
  refine ⟨trivial,h r (okr.up (by omega) (zaj _)) evr λq hq=>?_⟩
  have h1:=d5 (by omega) okr.2 q hq
  have bi:(2:Int) ^ (170 * k.sum.toNat) <= 2 ^ 510:=by
   have:(2:Nat) ^ (170 * k.sum.toNat) <= 2 ^ 510:=Nat.pow_le_pow_right (by decide) (by omega)
   exact_mod_cast this
  omega
end
def Ni (n:Int):rq (n,1)=(n:Rat):=by
 have:=Rat.num_divInt_den (n:Rat)
 rw [Rat.num_intCast,Rat.den_intCast] at this
 exact this
def sf (f:List Int->Rat):List Part->Rat
 | []=>0
 | p :: ps=>rq p.2 * f p.1 + sf f ps
def ev (ps:List Part) (x:Nat->Nat):Rat:=sf (λk=>((Bv x k:Int):Rat)) ps
def Nh (f:List Int->Rat):∀ a b:List Part,sf f (a ++ b)=sf f a + sf f b
 | [],b=>by show sf f b=0 + sf f b; grind
 | p :: a,b=>by
  show rq p.2 * f p.1 + sf f (a ++ b)=rq p.2 * f p.1 + sf f a + sf f b
  rw [Nh f a b]; grind
def ga (f:List Int->Rat) (k0:List Int):∀ ps:List Part,sf f ps=tot ps k0 * f k0 + sf f (ps.filter λp=>decide (p.1 ≠ k0))
 | []=>by show (0:Rat)=0 * f k0 + 0; grind
 | p :: ps=>by
  have ih:=ga f k0 ps
  show rq p.2 * f p.1 + sf f ps=((if p.1=k0 then rq p.2 else 0) + tot ps k0) * f k0 + _
  by_cases e:p.1=k0
  ·rw [List.filter_cons_of_neg (by simpa using e),if_pos e,ih,e]
   grind
  ·rw [List.filter_cons_of_pos (by simpa using e),if_neg e,ih]
   show _=_ + (rq p.2 * f p.1 + _)
   grind
def ur (k0 k:List Int):∀ ps:List Part,tot (ps.filter λp=>decide (p.1 ≠ k0)) k=if k=k0 then 0 else tot ps k
 | []=>by show (0:Rat)=_; split <;> rfl
 | p :: ps=>by
  have ih:=ur k0 k ps
  by_cases e:p.1=k0
  ·rw [List.filter_cons_of_neg (by simpa using e),ih]
   by_cases z:k=k0
   ·rw [if_pos z,if_pos z]
   ·rw [if_neg z,if_neg z]
    show _=(if p.1=k then rq p.2 else 0) + tot ps k
    rw [if_neg (λy=>z (by rw [<- y,e]))]
    grind
  ·rw [List.filter_cons_of_pos (by simpa using e)]
   show (if p.1=k then rq p.2 else 0) + _=if k=k0 then 0 else (if p.1=k then rq p.2 else 0) + tot ps k
   rw [ih]
   by_cases z:k=k0
   ·rw [if_pos z,if_pos z,if_neg (λy=>e (by rw [y,z]))]; grind
   ·rw [if_neg z,if_neg z]
def Z6 {ps:List Part} {p:Part} (h:p ∈ ps):(ps.filter λq=>decide (q.1 ≠ p.1)).length < ps.length:=by
 refine List.length_filter_lt_length_iff_exists.mpr ⟨p,h,by simp⟩
def grp2 (f:List Int->Rat):∀ (n:Nat) (ps qs:List Part),ps.length + qs.length <= n->(∀ k,(tot ps k - tot qs k) * f k=0)->sf f ps=sf f qs
 | 0,ps,qs,hl,_=>by
  rw [List.length_eq_zero_iff.mp (show ps.length=0 by omega),List.length_eq_zero_iff.mp (show qs.length=0 by omega)]
 | n + 1,ps,qs,hl,h=>by
  by_cases z:ps=[] /\ qs=[]
  ·rw [z.1,z.2]
  ·have:∃ p,p ∈ ps \/ p ∈ qs:=by
    cases ps with
    | nil =>
     cases qs with
     | nil=>exact absurd ⟨rfl,rfl⟩ z
     | cons q qs=>exact ⟨q,.inr zao⟩
    | cons p ps=>exact ⟨p,.inl zao⟩
   obtain ⟨p,hp⟩:=this
   have l1:(ps.filter λq=>decide (q.1 ≠ p.1)).length <= ps.length:=List.length_filter_le ..
   have l2:(qs.filter λq=>decide (q.1 ≠ p.1)).length <= qs.length:=List.length_filter_le ..
   have l3:(ps.filter λq=>decide (q.1 ≠ p.1)).length + (qs.filter λq=>decide (q.1 ≠ p.1)).length <= n:=by
    rcases hp with hp | hp
    ·have:=Z6 hp; omega
    ·have:=Z6 hp; omega
   have ih:=grp2 f n _ _ l3 λk=>by
    rw [ur,ur]
    by_cases y:k=p.1
    ·rw [if_pos y,if_pos y]; grind
    ·rw [if_neg y,if_neg y]; exact h k
   rw [ga f p.1 ps,ga f p.1 qs,ih]
   have:=h p.1
   grind
def Uu (f g:List Int->Rat):∀ ps:List Part,sf (λk=>f k - g k) ps=sf f ps - sf g ps
 | []=>by show (0:Rat)=0 - 0; grind
 | p :: ps=>by
  show rq p.2 * (f p.1 - g p.1) + sf (λk=>f k - g k) ps=rq p.2 * f p.1 + sf f ps - (rq p.2 * g p.1 + sf g ps)
  rw [Uu f g ps]; grind
def Uv (k:List Int):∀ ps:List Part,sf (λl=>if l=k then 1 else 0) ps=tot ps k
 | []=>rfl
 | p :: ps=>by
  show rq p.2 * (if p.1=k then 1 else 0) + sf (λl=>if l=k then 1 else 0) ps=(if p.1=k then rq p.2 else 0) + tot ps k
  rw [Uv k ps]
  split <;> grind
def ofK (k:List Int) (i:Nat):Nat:=(k.getD i 0).toNat
def Qf:∀ k:List Int,Bv (ofK k) k=1
 | []=>rfl
 | a :: k=>by
  show ((cb (ofK (a :: k) 0) a.toNat:Nat):Int) * Bv (λi=>ofK (a :: k) (i + 1)) k=1
  rw [show (λi=>ofK (a :: k) (i + 1))=ofK k from rfl,Qf k,show ofK (a :: k) 0=a.toNat from rfl,Q0]
  rfl
def Qg:∀ (k l:List Int),k.length=l.length->(∀ c ∈ k,0 <= c)->(∀ c ∈ l,0 <= c)->Bv (ofK k) l ≠ 0->l.sum <= k.sum /\ (l.sum=k.sum->l=k)
 | [],[],_,_,_,_=>⟨Int.le_refl _,λ_=>rfl⟩
 | a :: k,b :: l,hl,hk,hl2,h=>by
  have e:Bv (ofK (a :: k)) (b :: l)=((cb a.toNat b.toNat:Nat):Int) * Bv (ofK k) l:=rfl
  rw [e] at h
  have h1:cb a.toNat b.toNat ≠ 0:=λz=>h (by rw [z]; simp)
  have h2:Bv (ofK k) l ≠ 0:=λz=>h (by rw [z]; simp)
  have ba:¬ a.toNat < b.toNat:=λz=>h1 (N2 z)
  have a0:=hk a (by simp)
  have b0:=hl2 b (by simp)
  obtain ⟨i1,i2⟩:=Qg k l (by simpa using hl) (λc hc=>hk c (by simp [hc])) (λc hc=>hl2 c (by simp [hc])) h2
  rw [List.sum_cons,List.sum_cons]
  refine ⟨by omega,λz=>?_⟩
  have ab:b=a:=by omega
  rw [ab,i2 (by omega)]
def Shp (many:Nat) (ps:List Part):Prop:=∀ p ∈ ps,p.1.length=many /\ ∀ c ∈ p.1,0 <= c
def M1 {many:Nat} {ps qs:List Part} (hp:Shp many ps) (hq:Shp many qs) (h:∀ x,ev ps x=ev qs x):∀ (n:Nat) (k:List Int),k.length=many->(∀ c ∈ k,0 <= c)->k.sum.toNat < n->tot ps k=tot qs k
 | 0,k,_,_,hn=>by omega
 | n + 1,k,hl,hk,hn=>by
  have ih:=M1 hp hq h n
  have g:=grp2 (λl=>((Bv (ofK k) l:Int):Rat) - if l=k then 1 else 0) _ ps qs (zaj _) λl=>by
   by_cases e:l=k
   ·subst e
    rw [Qf,if_pos rfl]
    grind
   ·rw [if_neg e]
    by_cases z:(∀ p ∈ ps,p.1 ≠ l) /\ ∀ q ∈ qs,q.1 ≠ l
    ·rw [xk z.1,xk z.2]; grind
    ·have:l.length=many /\ ∀ c ∈ l,0 <= c:=by
      apply Classical.byContradiction
      intro y
      exact z ⟨λp h1 h2=>y (h2 ▸ hp p h1),λp h1 h2=>y (h2 ▸ hq p h1)⟩
     by_cases b:Bv (ofK k) l=0
     ·rw [b]
      show _ * (((0:Int):Rat) - 0)=0
      rw [Rat.intCast_zero]
      grind
     ·obtain ⟨s1,s2⟩:=Qg k l (by rw [hl,this.1]) hk this.2 b
      have s3:l.sum ≠ k.sum:=λy=>e (s2 y)
      have:∀ k:List Int,(∀ c ∈ k,0 <= c)->0 <= k.sum:=by
       intro k
       induction k with
       | nil=>intro _; exact Int.le_refl _
       | cons a k ih=>intro h; rw [List.sum_cons]; have h1:=ih λc hc=>h c (by simp [hc]); have h2:=h a (by simp); omega
      rename_i tt
      have:=this l tt.2
      rw [ih l tt.1 tt.2 (by omega)]
      grind
  rw [Uu,Uu,Uv,Uv] at g
  have:=h (ofK k)
  unfold ev at this
  grind
def J4 {many:Nat} {ps qs:List Part} (hp:Shp many ps) (hq:Shp many qs) (h:∀ x,ev ps x=ev qs x) (k:List Int):tot ps k=tot qs k:=by
 by_cases z:(∀ p ∈ ps,p.1 ≠ k) /\ ∀ q ∈ qs,q.1 ≠ k
 ·rw [xk z.1,xk z.2]
 ·have:k.length=many /\ ∀ c ∈ k,0 <= c:=by
   apply Classical.byContradiction
   intro y
   exact z ⟨λp h1 h2=>y (h2 ▸ hp p h1),λp h1 h2=>y (h2 ▸ hq p h1)⟩
  exact M1 hp hq h _ k this.1 this.2 (Nat.lt_succ_self _)
section
variable {P:Program} {w:World} {K:W.Frag} {mg:Str->Option Value} {base:Heap} {f:Addr} {fd:FuncData}
structure LIn (ps:List Part) (lns:List (List Nat)) (many A B:Nat):Prop where
 m3:many <= 5
 l3:lns.length <= 16
 hl:∀ ln ∈ lns,LOk many ln
 pl:ps.length <= 11
 key:∀ p ∈ ps,KOk lns.length 3 lns.length p.1
 bd:∀ p ∈ ps,Bd A B p
 B1:1 <= B
 s1:A + 511 + (B + 1) * ps.length <= 2900
 s2:B * ps.length + 1 <= 2900
 B2:B <= 2900
structure LOut (ps:List Part) (lns:List (List Nat)) (many A B:Nat) (qs:List Part) (L:List (List Int)):Prop where
 cn:Cn qs L
 key:∀ q ∈ qs,KOk many 3 many q.1
 ev:∀ x,ev qs x=ev ps (Yv lns many x)
 nn:(∀ p ∈ ps,0 < p.2.1)->∀ q ∈ qs,0 <= rq q.2
 bd:∀ q ∈ cp qs L,Bd (A + 511 + (B + 1) * ps.length) (B * ps.length + 1) q
def L4:FT:=λds φ=>∃ (ps:List Part) (lz:D) (lns:List (List Nat)) (many A B:Nat),ds=[.tup (ps.map zn),lz,.int many] /\ SeqL lz lns /\ LIn ps lns many A B /\ ∀ qs L,LOut ps lns many A B qs L->φ (dv (.tup ((cp qs L).map zn)))
def Wf (l:List Int):maxI 0 l=0 \/ maxI 0 l ∈ l:=by
 cases l with
 | nil=>exact .inl rfl
 | cons a l =>
  rcases (L2.fold_max l a).1 with e | e
  ·exact .inr (by show l.foldl max a ∈ _; rw [e]; simp)
  ·exact .inr (zal _ e)
def S9 (l:List Int):∀ m ∈ l,m <= maxI 0 l:=by
 cases l with
 | nil=>exact λm hm=>absurd hm (by simp)
 | cons a l =>
  intro m hm
  rcases zam.mp hm with rfl | hm
  ·exact (L2.fold_max l m).2.1
  ·exact (L2.fold_max l a).2.2 m hm
def Lg {te:TD} {ρ:DE} {Z:DZ} (h:te ρ λr=>Z.rt r.ret):sRet te ρ Z:=h
def Ox {te:TD} {ρ:DE} {φ:EV->Prop} (ns:List Int) (h:∀ ψ:EV->Prop,ψ (df (.lst (ns.map D.int)))->te ρ ψ) (hφ:φ (dv (.int (maxI 0 ns)))):Jj te (dC (.int 0)) ρ φ:=h _ (by
 show match vc (ns.map D.int) with | some ns=>φ (dv (.int (maxI 0 ns))) | none=>False
 rw [wd]
 exact hφ)
def hiF:D->Option D
 | .tup [.tup l,_]=>(vc l).map λns=>.int (maxI 0 ns)
 | _=>none
def Nz (p:Part):hiF (zn p)=some (.int (maxI 0 p.1)):=by
 show (vc (p.1.map D.int)).map _=_
 rw [wd]
 rfl
def Kw (ps:List Part):(ps.map zn).filterMap hiF=(ps.map λp=>maxI 0 p.1).map D.int:=by
 rw [List.filterMap_map,List.map_map,<- List.filterMap_eq_map]
 congr 1
 funext p
 exact Nz p
def fP (p:Part) (q:List Int × Int):Part:=(q.1,lo (rq p.2 * (q.2:Rat)))
def Ef (p:Part) (x:Nat->Nat):∀ r:RW,ev (r.map (fP p)) x=rq p.2 * ((evR x r:Int):Rat)
 | []=>by show (0:Rat)=rq p.2 * ((0:Int):Rat); rw [Rat.intCast_zero]; grind
 | q :: r=>by
  have ih:=Ef p x r
  unfold ev at ih ⊢
  show rq (lo (rq p.2 * (q.2:Rat))) * ((Bv x q.1:Int):Rat) + sf _ (r.map (fP p))=rq p.2 * ((q.2 * Bv x q.1 + evR x r:Int):Rat)
  rw [ih,T3,Rat.intCast_add,Rat.intCast_mul]
  grind
def M3 (a b:List Part) (x:Nat->Nat):ev (a ++ b) x=ev a x + ev b x:=Nh _ a b
def J5 {ps:List Part} {i:Nat} {p:Part} (h:ps[i]?=some p) (x:Nat->Nat):ev (ps.take (i + 1)) x=ev (ps.take i) x + rq p.2 * ((Bv x p.1:Int):Rat):=by
 rw [List.take_add_one,h,M3]
 show _=_
 congr 1
 show rq p.2 * _ + 0=_
 grind
def cw (p:Part) (k:List Int):∀ r:RW,(r.map Prod.fst).Nodup->cnt (r.map (fP p)) k <= 1
 | [],_=>by simp [cnt]
 | q :: r,h=>by
  rw [List.map_cons,List.nodup_cons] at h
  have ih:=cw p k r h.2
  unfold cnt at ih ⊢
  rw [List.map_cons]
  by_cases e:q.1=k
  ·rw [List.filter_cons_of_pos (p:=λp:Part=>decide (p.1=k)) (show decide ((fP p q).1=k)=true from decide_eq_true e)]
   have:(r.map (fP p)).filter (λp=>decide (p.1=k))=[]:=by
    rw [List.filter_eq_nil_iff]
    intro a ha
    obtain ⟨b,hb,rfl⟩:=zah.mp ha
    intro z
    have z:b.1=k:=of_decide_eq_true z
    exact h.1 (by rw [e,<- z]; exact zah.mpr ⟨b,hb,rfl⟩)
   rw [this]
   simp
  ·rw [List.filter_cons_of_neg (p:=λp:Part=>decide (p.1=k)) (show ¬ decide ((fP p q).1=k)=true from λz=>e (of_decide_eq_true z))]
   exact ih
def Dr {A B:Nat} {p:Part} {q:List Int × Int} (h:Bd A B p) (h0:0 <= q.2) (h1:q.2 <= 2 ^ 510):Bd (A + 511) B (fP p q):=by
 have e:lo (rq p.2 * (q.2:Rat))=rt (p.2.1 * q.2) (p.2.2 * 1):=by rw [<- Ni q.2]; exact (Xq h.b0 (by decide)).symm
 have hb:p.2.2 * 1 ≠ 0:=by have:=h.b0; omega
 have o:=P2 (t:=p.2.1 * q.2) hb
 refine ⟨?_,?_,?_⟩
 ·show 0 < (lo (rq p.2 * (q.2:Rat))).2
  exact u9 _
 ·show intBits (lo (rq p.2 * (q.2:Rat))).1 <= _
  rw [e]
  exact wy o.lp (PySem.intBits_mul_le h.t (wx (m:=511) h0 (by omega)))
 ·show intBits (lo (rq p.2 * (q.2:Rat))).2 <= _
  rw [e]
  exact wy o.lq (by rw [Int.mul_one]; exact h.b)
structure QI (ps:List Part) (lns:List (List Nat)) (many A B i:Nat) (us:List Part):Prop where
 ln:us.length <= 56 * i
 key:∀ u ∈ us,KOk many 3 many u.1
 bd:∀ u ∈ us,Bd (A + 511) B u
 cn:∀ k,cnt us k <= i
 ev:∀ x,ev us x=ev (ps.take i) (Yv lns many x)
 nn:(∀ p ∈ ps,0 < p.2.1)->∀ u ∈ us,0 <= rq u.2
def QI.step {ps:List Part} {lns:List (List Nat)} {many A B i:Nat} {us:List Part} {p:Part} {r:RW} (Q:QI ps lns many A B i us) (I:LIn ps lns many A B) (ep:ps[i]?=some p) (okr:ROk many 3 many r) (evr:∀ x,evR x r=Bv (Yv lns many x) p.1) (br:∀ c ∈ r,c.2 <= 2 ^ 510):QI ps lns many A B (i + 1) (us ++ r.map (fP p)):=by
 have hp:=zan ep
 refine ⟨?_,λu hu=>?_,λu hu=>?_,λk=>?_,λx=>?_,λhps u hu=>?_⟩
 ·have h1:=Q.ln
  have h2:=okr.len I.m3 (by omega)
  rw [zLa,zLm]
  omega
 ·rcases zas.mp hu with hu | hu
  ·exact Q.key u hu
  ·obtain ⟨q,hq,rfl⟩:=zah.mp hu
   exact (okr.2 q hq).1
 ·rcases zas.mp hu with hu | hu
  ·exact Q.bd u hu
  ·obtain ⟨q,hq,rfl⟩:=zah.mp hu
   exact Dr (I.bd p hp) (okr.2 q hq).2 (br q hq)
 ·rw [Jm]
  have h1:=Q.cn k
  have h2:=cw p k r okr.1
  omega
 ·rw [M3,Q.ev x,Ef,evr x,J5 ep]
 ·rcases zas.mp hu with hu | hu
  ·exact Q.nn hps u hu
  ·obtain ⟨q,hq,rfl⟩:=zah.mp hu
   show 0 <= rq (lo (rq p.2 * (q.2:Rat)))
   rw [T3]
   have p1:=hps p hp
   have p2:=(I.bd p hp).b0
   exact Rat.mul_nonneg (Rat.divInt_nonneg (by omega) (by omega)) (Rat.intCast_nonneg.mpr (okr.2 q hq).2)
def QI.ok {ps:List Part} {lns:List (List Nat)} {many A B:Nat} {us:List Part} (Q:QI ps lns many A B ps.length us) (I:LIn ps lns many A B):Ok us many (A + 511) B ps.length where
 len:=by have:=Q.ln; have:=I.pl; omega
 kn:=λes nd he=>zak (qp (d:=3) I.m3 (by decide) nd λk hk=>by
  obtain ⟨p,hp,rfl⟩:=he k hk
  exact Q.key p hp) (by decide)
 bd:=Q.bd
 key:=λp hp=>(Q.key p hp).1
 cn:=Q.cn
 B1:=I.B1
 s1:=I.s1
 s2:=I.s2
 A2:=by have:=I.s1; omega
 B2:=I.B2
def QI.out {ps:List Part} {lns:List (List Nat)} {many A B:Nat} {us:List Part} {L:List (List Int)} (Q:QI ps lns many A B ps.length us) (I:LIn ps lns many A B) (c:Cn us L):LOut ps lns many A B us L where
 cn:=c
 key:=Q.key
 ev:=λx=>by rw [Q.ev x,List.take_length]
 nn:=Q.nn
 bd:=λq hq=>by
  unfold cp at hq
  obtain ⟨k,_,rfl⟩:=zah.mp hq
  obtain ⟨h1,h2⟩:=sx I.B1 Q.bd k us.length (zaj _)
  rw [List.take_length] at h1 h2
  have hc:=Q.cn k
  have m1:=Nat.mul_le_mul_left (B + 1) hc
  have m2:=Nat.mul_le_mul_left B hc
  exact ⟨u9 _,zak h1 (by omega),zak h2 (by omega)⟩
def J1 (T:Tops mg) (Co:FD P w K mg base 4 "spreads_of" ["lines", "many", "highest"] Xs) (Cp:FD P w K mg base 4 "product_at" ["powers", "spreads", "many"] Hg) (Bs:FD P w K mg base 3 "times" ["one", "other"] Na) (Ba:FD P w K mg base 4 "gathered" ["parts"] Hl) (F:Fun K "laid" "laid" (top 13) f fd) (m:mg "laid" = some (.ref f)):FD P w K mg base 5 "laid" ["one", "lines", "many"] L4:=by
 have S:zw ["one", "lines", "many", "highest", "spreads", "parts", "powers", "share", "met", "ways"] ["one", "lines", "many"] (za (top 13)):=⟨rfl,rfl,rfl,by decide +kernel,rfl,by decide +kernel,by decide +kernel⟩
 refine yz F S (F.binds λ_ _ _ _ _ _ us hl=>(by obtain ⟨_,_,_,rfl⟩:=bf hl; rfl)) m λqZ A outer s H E ds φ hr hl hT=>?_
 have hu:=hr.units
 refine ⟨_,(zf (zu 3 S.nd (Je T.max (xh (T:=["powers", "share"]) (F:=[]) (js:=[]) (xw (z0 0)) (show zt (za (top 13)) _ ["powers", "share"] [] from ⟨rfl,by decide +kernel,by decide +kernel,by decide +kernel,by decide +kernel,by decide +kernel⟩) .nil (by decide) (λcl C fp s H=>(yk (K0:=K) (n:=2) (by rfl) (by rfl) (zl (zj (i:=0) (show ((["powers", "share"]:List Str) ++ ([]:List Str)).Nodup by decide +kernel) rfl (by walk_at "o")) (zl (zj (i:=1) (show ((["powers", "share"]:List Str) ++ ([]:List Str)).Nodup by decide +kernel) rfl (by walk_at "o")) yj)))) (R8 (t4 wk (X2 wk jq) (yh (by decide)) (t4 wk jq (yh (by decide)) R9))) (yu 0 1) (λcl C fp s H=>xg) (λcl C fp s H=>(Oo T.max (z0 0) zc))) zc))
   (zf (zu 4 S.nd (zm Co (hr.mono (by decide)) (z9 (z0 1) (z9 (z0 2) (z9 (z0 3) zd)))))
   (zf (zu 5 S.nd (xc zd))
   (zf (yn (xw (z0 0)) (yk (K0:=K) (n:=2) (by rfl) (by rfl) (zl (zj (i:=6) S.nd rfl (by walk_at "o")) (zl (zj (i:=7) S.nd rfl (by walk_at "o")) yj))) (yu 6 7) (zk (yn (uh (zm Cp (hr.mono (by decide)) (z9 (z0 6) (z9 (z0 4) (z9 (z0 2) zd))))) (yk (K0:=K) (n:=2) (by rfl) (by rfl) (zl (zj (i:=8) S.nd rfl (by walk_at "o")) (zl (zj (i:=9) S.nd rfl (by walk_at "o")) yj))) (yu 8 9) (zk (u4 5 (x3 (z9 (z0 8) (z9 (zm Bs (hr.mono (by decide)) (z9 (z0 7) (z9 (x3 (z9 (z0 9) (z9 zc zd))) zd))) zd))))))))
   (zk (y0 (zm Ba (hr.mono (by decide)) (z9 (z0 5) zd)))))))),?_⟩
 obtain ⟨ps,lz,lns,many,A,B,rfl,sl,I,h⟩:=hT
 have m3:=I.m3
 obtain ⟨Hn,eH,H3,kH⟩:∃ Hn:Nat,maxI 0 (ps.map λp=>maxI 0 p.1)=(Hn:Int) /\ Hn <= 3 /\ ∀ p ∈ ps,∀ c ∈ p.1,c <= (Hn:Int):=by
  have h1:∀ p ∈ ps,0 <= maxI 0 p.1 /\ maxI 0 p.1 <= 3:=λp hp=>by
   have kp:=I.key p hp
   rcases Wf p.1 with e | e
   ·omega
   ·exact ⟨kp.2.1 _ e,Kp kp _ e⟩
  have h2:0 <= maxI 0 (ps.map λp=>maxI 0 p.1) /\ maxI 0 (ps.map λp=>maxI 0 p.1) <= 3:=by
   rcases Wf (ps.map λp=>maxI 0 p.1) with e | e
   ·omega
   ·obtain ⟨p,hp,e2⟩:=zah.mp e
    rw [<- e2]
    exact h1 p hp
  refine ⟨(maxI 0 (ps.map λp=>maxI 0 p.1)).toNat,by omega,by omega,λp hp c hc=>?_⟩
  have h3:=S9 p.1 c hc
  have h4:=S9 (ps.map λp=>maxI 0 p.1) (maxI 0 p.1) (zah.mpr ⟨p,hp,rfl⟩)
  omega
 refine wj (Ox (ps.map λp=>maxI 0 p.1) (λψ hψ=>?_) ⟨trivial,?_⟩)
 ·refine v6 (ps.map zn) (λψ hψ=>⟨trivial,hψ⟩) hiF (by rw [zLm]; have:=I.pl; omega) (λd hd=>?_) (by rw [Kw]; exact hψ)
  obtain ⟨p,hp,rfl⟩:=zah.mp hd
  refine ⟨λ_=>?_,λz=>(by cases z)⟩
  rw [Nz]
  show match vc (p.1.map D.int) with | some ns=>_ | none=>False
  rw [wd]
  exact ⟨trivial,rfl⟩
 ·rw [eH]
  refine wj (yw [dv lz,dv (.int many),dv (.int Hn)] (λψ hψ=>hψ) rfl ⟨lz,lns,many,Hn,rfl,sl,I.m3,H3,I.l3,I.hl,λsss lss hS=>⟨trivial,?_⟩⟩)
  refine wj ⟨rfl,rfl,trivial,?_⟩
  refine je (ρ':=[some (dv (.tup (ps.map zn))),some (dv lz),some (dv (.int many)),some (dv (.int Hn)),some (dv (.lst (sss.map spD'))),some (dO (.lst [])),none,none,none,none]) (by rfl) (wu ?_)
  refine ye (ps.map zn) (λψ hψ=>⟨trivial,hψ⟩) (λi ρ=>∃ (us:List Part) (a b c d:Option EV),ρ=[some (dv (.tup (ps.map zn))),some (dv lz),some (dv (.int many)),some (dv (.int Hn)),some (dv (.lst (sss.map spD'))),some (dO (.lst (us.map zn))),a,b,c,d] /\ QI ps lns many A B i us) ⟨[],none,none,none,none,rfl,⟨by simp,λu hu=>absurd hu (by simp),λu hu=>absurd hu (by simp),λk=>by simp [cnt],λx=>rfl,λ_ u hu=>absurd hu (by simp)⟩⟩ ?_ ?_
  ·rintro i d _ hd ⟨us,a,b,c,d,rfl,Q⟩
   rw [zai] at hd
   obtain ⟨p,ep,rfl⟩:=zar.mp hd
   have hp:=zan ep
   have ip:i < ps.length:=(zag.mp ep).1
   have bp:=I.bd p hp
   refine tw (a:=.tup (nsD p.1)) (b:=rD p.2) ?_
   refine (show sFor (iZt _) (gT2 8 9) _ [some (dv (.tup (ps.map zn))),some (dv lz),some (dv (.int many)),some (dv (.int Hn)),some (dv (.lst (sss.map spD'))),some (dO (.lst (us.map zn))),some (dv (ikD p.1)),some (dv (rD p.2)),c,d] _ from ?_)
   refine W5 (λds=>∃ r:RW,ds=r.map prD /\ ROk many 3 many r /\ (∀ x,evR x r=Bv (Yv lns many x) p.1) /\ ∀ c ∈ r,c.2 <= 2 ^ 510) (λψ hψ=>?_) ?_
   ·exact yw [dv (ikD p.1),dv (.lst (sss.map spD')),dv (.int many)] (λψ hψ=>hψ) rfl ⟨p.1,lns,sss,many,Hn,rfl,I.m3,H3,I.l3,lss,I.hl,hS,I.key p hp,kH p hp,λr ok ev br=>hψ _ ⟨r,rfl,ok,ev,br⟩⟩
   ·rintro _ ⟨r,rfl,okr,evr,br⟩
    have lr:=okr.len I.m3 (by omega)
    refine ⟨λj ρ=>∃ (c d:Option EV),ρ=[some (dv (.tup (ps.map zn))),some (dv lz),some (dv (.int many)),some (dv (.int Hn)),some (dv (.lst (sss.map spD'))),some (dO (.lst ((us ++ (r.take j).map (fP p)).map zn))),some (dv (ikD p.1)),some (dv (rD p.2)),c,d],⟨c,d,by rw [List.take_zero,List.map_nil,List.append_nil]⟩,?_,?_⟩
    ·rintro j d _ hd ⟨c,d,rfl⟩
     rw [zai] at hd
     obtain ⟨⟨k,n⟩,er,rfl⟩:=zar.mp hd
     have mr:=zan er
     have n0:=(okr.2 _ mr).2
     have nb:=br _ mr
     refine tw (a:=ikD k) (b:=.int n) ?_
     refine Y8 (ds:=(us ++ (r.take j).map (fP p)).map zn) rfl ?_
     have e:lo (rq p.2 * (n:Rat))=rt (p.2.1 * n) (p.2.2 * 1):=by rw [<- Ni n]; exact (Xq bp.b0 (by decide)).symm
     refine ⟨rfl,rfl,rfl,?_,by have:=bp.b0; omega,rfl,rfl,trivial,?_,some (dv (ikD k)),some (dv (.int n)),?_⟩
     ·have s1:=I.s1
      exact ⟨zak bp.t (by omega),zak bp.b (by have:=I.B2; omega),zak (wx (m:=511) n0 (by omega)) (by decide),by decide⟩
     ·rw [zLm,zLa,zLm,List.length_take]
      have:=Q.ln
      have:=I.pl
      omega
     ·have el:(us ++ (r.take (j + 1)).map (fP p)).map zn=(us ++ (r.take j).map (fP p)).map zn ++ [.tup [ikD k,.tup [.int (rt (p.2.1 * n) (p.2.2 * 1)).1,.int (rt (p.2.1 * n) (p.2.2 * 1)).2]]]:=by
       rw [List.take_add_one,er,zMa (l₁:=us),zMa (l₁:=us),zMa (l₁:=r.take j),zMa,List.append_assoc]
       congr 2
       show [D.tup [.tup (nsD k),rD (lo (rq p.2 * (n:Rat)))]]=_
       rw [e]
       rfl
      rw [el]
      rfl
    ·rintro _ ⟨c,d,rfl⟩
     rw [zLm,List.take_length]
     exact ⟨_,_,_,_,_,rfl,Q.step I ep okr evr br⟩
  ·rintro _ ⟨us,a,b,c,d,rfl,Q⟩
   rw [zLm] at Q
   dsimp only
   refine Lg (yw [dO (.lst (us.map zn))] (λψ hψ=>hψ) rfl ?_)
   exact ⟨us,many,A + 511,B,ps.length,.inl rfl,Q.ok I,λL c _=>⟨v4 _,h us L (Q.out I c)⟩⟩
def Xu:FT:=λds φ=>match ds with
 | [.scr _,.int k]=>0 <= k /\ ∀ c:Int,φ (dv (.int c))
 | _=>False
def N1 {ds:List D} {φ:EV->Prop} (h:Xu ds φ):∃ ns k,ds=[.scr ns,.int k] /\ 0 <= k /\ ∀ c:Int,φ (dv (.int c)):=by
 unfold Xu at h
 split at h
 ·exact ⟨_,_,rfl,h⟩
 ·exact h.elim
def L5:FT:=w2 λa b φ=>φ (dv (.int (Int.gcd a b)))
def GR (p:Int × Int):Prop:=0 < p.2 /\ Int.gcd p.1 p.2=1 /\ intBits p.1 <= 103 /\ intBits p.2 <= 31
def tRat:FT:=w1 λ_ φ=>∀ p:Int × Int,GR p->φ (dv (rD p))
def Y2:FT:=w2 λ_ m φ=>0 <= m /\ m <= 16 /\ ∀ ns:List Int,ns.length=m.toNat->(∀ n ∈ ns,0 <= n)->ns.sum <= 3->φ (dv (.tup (nsD ns)))
def tLow:FT:=w2 λt b φ=>0 < b /\ intBits b <= 8000 /\ φ (dv (rD (rt t b)))
def Hf:FT:=λds φ=>∃ n k:Nat,ds=[.int n,.int k] /\ k <= 3 /\ intBits n <= 200 /\ φ (dv (.int (cb n k)))
def atN {α:Type} {l:List α} {i:Nat} (h:i < l.length):atI l (i:Int)=l[i]?:=by
 rw [zaf h]
 exact L2.atI_nat (zaf h)
def Qr {ns:List Int} {j:Nat} {x:Int} (h:ns[j]?=some x):(ns.set j (x + 1)).sum=ns.sum + 1:=by
 induction ns generalizing j with
 | nil=>simp at h
 | cons n ns ih =>
  cases j with
  | zero =>
   obtain rfl:n=x:=by simpa using h
   simp only [List.set_cons_zero,List.sum_cons]
   omega
  | succ j =>
   simp only [List.set_cons_succ,List.sum_cons,ih (by simpa using h)]
   omega
def dn (n:Nat):(List.replicate n (0:Int)).sum=0:=by
 induction n with
 | zero=>rfl
 | succ n ih=>rw [List.replicate_succ,List.sum_cons,ih]; rfl
def pr (m:Int):Nat->Int
 | 0=>1
 | k + 1=>pr m k * (m - k)
def du {m:Nat} {k:Nat} (hk:k <= 3) (hm:intBits m <= 200):intBits ((m:Int) - k) <= 201:=by
 have h:intBits (k:Int) <= 200:=uo (by
  have:2 ^ 2 <= 2 ^ 200:=Nat.pow_le_pow_right (by decide) (by decide)
  omega)
 have:=PySem.intBits_sub_le hm h
 rw [Nat.max_self] at this
 exact this
def Yd {m:Nat} (hm:intBits m <= 200):∀ k:Nat,k <= 3->intBits (pr m k) <= 201 * k + 1
 | 0,_=>(by decide:intBits 1 <= 1)
 | k + 1,h=>zak (PySem.intBits_mul_le (Yd hm k (by omega)) (du (k:=k) (by omega) hm)) (by omega)
def Gn (n:Nat):pr n 0=cb n 0 /\ pr n 1=cb n 1 /\ pr n 2=2 * cb n 2 /\ pr n 3=6 * cb n 3:=by
 have h0:(cb n 0:Int)=1:=by rw [yr]; rfl
 have h1:=w6 n 0
 have h2:=w6 n 1
 have h3:=w6 n 2
 have e1:pr n 1=(n:Int):=by show 1 * ((n:Int) - 0)=n; omega
 have c1:(cb n 1:Int)=n:=Md n
 have e2:pr n 2=(n:Int) * ((n:Int) - 1):=by show pr n 1 * ((n:Int) - ((1:Nat):Int))=_; rw [e1]; rfl
 have e3:pr n 3=pr n 2 * ((n:Int) - 2):=rfl
 rw [c1] at h2
 refine ⟨by rw [h0]; rfl,by rw [e1,c1],?_,?_⟩
 ·rw [e2]
  have:((1:Nat):Int) + 1=2:=rfl
  rw [this] at h2
  exact h2.symm
 ·have g2:((2:Nat):Int) + 1=3:=rfl
  have g1:((1:Nat):Int) + 1=2:=rfl
  rw [g1] at h2
  rw [g2] at h3
  rw [e3,e2,<- show (2:Int) * cb n 2=(n:Int) * ((n:Int) - 1) from h2]
  have h4:(3:Int) * cb n 3=(cb n 2:Int) * ((n:Int) - 2):=h3
  rw [Int.mul_assoc,<- h4]
  omega
def Q1 {n k:Nat} (hn:intBits n <= 200) (hk:k <= 3):intBits (cb n k) <= 201 * k + 1:=by
 obtain ⟨p0,p1,p2,p3⟩:=Gn n
 have b:=Yd hn k hk
 refine wy (y:=pr n k) ?_ b
 have k4:k=0 \/ k=1 \/ k=2 \/ k=3:=by omega
 rcases k4 with rfl | rfl | rfl | rfl
 ·rw [p0]; omega
 ·rw [p1]; omega
 ·rw [p2]; omega
 ·rw [p3]; omega
def j7 (T:Tops mg) (F:Fun K "_law_cell_at" "_law_cell_at" (top 25) f fd) (m:mg "_law_cell_at" = some (.ref f)):FD P w K mg base 1 "_law_cell_at" ["_law_script", "_law_k"] Xu:=by
 have S:zw ["_law_script", "_law_k"] ["_law_script", "_law_k"] (za (top 25)):=⟨rfl,rfl,rfl,by decide +kernel,rfl,by decide +kernel,by decide +kernel⟩
 refine yz F S (F.binds λ_ _ _ _ _ _ us hl=>(by obtain ⟨_,_,rfl⟩:=vj hl; rfl)) m λqZ A outer s H E ds φ hr hl hT=>?_
 have hu:=hr.units
 refine ⟨_,(zf (vh (J7 (z0 1) (Rk T.len (z9 (z0 0) zd))) (zk (y0 (zx hu (z0 0) (z0 1)))) xp)
   (zk (y0 zc))),?_⟩
 obtain ⟨ns,k,rfl,hk,h⟩:=N1 hT
 walk_at "dl"
 refine ⟨λz=>?_,λ_=>h 0⟩
 obtain ⟨j,rfl⟩:∃ j:Nat,k=j:=⟨k.toNat,by omega⟩
 rw [atN (by omega),zaf (by omega)]
 exact h _
def Z8 (T:Tops mg) (F:Fun K "_law_whole" "_law_whole" (top 26) f fd) (m:mg "_law_whole" = some (.ref f)):FD P w K mg base 1 "_law_whole" ["_law_found"] ja:=by
 have S:zw ["_law_found"] ["_law_found"] (za (top 26)):=⟨rfl,rfl,rfl,by decide +kernel,rfl,by decide +kernel,by decide +kernel⟩
 refine yz F S (F.binds λ_ _ _ _ _ _ us hl=>(by obtain ⟨_,rfl⟩:=Sk hl; rfl)) m λqZ A outer s H E ds φ hr hl hT=>?_
 have hu:=hr.units
 refine ⟨_,(zk (y0 (M7 (xu T.isinstance (z9 (z0 0) (z9 (Xe T.int ku) zd))) (M5 (M6 (xu T.isinstance (z9 (z0 0) (z9 (Xe T.bool h8) zd)))))))),?_⟩
 obtain ⟨a,rfl,h⟩:=Mo hT
 walk_at "dl"
 exact h
def j6 (T:Tops mg) (F:Fun K "_law_divisor" "_law_divisor" (top 27) f fd) (m:mg "_law_divisor" = some (.ref f)):FD P w K mg base 1 "_law_divisor" ["_law_one", "_law_other"] L5:=by
 have S:zw ["_law_one", "_law_other"] ["_law_one", "_law_other"] (za (top 27)):=⟨rfl,rfl,rfl,by decide +kernel,rfl,by decide +kernel,by decide +kernel⟩
 refine yz F S (F.binds λ_ _ _ _ _ _ us hl=>(by obtain ⟨_,_,rfl⟩:=vj hl; rfl)) m λqZ A outer s H E ds φ hr hl hT=>?_
 have hu:=hr.units
 refine ⟨_,(zf (zu 0 S.nd (Rn T.abs (z9 (z0 0) zd)))
   (zf (zu 1 S.nd (Rn T.abs (z9 (z0 1) zd)))
   (zf (W0 (J8 (z0 1) zc) (zk (Hv (i:=0) (j:=1) (by intro _ h; exact Gj (i:=0) (j:=1) rfl S.nd rfl rfl (by decide) rfl rfl h rfl) (z9 (z0 1) (z9 (x8 (z0 0) (z0 1)) zd)))))
   (zk (y0 (z0 0)))))),?_⟩
 obtain ⟨a,b,rfl,h⟩:=U5 hT
 walk_at "dl"
 rw [Q9,Q9]
 refine ⟨λρ=>∃ x y:Int,ρ=[some (dv (.int x)),some (dv (.int y))] /\ 0 <= x /\ 0 <= y /\ Int.gcd x y=Int.gcd a b,λρ=>match ρ with
  | [_,some ⟨_,.int y⟩]=>y.natAbs
  | _=>0,⟨_,_,rfl,by omega,by omega,by simp [Int.gcd]⟩,?_⟩
 rintro ρ ⟨x,y,rfl,hx,hy,e⟩
 walk_at "dl"
 refine ⟨λhne=>⟨by omega,⟨_,_,rfl,hy,(xv x y (by omega)).1,?_⟩,Rb x y (by omega)⟩,λhz=>?_⟩
 ·rw [Wn]; exact e
 ·obtain rfl:y=0:=by omega
  rw [Int.gcd_zero_right] at e
  rw [<- e,show ((x.natAbs:Nat):Int)=x by omega] at h
  exact h
def fq (T:Tops mg) (F:Fun K "_law_powers" "_law_powers" (top 30) f fd) (m:mg "_law_powers" = some (.ref f)):FD P w K mg base 1 "_law_powers" ["_law_cell", "_law_many"] Y2:=by
 have S:zw ["_law_cell", "_law_many", "_law_powers_here", "_law_k", "_law_at"] ["_law_cell", "_law_many"] (za (top 30)):=⟨rfl,rfl,rfl,by decide +kernel,rfl,by decide +kernel,by decide +kernel⟩
 refine yz F S (F.binds λ_ _ _ _ _ _ us hl=>(by obtain ⟨_,_,rfl⟩:=vj hl; rfl)) m λqZ A outer s H E ds φ hr hl hT=>?_
 have hu:=hr.units
 refine ⟨_,(zf (zu 2 S.nd (yq (xc (z9 zc zd)) (z0 1)))
   (zf (yn (y7 T.range (z9 zc zd)) (zj (i:=3) S.nd rfl (by walk_at "o")) (yc 3) (zf (zu 4 S.nd (x8 (z0 0) (y8 (z0 1) zc)))
    (zf (zu 0 S.nd (vq (z0 0) (y8 (z0 1) zc)))
    (zk (vh (J7 (z0 4) (z0 1)) (zk (Y6 2 hu (z0 4) (y8 (zx hu (z0 2) (z0 4)) zc))) xp)))))
   (zk (y0 (xb T.tuple (z9 (z0 2) zd)))))),?_⟩
 obtain ⟨c,m,rfl,hm0,hm1,h⟩:=U5 hT
 obtain ⟨k,rfl⟩:∃ k:Nat,m=k:=⟨m.toNat,by omega⟩
 walk_at "dl"
 refine ⟨by omega,by omega,by rw [sizeLine_eq]; simp; omega,?_⟩
 refine ye (rngD 0 3) (λψ hψ=>?_) (λi ρ=>∃ (c:Int) (ns:List Int) (a3 a4:Option EV),ns.length=k /\ (∀ n ∈ ns,0 <= n) /\ ns.sum <= i /\ ρ=[some (dv (.int c)),some (dv (.int k)),some (dO (.lst (nsD ns))),a3,a4]) ⟨c,List.replicate k 0,none,none,by simp,λn hn=>by rw [(List.mem_replicate.mp hn).2]; exact Int.le_refl _,by rw [dn]; exact Int.le_refl _,?_⟩ ?_ ?_
 ·walk_at "dl"
  exact ⟨by decide,by decide,hψ⟩
 ·have e:(List.replicate ((k:Int)).toNat [D.int 0]).flatten=nsD (List.replicate k 0):=by
   unfold nsD
   rw [Int.toNat_natCast,List.map_replicate,List.flatten_replicate_singleton]
  rw [e]
 ·rintro i d ρ hd ⟨c,ns,a3,a4,hl,hn,hs,rfl⟩
  obtain ⟨hi,rfl⟩:=x9 hd
  have m1:=xv c ((k:Int) + 1) (by omega)
  walk_at "dl"
  have e1:(nsD ns).length=k:=by unfold nsD; rw [zLm,hl]
  refine ⟨by omega,fdOk (m:=64) (by omega) (uo (by omega)),λz=>?_,λz=>⟨_,ns,_,_,hl,hn,by omega,rfl⟩⟩
  obtain ⟨j,ej⟩:∃ j:Nat,c.fmod ((k:Int) + 1)=j:=⟨(c.fmod ((k:Int) + 1)).toNat,by omega⟩
  rw [ej] at z ⊢
  obtain ⟨x,ex⟩:∃ x,ns[j]?=some x:=⟨_,zaf (by omega)⟩
  have e2:atI (nsD ns) (j:Int)=some (.int x):=by
   rw [atN (by omega)]
   unfold nsD
   rw [zai,ex]
   rfl
  have e3:ixN (nsD ns).length (j:Int)=some j:=by
   unfold ixN
   rw [if_pos (by omega),if_pos (by omega)]
   rfl
  rw [e2,e3]
  refine ⟨_,ns.set j (x + 1),_,_,by rw [List.length_set,hl],λn hn'=>?_,by rw [Qr ex]; omega,by unfold nsD; rw [List.map_set]⟩
  rcases List.mem_or_eq_of_mem_set hn' with q | q
  ·exact hn n q
  ·have:=hn x (zan ex)
   omega
 ·rintro ρ ⟨c,ns,a3,a4,hl,hn,hs,rfl⟩
  walk_at "dl"
  exact ⟨wv ns,h ns (by rw [hl]; rfl) hn hs⟩
def ft (T:Tops mg) (Ce:FD P w K mg base 1 "_law_divisor" ["_law_one", "_law_other"] L5) (F:Fun K "_law_lowest" "_law_lowest" (top 28) f fd) (m:mg "_law_lowest" = some (.ref f)):FD P w K mg base 2 "_law_lowest" ["_law_top", "_law_bottom"] tLow:=by
 have S:zw ["_law_top", "_law_bottom", "_law_by"] ["_law_top", "_law_bottom"] (za (top 28)):=⟨rfl,rfl,rfl,by decide +kernel,rfl,by decide +kernel,by decide +kernel⟩
 refine yz F S (F.binds λ_ _ _ _ _ _ us hl=>(by obtain ⟨_,_,rfl⟩:=vj hl; rfl)) m λqZ A outer s H E ds φ hr hl hT=>?_
 have hu:=hr.units
 refine ⟨_,(zf (zu 2 S.nd (zm Ce (hr.mono (by decide)) (z9 (z0 0) (z9 (z0 1) zd))))
   (zk (y0 (x3 (z9 (vq (z0 0) (z0 2)) (z9 (vq (z0 1) (z0 2)) zd)))))),?_⟩
 obtain ⟨t,b,rfl,hb0,hb,h⟩:=U5 hT
 walk_at "dl"
 simp only [L5,w2]
 have eg:(Int.gcd t b:Int)=DL.sg t b:=by
  unfold DL.sg
  rw [if_neg (by omega)]
 have hs:intBits (DL.sg t b) <= 8000:=wy (y:=b) (by
  have h1:(DL.sg t b).natAbs ∣ b.natAbs:=by
   unfold DL.sg
   rw [if_neg (by omega),Int.natAbs_natCast]
   exact Int.gcd_dvd_natAbs_right t b
  exact Nat.le_of_dvd (by omega) h1) hb
 walk_at "dl"
 rw [eg]
 exact ⟨fdOk (m:=8000) (Lc (by omega)) hs,fdOk (m:=8000) (Lc (by omega)) hs,h⟩
def Za (T:Tops mg) (C5:FD P w K mg base 2 "_law_lowest" ["_law_top", "_law_bottom"] tLow) (F:Fun K "_law_ratio" "_law_ratio" (top 29) f fd) (m:mg "_law_ratio" = some (.ref f)):FD P w K mg base 3 "_law_ratio" ["_law_cell"] tRat:=by
 have S:zw ["_law_cell", "_law_rest", "_law_top", "_law_bottom"] ["_law_cell"] (za (top 29)):=⟨rfl,rfl,rfl,by decide +kernel,rfl,by decide +kernel,by decide +kernel⟩
 refine yz F S (F.binds λ_ _ _ _ _ _ us hl=>(by obtain ⟨_,rfl⟩:=Sk hl; rfl)) m λqZ A outer s H E ds φ hr hl hT=>?_
 have hu:=hr.units
 refine ⟨_,(zf (y3 (zu 1 S.nd (vq (z0 0) zc)))
   (zf (y3 (zu 2 S.nd (zx hu (xc (z9 (ui (x8 (z0 1) zc) zc) (z9 (ui (x8 (z0 1) zc) zc) (z9 (ui (x8 (z0 1) (y8 (yq zc (Ri zc zc)) zc)) (Ri zc zc)) zd)))) (x8 (z0 0) zc))))
   (zf (y3 (zu 3 S.nd (zx hu (xc (z9 zc (z9 (y8 zc (x8 (vq (z0 1) zc) zc)) (z9 (y8 zc (x8 (yq (z0 1) zc) zc)) zd)))) (x8 (z0 0) zc))))
   (zk (y0 (zm C5 (hr.mono (by decide)) (z9 (z0 2) (z9 (z0 3) zd)))))))),?_⟩
 obtain ⟨c,rfl,h⟩:=Mo hT
 refine zy (λρ=>∃ r:Int,ρ=[some (dv (.int c)),some (dv (.int r)),none,none]) ?_ ?_
 ·walk_at "dl"
  exact ⟨of_eq_true (wt (by decide) (by decide)),_,rfl⟩
 rintro _ ⟨r,rfl⟩
 have q:=xv c 3 (by decide)
 have q4:c.fmod 3=0 \/ c.fmod 3=1 \/ c.fmod 3=2:=by omega
 refine zy (λρ=>∃ t:Int,t.natAbs <= 10 ^ 30 /\ ρ=[some (dv (.int c)),some (dv (.int r)),some (dv (.int t)),none]) ?_ ?_
 ·walk_at "dl"
  have m1:=xv r 21 (by decide)
  have m2:=xv r 41 (by decide)
  have m3:=xv r (2 * 10 ^ 30 + 1) (by decide)
  refine ⟨IntMulOk.of_left (by decide),by decide,?_⟩
  rcases q4 with z | z | z <;> rw [z]
  ·exact ⟨_,by omega,rfl⟩
  ·exact ⟨_,by omega,rfl⟩
  ·exact ⟨_,by omega,rfl⟩
 rintro _ ⟨t,ht,rfl⟩
 refine zy (λρ=>∃ b:Int,0 < b /\ b <= 2147483647 /\ ρ=[some (dv (.int c)),some (dv (.int r)),some (dv (.int t)),some (dv (.int b))]) ?_ ?_
 ·walk_at "dl"
  have m2:=xv (r.fdiv 41) 12 (by decide)
  have m3:=xv (r * 48271) 2147483647 (by decide)
  refine ⟨of_eq_true (wt (by decide) (by decide)),IntMulOk.of_right (by decide),?_⟩
  rcases q4 with z | z | z <;> rw [z]
  ·exact ⟨1,by decide,by decide,rfl⟩
  ·exact ⟨_,by omega,by omega,rfl⟩
  ·exact ⟨_,by omega,by omega,rfl⟩
 rintro _ ⟨b,hb0,hb1,rfl⟩
 have hb:intBits b <= 31:=uo (by omega)
 have ht':intBits t <= 103:=uo (by omega)
 have r:=P2 (t:=t) (b:=b) (by omega)
 walk_at "dl"
 simp only [tLow,w2]
 exact ⟨hb0,zak hb (by decide),by simp [rD,cu,x5],h (rt t b) ⟨r.pos,r.one,wy r.lp ht',wy r.lq hb⟩⟩
def X5 (T:Tops mg) (F:Fun K "_law_ways" "_law_ways" (top 32) f fd) (m:mg "_law_ways" = some (.ref f)):FD P w K mg base 1 "_law_ways" ["_law_many", "_law_some"] Hf:=by
 have S:zw ["_law_many", "_law_some", "_law_top", "_law_k"] ["_law_many", "_law_some"] (za (top 32)):=⟨rfl,rfl,rfl,by decide +kernel,rfl,by decide +kernel,by decide +kernel⟩
 refine yz F S (F.binds λ_ _ _ _ _ _ us hl=>(by obtain ⟨_,_,rfl⟩:=vj hl; rfl)) m λqZ A outer s H E ds φ hr hl hT=>?_
 have hu:=hr.units
 refine ⟨_,(zf (zu 2 S.nd zc)
   (zf (yn (y7 T.range (z9 (z0 1) zd)) (zj (i:=3) S.nd rfl (by walk_at "o")) (yc 3) (zk (zu 2 S.nd (yq (z0 2) (ui (z0 0) (z0 3))))))
   (zk (y0 (vq (z0 2) (zx hu (xc (z9 zc (z9 zc (z9 zc (z9 zc zd))))) (z0 1))))))),?_⟩
 obtain ⟨m,k,rfl,hk,hm,h⟩:=hT
 obtain ⟨p0,p1,p2,p3⟩:=Gn m
 walk_at "dl"
 refine ye (rngD 0 k) (λψ hψ=>?_) (λi ρ=>∃ a3,ρ=[some (dv (.int m)),some (dv (.int k)),some (dv (.int (pr m i))),a3]) ⟨none,rfl⟩ ?_ ?_
 ·walk_at "dl"
  exact ⟨by omega,by omega,hψ⟩
 ·rintro i d ρ hd ⟨a3,rfl⟩
  obtain ⟨hi,rfl⟩:=x9 hd
  have b1:=Yd hm i (by omega)
  have b2:=du (k:=i) (by omega) hm
  walk_at "dl"
  exact ⟨v8 (zak b1 (by omega)) (zak b2 (by decide)),_,rfl⟩
 ·rintro ρ ⟨a3,rfl⟩
  rw [xf]
  walk_at "dl"
  have k4:k=0 \/ k=1 \/ k=2 \/ k=3:=by omega
  rcases k4 with rfl | rfl | rfl | rfl
  ·rw [show atI [D.int 1,D.int 1,D.int 2,D.int 6] ((0:Nat):Int)=some (.int 1) from rfl]
   refine ⟨of_eq_true (wt (by decide) (by decide)),?_⟩
   rw [Int.fdiv_one,p0]
   exact h
  ·rw [show atI [D.int 1,D.int 1,D.int 2,D.int 6] ((1:Nat):Int)=some (.int 1) from rfl]
   refine ⟨of_eq_true (wt (by decide) (by decide)),?_⟩
   rw [Int.fdiv_one,p1]
   exact h
  ·rw [show atI [D.int 1,D.int 1,D.int 2,D.int 6] ((2:Nat):Int)=some (.int 2) from rfl]
   refine ⟨of_eq_true (wt (by decide) (by decide)),?_⟩
   rw [p2,Int.mul_fdiv_cancel_left _ (by decide)]
   exact h
  ·rw [show atI [D.int 1,D.int 1,D.int 2,D.int 6] ((3:Nat):Int)=some (.int 6) from rfl]
   refine ⟨of_eq_true (wt (by decide) (by decide)),?_⟩
   rw [p3,Int.mul_fdiv_cancel_left _ (by decide)]
   exact h
structure PO (many:Nat) (p:Part):Prop where
 ko:KOk many 3 many p.1
 gr:GR p.2
 nz:p.2.1 ≠ 0
def tSum:FT:=g2 λl m φ=>∃ (cells:List Int) (many:Nat),l=.lst (nsD cells) /\ m=.int many /\ cells.length <= 20 /\ many <= 3 /\ ∀ ps:List Part,ps.length <= 10->(∀ p ∈ ps,PO many p)->(ps.map Prod.fst).Pairwise Lt->φ (dv (.tup (ps.map zn)))
def Mj {zs ns:List Int} {i:Nat} {d:D} (h:(zipD (nsD zs) (nsD ns))[i]?=some d):∃ z n,d=.tup [.int z,.int n] /\ (zs.zip ns)[i]?=some (z,n):=by
 unfold zipD nsD at h
 rw [List.getElem?_zipWith,zai,zai] at h
 cases e1:zs[i]? with
 | none=>rw [e1] at h; cases h
 | some z =>
  cases e2:ns[i]? with
  | none=>rw [e1,e2] at h; cases h
  | some n =>
   rw [e1,e2] at h
   exact ⟨z,n,(Option.some.inj h).symm,List.getElem?_zip_eq_some.mpr ⟨e1,e2⟩⟩
def kI (p:Part):TK:=p.1.map Sum.inl
def dtP (ps:List Part):D:=.dt (ps.map kI) (ps.map λp=>rD p.2)
def Yk:∀ {ps:List Part} {p:Part},(ps.map kI).Nodup->p ∈ ps->yb (ps.map kI) (ps.map λp=>rD p.2) (kI p)=some (rD p.2)
 | [],_,_,h=>nomatch h
 | q :: ps,p,nd,h=>by
  rw [List.map_cons,List.map_cons,yb]
  obtain ⟨n1,n2⟩:=List.nodup_cons.mp nd
  rcases zam.mp h with rfl | h
  ·rw [if_pos rfl]
  ·rw [if_neg (show ¬ kI q=kI p from λz=>n1 (z ▸ zah.mpr ⟨p,h,rfl⟩))]
   exact Yk n2 h
def Mw (p:Part):tkD (kI p)=.tup (nsD p.1):=Y1 p.1
def Th (xs:List Int):(yo xs none none (some 2)).length <= (xs.length + 1) / 2:=by
 unfold yo
 refine zak (List.length_filterMap_le _ _) ?_
 show (sliceRange 0 (xs.length:Int) 2).length <= _
 unfold sliceRange
 rw [zLm,List.length_range,if_pos (by decide)]
 split <;> omega
def prF (ps:List Part):D->Option D
 | d=>match keyT d with
  | some k=>(yb (ps.map kI) (ps.map λp=>rD p.2) k).map λs=>.tup [d,s]
  | none=>none
def Nn {ps:List Part} {p:Part} (nd:(ps.map kI).Nodup) (h:p ∈ ps):prF ps (tkD (kI p))=some (.tup [tkD (kI p),rD p.2]):=by
 unfold prF
 dsimp only
 rw [gx]
 dsimp only
 rw [Yk nd h]
 rfl
def Te {ps:List Part} (nd:(ps.map kI).Nodup):∀ qs:List Part,(∀ p ∈ qs,p ∈ ps)->(qs.map λp=>tkD (kI p)).filterMap (prF ps)=qs.map zn
 | [],_=>rfl
 | q :: qs,h=>by
  rw [List.map_cons,List.filterMap_cons,Nn nd (h q zao),Te nd qs λp hp=>h p (zal _ hp),Mw]
  rfl
def Vo (T:Tops mg) (Ci:FD P w K mg base 1 "_law_powers" ["_law_cell", "_law_many"] Y2) (Cq:FD P w K mg base 3 "_law_ratio" ["_law_cell"] tRat) (F:Fun K "_law_sum" "_law_sum" (top 31) f fd) (m:mg "_law_sum" = some (.ref f)):FD P w K mg base 4 "_law_sum" ["_law_cells", "_law_many"] tSum:=by
 have S:zw ["_law_cells", "_law_many", "_law_parts", "_law_one", "_law_other", "_law_powers_here", "_law_share"] ["_law_cells", "_law_many"] (za (top 31)):=⟨rfl,rfl,rfl,by decide +kernel,rfl,by decide +kernel,by decide +kernel⟩
 refine yz F S (F.binds λ_ _ _ _ _ _ us hl=>(by obtain ⟨_,_,rfl⟩:=vj hl; rfl)) m λqZ A outer s H E ds φ hr hl hT=>?_
 have hu:=hr.units
 refine ⟨_,(zf (y3 (zu 2 S.nd uj))
   (zf (y3 (yn (Rf T.zip (z9 (Rg (z0 0) qx qx (vp zc)) (z9 (Rg (z0 0) (vp zc) qx (vp zc)) zd))) (yk (K0:=K) (n:=2) (by rfl) (by rfl) (zl (zj (i:=3) S.nd rfl (by walk_at "o")) (zl (zj (i:=4) S.nd rfl (by walk_at "o")) yj))) (yu 3 4) (zf (y3 (zu 5 S.nd (zm Ci (hr.mono (by decide)) (z9 (z0 3) (z9 (z0 1) zd)))))
    (zf (y3 (zu 6 S.nd (zm Cq (hr.mono (by decide)) (z9 (z0 4) zd))))
    (zk (vh (EW.et (Ed (Re hu (z0 5) (z0 2)) (J3 (Xb hu (zx hu (z0 6) zc) zc)))) (zk (rc 2 hu (z0 5) (z0 6))) xp))))))
   (zk (y0 (xb T.tuple (z9 (xh (T:=["_law_powers_here"]) (F:=["_law_parts"]) (js:=[2]) (xw (t7 T.sorted (z9 (z0 2) zd))) (show zt (za (top 31)) _ ["_law_powers_here"] ["_law_parts"] from ⟨rfl,by decide +kernel,by decide +kernel,by decide +kernel,by decide +kernel,by decide +kernel⟩) (.cons rfl .nil) (by decide) (λcl C fp s H=>(zj (i:=0) (show ((["_law_powers_here"]:List Str) ++ (["_law_parts"]:List Str)).Nodup by decide +kernel) rfl (by walk_at "o"))) (yh (by decide)) (yc 0) (λcl C fp s H=>xg) (λcl C fp s H=>(x3 (z9 (z0 0) (z9 (Zh hu (z0 1) (z0 0)) zd))))) zd)))))),?_⟩
 obtain ⟨l,m,rfl,cells,many,rfl,rfl,hcl,hm,h⟩:=Ds hT
 refine zy (λρ=>∃ ps:List Part,ps=[] /\ ρ=[some (dv (.lst (nsD cells))),some (dv (.int many)),some (dO (dtP ps)),none,none,none,none]) ?_ ?_
 ·walk_at "dl"
  exact ⟨[],rfl,rfl⟩
 rintro _ ⟨ps,e0,rfl⟩
 refine zy (λρ=>∃ (ps:List Part) (a3 a4 a5 a6:Option EV),ps.length <= 10 /\ (∀ p ∈ ps,PO many p) /\ (ps.map kI).Nodup /\ ρ=[some (dv (.lst (nsD cells))),some (dv (.int many)),some (dO (dtP ps)),a3,a4,a5,a6]) ?_ ?_
 ·obtain ⟨xs,ys,hx,hy,hlx⟩:∃ xs ys:List Int,yo (nsD cells) none none (some 2)=nsD xs /\ yo (nsD cells) (some 1) none (some 2)=nsD ys /\ xs.length <= 10:=by
   refine ⟨yo cells none none (some 2),yo cells (some 1) none (some 2),gj _ _ _ _ _,gj _ _ _ _ _,?_⟩
   have:=Th cells
   omega
  refine ye (zipD (nsD xs) (nsD ys)) (λψ hψ=>?_) (λi ρ=>∃ (ps:List Part) (a3 a4 a5 a6:Option EV),ps.length <= i /\ (∀ p ∈ ps,PO many p) /\ (ps.map kI).Nodup /\ ρ=[some (dv (.lst (nsD cells))),some (dv (.int many)),some (dO (dtP ps)),a3,a4,a5,a6]) ⟨ps,none,none,none,none,by rw [e0]; exact zaj _,by rw [e0]; exact λ_ z=>(nomatch z),by rw [e0]; exact List.nodup_nil,rfl⟩ ?_ ?_
  ·walk_at "dl"
   rw [hx,hy]
   exact ⟨by decide,by decide,hψ⟩
  ·rintro i d ρ hd ⟨ps,a3,a4,a5,a6,hl,hp,nd,rfl⟩
   obtain ⟨x,y,rfl,ez⟩:=Mj hd
   unfold gT2
   dsimp only
   refine (show sSeq _ _ _ _ from ?_)
   refine zy (λρ=>∃ ns:List Int,ns.length=many /\ (∀ n ∈ ns,0 <= n) /\ ns.sum <= 3 /\ ρ=[some (dv (.lst (nsD cells))),some (dv (.int many)),some (dO (dtP ps)),some (dv (.int x)),some (dv (.int y)),some (dv (.tup (nsD ns))),a6]) ?_ ?_
   ·walk_at "dl"
    simp only [Y2,w2]
    exact ⟨by omega,by omega,λns n1 n2 n3=>⟨trivial,ns,by rw [n1]; rfl,n2,n3,rfl⟩⟩
   rintro _ ⟨ns,n1,n2,n3,rfl⟩
   refine zy (λρ=>∃ s:Int × Int,GR s /\ ρ=[some (dv (.lst (nsD cells))),some (dv (.int many)),some (dO (dtP ps)),some (dv (.int x)),some (dv (.int y)),some (dv (.tup (nsD ns))),some (dv (rD s))]) ?_ ?_
   ·walk_at "dl"
    simp only [tRat,w1]
    exact λs hs=>⟨trivial,s,hs,rfl⟩
   rintro _ ⟨s,hs,rfl⟩
   unfold rD dtP
   walk_at "dl"
   simp only [qr,kz]
   refine ⟨λhnin=>⟨λhs0=>?_,λ_=>⟨ps,_,_,_,_,by omega,hp,nd,rfl⟩⟩,λ_=>⟨ps,_,_,_,_,by omega,hp,nd,rfl⟩⟩
   have hn:¬ (ns.map Sum.inl:TK) ∈ ps.map kI:=by simpa using hnin
   have e1:wc (ps.map kI) (ns.map Sum.inl)=(ps ++ [(ns,s)]).map kI:=by
    unfold wc
    rw [if_neg hn,zMa]
    rfl
   have e2:x4 (ps.map kI) (ps.map λp=>rD p.2) (ns.map Sum.inl) (.tup [.int s.1,.int s.2])=(ps ++ [(ns,s)]).map λp=>rD p.2:=by
    rw [ul (by rw [zLm,zLm]) hn,zMa]
    rfl
   rw [e1,e2]
   have hi30:i < 10:=by
    have:=(zag.mp ez).1
    rw [List.length_zip] at this
    omega
   refine ⟨by omega,ps ++ [(ns,s)],_,_,_,_,by rw [zLa,List.length_singleton]; omega,λp hp'=>?_,?_,rfl⟩
   ·rcases zas.mp hp' with hp' | hp'
    ·exact hp p hp'
    ·rw [List.mem_singleton.mp hp']
     exact ⟨⟨n1,n2,n3,λj a b=>absurd b (by omega)⟩,hs,by simpa using hs0⟩
   ·rw [zMa]
    exact List.nodup_append.mpr ⟨nd,by simp,λa ha b hb e=>by
     rw [List.map_singleton,List.mem_singleton] at hb
     subst hb
     exact hn (by rw [e] at ha; exact ha)⟩
  ·rintro ρ ⟨ps,a3,a4,a5,a6,hl,hp,nd,rfl⟩
   exact ⟨ps,a3,a4,a5,a6,zak hl (by unfold zipD nsD; simp; omega),hp,nd,rfl⟩
 rintro _ ⟨ps,a3,a4,a5,a6,hl,hp,nd,rfl⟩
 unfold dtP
 walk_at "dl"
 refine kg (λds=>∃ qs:List Part,qs.Perm ps /\ (qs.map Prod.fst).Pairwise Lt /\ ds=qs.map λp=>tkD (kI p)) (λψ hψ=>?_) λds hds=>?_
 ·walk_at "dl"
  refine ⟨by omega,⟨many,λk hk=>?_⟩,λks' pk pw=>?_⟩
  ·obtain ⟨p,mp,rfl⟩:=zah.mp hk
   exact ⟨p.1,rfl,(hp p mp).ko.1⟩
  ·obtain ⟨qs,pq,eq⟩:=qi pk.symm ps rfl
   refine hψ _ ⟨qs,pq,?_,by rw [<- eq,List.map_map]; rfl⟩
   rw [<- eq,List.pairwise_map] at pw
   rw [List.pairwise_map]
   refine pw.imp λ{a b} hab=>?_
   unfold ltK at hab
   rw [show zK (kI a)=a.1 from vg a.1,show zK (kI b)=b.1 from vg b.1] at hab
   exact hab
 ·obtain ⟨qs,pq,pw,rfl⟩:=hds
  refine ⟨prF ps,by rw [zLm,pq.length_eq]; omega,λd hd=>?_,?_⟩
  ·obtain ⟨p,mp,rfl⟩:=zah.mp hd
   have el:=Yk nd (pq.mem_iff.mp mp)
   simp only [ρ0,List.map_cons,List.map_nil,List.replicate,List.cons_append,List.nil_append]
   walk_at "dl"
   rw [el]
   exact Nn nd (pq.mem_iff.mp mp)
  ·have e:=Te nd qs λp mp=>pq.mem_iff.mp mp
   rw [e]
   walk_at "dl"
   exact ⟨v4 qs,h qs (by rw [pq.length_eq]; exact hl) (λp mp=>hp p (pq.mem_iff.mp mp)) pw⟩
end
abbrev KK:=List Int × List Int
def smR:Nat->(Nat->Rat)->Rat
 | 0,_=>0
 | n + 1,f=>smR n f + f n
def cf {f g:Nat->Rat}:∀ {n:Nat},(∀ i,i < n->f i=g i)->smR n f=smR n g
 | 0,_=>rfl
 | n + 1,h=>by rw [smR,smR,cf λi hi=>h i (by omega),h n (by omega)]
def Ur {f:Nat->Rat} (c:Rat):∀ n:Nat,smR n (λi=>f i * c)=smR n f * c
 | 0=>by show (0:Rat)=0 * c; grind
 | n + 1=>by rw [smR,smR,Ur c n]; grind
def Xz (f:Nat->Int):∀ n:Nat,smR n (λi=>((f i:Int):Rat))=((sm n f:Int):Rat)
 | 0=>by show (0:Rat)=((0:Int):Rat); rw [Rat.intCast_zero]
 | n + 1=>by rw [smR,sm,Xz f n,Rat.intCast_add]
def ca (c:Rat) (f:Nat->Rat) (h0:f 0=c) (h:∀ i,f (i + 1)=0):∀ n:Nat,smR (n + 1) f=c
 | 0=>by show (0:Rat) + f 0=c; rw [h0]; grind
 | n + 1=>by rw [smR,ca c f h0 h n,h]; grind
def sgR (g:KK->Rat):List PK->Rat
 | []=>0
 | r :: rs=>rq r.2 * g r.1 + sgR g rs
def Y4 (g:KK->Rat):∀ a b:List PK,sgR g (a ++ b)=sgR g a + sgR g b
 | [],b=>by show sgR g b=0 + sgR g b; grind
 | p :: a,b=>by
  show rq p.2 * g p.1 + sgR g (a ++ b)=rq p.2 * g p.1 + sgR g a + sgR g b
  rw [Y4 g a b]; grind
def ck {g g':KK->Rat}:∀ {rs:List PK},(∀ r ∈ rs,g r.1=g' r.1)->sgR g rs=sgR g' rs
 | [],_=>rfl
 | r :: rs,h=>by
  show rq r.2 * g r.1 + sgR g rs=rq r.2 * g' r.1 + sgR g' rs
  rw [h r zao,ck λr hr=>h r (zal _ hr)]
def G6 (t c b:Int):rq (t * c,b)=rq (t,b) * (c:Rat):=by
 unfold rq
 rw [Rat.divInt_eq_div,Rat.divInt_eq_div,Rat.intCast_mul]
 grind
def pA (j:Nat) (k:KK):Nat:=(k.1.getD j 0).toNat
def pK (spot:Int) (i:Nat) (k:KK):KK:=(k.1,if 0 <= spot then k.2.set spot.toNat (i:Int) else k.2)
def pC (spot:Int) (i:Nat):Prop:=0 <= spot \/ i=0
instance (spot:Int) (i:Nat):Decidable (pC spot i):=inferInstanceAs (Decidable (_ \/ _))
def mkR (j n:Nat) (spot:Int) (i:Nat) (r:PK):PK:=(pK spot i r.1,(r.2.1 * (cb n (pA j r.1 - i):Int),r.2.2))
def inG (j n:Nat) (spot:Int) (g:KK->Rat) (m:Nat) (k:KK):Rat:=smR m λi=>if pC spot i then ((cb n (pA j k - i):Int):Rat) * g (pK spot i k) else 0
structure N8 (many wide j n:Nat) (spot:Int) (rows:List PK):Prop where
 ln:rows.length <= 160
 nd:(rows.map Prod.fst).Nodup
 jm:j < many
 kl:∀ r ∈ rows,r.1.1.length=many
 kn:∀ r ∈ rows,∀ a ∈ r.1.1,0 <= a /\ a <= 3
 tl:∀ r ∈ rows,r.1.2.length=wide
 bt:∀ r ∈ rows,intBits r.2.1 <= 2000
 n50:n < 2 ^ 50
 sp:0 <= spot->spot < wide /\ ∀ r ∈ rows,r.1.2[spot.toNat]?=some 0
 w5:wide <= 5
structure Qa (j n:Nat) (spot:Int) (rows fs:List PK):Prop where
 nd:(fs.map Prod.fst).Nodup
 ln:fs.length <= 4 * rows.length
 fr:∀ f ∈ fs,∃ r ∈ rows,∃ i,i <= pA j r.1 /\ pC spot i /\ f=mkR j n spot i r
 sm:∀ g,sgR g fs=sgR (λk=>inG j n spot g (pA j k + 1) k) rows
structure PI (j n:Nat) (spot:Int) (rows:List PK) (u i:Nat) (c:(KK->Rat)->Rat) (fs:List PK):Prop where
 nd:(fs.map Prod.fst).Nodup
 ln:fs.length <= 4 * u + i
 fr:∀ f ∈ fs,∃ u' r i',rows[u']?=some r /\ i' <= pA j r.1 /\ pC spot i' /\ f=mkR j n spot i' r /\ (u' < u \/ u'=u /\ i' < i)
 sm:∀ g,sgR g fs=sgR (λk=>inG j n spot g (pA j k + 1) k) (rows.take u) + c g
section
variable {many wide j n u i:Nat} {spot:Int} {rows fs:List PK} {r:PK} {c:(KK->Rat)->Rat}
def PI.nil:PI j n spot rows 0 0 (λ_=>0) []:=⟨List.nodup_nil,Nat.zero_le _,λf hf=>(by cases hf),λg=>by show (0:Rat)=0 + 0; grind⟩
def PI.start (h:PI j n spot rows u 0 (λ_=>0) fs) (k:KK) (q:Rat):PI j n spot rows u 0 (λg=>q * inG j n spot g 0 k) fs:=⟨h.nd,h.ln,h.fr,λg=>by rw [h.sm]; show _ + (0:Rat)=_ + q * 0; grind⟩
def F0 {k k':KK} {i':Nat} (hl:k.2.length=k'.2.length) (h0:0 <= spot->spot < k.2.length /\ k.2[spot.toNat]?=some 0 /\ k'.2[spot.toNat]?=some 0) (e:pK spot i' k'=pK spot i k):k'=k /\ (0 <= spot->i'=i):=by
 unfold pK at e
 have e1:k'.1=k.1:=(Prod.mk.inj e).1
 have e2:=(Prod.mk.inj e).2
 by_cases hs:0 <= spot
 ·rw [if_pos hs,if_pos hs] at e2
  obtain ⟨h1,h2,h3⟩:=h0 hs
  have l1:spot.toNat < k.2.length:=by omega
  have e3:(i':Int)=i:=by
   have:=congrArg (λl=>l[spot.toNat]?) e2
   simp only [List.getElem?_set_self l1,List.getElem?_set_self (hl ▸ l1)] at this
   exact Option.some.inj this
  refine ⟨Prod.ext e1 ?_,λ_=>by exact_mod_cast e3⟩
  have b:∀ (l:List Int) (v:Int),l[spot.toNat]?=some 0->(l.set spot.toNat v).set spot.toNat 0=l:=λl v hl0=>by
   rw [List.set_set]
   apply List.ext_getElem?
   intro m
   rw [List.getElem?_set]
   split
   ·rename_i hm
    subst hm
    rw [hl0]
    obtain ⟨lt,_⟩:=zag.mp hl0
    rw [if_pos lt]
   ·rfl
  have:=congrArg (λl=>l.set spot.toNat 0) e2
  simp only [b _ _ h2,b _ _ h3] at this
  exact this
 ·rw [if_neg hs,if_neg hs] at e2
  exact ⟨Prod.ext e1 e2,λz=>absurd z hs⟩
def PI.new (h:PI j n spot rows u i c fs) (I:N8 many wide j n spot rows) (er:rows[u]?=some r) (hc:pC spot i):pK spot i r.1 ∉ fs.map Prod.fst:=λhm=>by
 obtain ⟨f,hf,ef⟩:=zah.mp hm
 obtain ⟨u',r',i',er',hi',hc',rfl,hlt⟩:=h.fr f hf
 have mr:=zan er
 have mr':=zan er'
 have ef:pK spot i' r'.1=pK spot i r.1:=ef
 obtain ⟨e1,e2⟩:=F0 (by rw [I.tl _ mr,I.tl _ mr']) (λhs=>by
  obtain ⟨s1,s2⟩:=I.sp hs
  exact ⟨by rw [I.tl _ mr]; exact s1,s2 _ mr,s2 _ mr'⟩) ef
 have eu:u'=u:=by
  refine (List.getElem?_inj (l:=rows.map Prod.fst) (by rw [zLm]; exact (zag.mp er').1) I.nd).mp ?_
  rw [zai,zai,er,er']
  exact congrArg some e1
 rcases hlt with z | ⟨_,z⟩
 ·omega
 ·rcases hc with y | y
  ·have:=e2 y; omega
  ·omega
def PI.step (h:PI j n spot rows u i (λg=>rq r.2 * inG j n spot g i r.1) fs) (I:N8 many wide j n spot rows) (er:rows[u]?=some r) (hi:i <= pA j r.1) (hc:pC spot i) :
  PI j n spot rows u (i + 1) (λg=>rq r.2 * inG j n spot g (i + 1) r.1) (fs ++ [mkR j n spot i r]) where
 nd:=by
  rw [zMa]
  refine List.nodup_append.mpr ⟨h.nd,by simp,λx hx y hy=>?_⟩
  simp only [List.map_cons,List.map_nil,zam,List.not_mem_nil,or_false] at hy
  rw [hy]
  exact λz=>h.new I er hc (by rw [show pK spot i r.1=x from z.symm]; exact hx)
 ln:=by rw [zLa]; have:=h.ln; simp only [zLc,zLn]; omega
 fr:=λf hf=>by
  rcases zas.mp hf with hf | hf
  ·obtain ⟨u',r',i',a1,a2,a3,a4,a5⟩:=h.fr f hf
   exact ⟨u',r',i',a1,a2,a3,a4,by omega⟩
  ·simp only [zam,List.not_mem_nil,or_false] at hf
   exact ⟨u,r,i,er,hi,hc,hf,by omega⟩
 sm:=λg=>by
  rw [Y4,h.sm]
  show _ + (rq (r.2.1 * (cb n (pA j r.1 - i):Int),r.2.2) * g (pK spot i r.1) + 0)=_ + rq r.2 * (inG j n spot g i r.1 + if pC spot i then _ else 0)
  rw [G6,if_pos hc]
  grind
def PI.skip (h:PI j n spot rows u i (λg=>rq r.2 * inG j n spot g i r.1) fs) (hc:¬ pC spot i):PI j n spot rows u (i + 1) (λg=>rq r.2 * inG j n spot g (i + 1) r.1) fs where
 nd:=h.nd
 ln:=by have:=h.ln; omega
 fr:=λf hf=>by
  obtain ⟨u',r',i',a1,a2,a3,a4,a5⟩:=h.fr f hf
  exact ⟨u',r',i',a1,a2,a3,a4,by omega⟩
 sm:=λg=>by
  rw [h.sm]
  show _=_ + rq r.2 * (inG j n spot g i r.1 + if pC spot i then _ else 0)
  rw [if_neg hc]
  grind
def PI.next (h:PI j n spot rows u (pA j r.1 + 1) (λg=>rq r.2 * inG j n spot g (pA j r.1 + 1) r.1) fs) (er:rows[u]?=some r) (h3:pA j r.1 <= 3):PI j n spot rows (u + 1) 0 (λ_=>0) fs where
 nd:=h.nd
 ln:=by have:=h.ln; omega
 fr:=λf hf=>by
  obtain ⟨u',r',i',a1,a2,a3,a4,a5⟩:=h.fr f hf
  exact ⟨u',r',i',a1,a2,a3,a4,by omega⟩
 sm:=λg=>by
  rw [h.sm,List.take_add_one,er,Y4]
  show _=_ + (rq r.2 * inG j n spot g (pA j r.1 + 1) r.1 + 0) + 0
  grind
def PI.out (h:PI j n spot rows rows.length 0 (λ_=>0) fs):Qa j n spot rows fs where
 nd:=h.nd
 ln:=by have:=h.ln; omega
 fr:=λf hf=>by
  obtain ⟨u',r',i',a1,a2,a3,a4,a5⟩:=h.fr f hf
  exact ⟨r',zan a1,i',a2,a3,a4⟩
 sm:=λg=>by rw [h.sm,List.take_length]; grind
end
def gV (Y x:Nat->Nat) (j:Nat) (k:KK):Rat:=((Bv x k.2:Int):Rat) * ((Bv (λi=>Y (i + j)) (k.1.drop j):Int):Rat)
def Kx {Y x:Nat->Nat} {j n:Nat} {spot:Int} {k:KK} (hj:j < k.1.length) (hp:0 <= spot->k.2[spot.toNat]?=some 0 /\ Y j=x spot.toNat + n) (hm:¬ 0 <= spot->Y j=n):inG j n spot (gV Y x (j + 1)) (pA j k + 1) k=gV Y x j k:=by
 have e1:Bv (λi=>Y (i + j)) (k.1.drop j)=(cb (Y j) (pA j k):Int) * Bv (λi=>Y (i + (j + 1))) (k.1.drop (j + 1)):=by
  rw [List.drop_eq_getElem_cons hj]
  show ((cb (Y (0 + j)) (k.1[j]).toNat:Nat):Int) * Bv (λi=>Y (i + 1 + j)) _=_
  rw [Nat.zero_add]
  unfold pA
  rw [show k.1.getD j 0=k.1[j] from by simp [List.getD,hj]]
  congr 2
  funext i
  congr 1
  omega
 unfold gV inG
 rw [e1]
 by_cases hs:0 <= spot
 ·obtain ⟨h0,hY⟩:=hp hs
  rw [cf (g:=λi=>(((cb (x spot.toNat) i:Int) * cb n (pA j k - i):Int):Rat) * (((Bv x k.2:Int):Rat) * ((Bv (λi=>Y (i + (j + 1))) (k.1.drop (j + 1)):Int):Rat))) λi _=>by
   rw [if_pos (show pC spot i from Or.inl hs)]
   unfold pK
   rw [if_pos hs]
   simp only
   rw [Qe _ _ _ _ h0,Rat.intCast_mul,Rat.intCast_mul]
   grind,Ur,Xz (λi=>(cb (x spot.toNat) i:Int) * cb n (pA j k - i)),<- km,hY,Rat.intCast_mul]
  grind
 ·rw [ca ((((cb n (pA j k):Int)):Rat) * (((Bv x k.2:Int):Rat) * ((Bv (λi=>Y (i + (j + 1))) (k.1.drop (j + 1)):Int):Rat))) _ (by
   rw [if_pos (show pC spot 0 from Or.inr rfl)]
   unfold pK
   rw [if_neg hs]
   simp only [Nat.sub_zero]) (λi=>by rw [if_neg (λz=>z.elim hs (by omega))]),hm hs,Rat.intCast_mul]
  grind
section
variable {P:Program} {w:World} {K:W.Frag} {mg:Str->Option Value} {base:Heap} {f:Addr} {fd:FuncData}
def tPut:FT:=λds φ=>∃ (rows:List PK) (j n many wide:Nat) (spot:Int),ds=[.dp rows,.int j,.int n,.int spot] /\ N8 many wide j n spot rows /\ ∀ fs,Qa j n spot rows fs->φ (df (.dp fs))
def Qw {i:Nat} {tk te:TD} {ρ:DE} {Z:DZ} (rs:List PK) (k:KK) (c:Int × Int) (e:slot ρ i=some (dO (.dp rs))) (ht:∀ ψ:EV->Prop,ψ (dv (.tup [.int c.1,.int c.2]))->te ρ ψ) (hk:∀ ψ:EV->Prop,ψ (dv (ik2 k))->tk ρ ψ) (hn:k ∉ rs.map Prod.fst) (hl:rs.length < 10000) (h:Z.nx (setS ρ i (dO (.dp (rs ++ [(k,c)]))))):Uy i tk te ρ Z:=by
 unfold Uy
 rw [e]
 exact ht _ (hk _ ⟨k,c,rfl,rfl,hn,hl,h⟩)
def Vp (T:Tops mg) (B4:FD P w K mg base 1 "_law_ways" ["_law_many", "_law_some"] Hf) (F:Fun K "_law_put" "_law_put" (top 33) f fd) (m:mg "_law_put" = some (.ref f)):FD P w K mg base 2 "_law_put" ["_law_parts", "_law_at", "_law_number", "_law_spot"] tPut:=by
 have S:zw ["_law_parts", "_law_at", "_law_number", "_law_spot", "_law_found", "_law_powers_here", "_law_share", "_law_i", "_law_ways_here", "_law_there"] ["_law_parts", "_law_at", "_law_number", "_law_spot"] (za (top 33)):=⟨rfl,rfl,rfl,by decide +kernel,rfl,by decide +kernel,by decide +kernel⟩
 refine yz F S (F.binds λ_ _ _ _ _ _ us hl=>(by obtain ⟨_,_,_,_,rfl⟩:=Dk hl; rfl)) m λqZ A outer s H E ds φ hr hl hT=>?_
 have hu:=hr.units
 refine ⟨_,(zf (zu 4 S.nd Zi)
   (zf (yn (Ze (z0 0)) (yk (K0:=K) (n:=2) (by rfl) (by rfl) (zl (zj (i:=5) S.nd rfl (by walk_at "o")) (zl (zj (i:=6) S.nd rfl (by walk_at "o")) yj))) (yu 5 6) (zk (yn (y7 T.range (z9 (y8 (zx hu (zx hu (z0 5) zc) (z0 1)) zc) zd)) (zj (i:=7) S.nd rfl (by walk_at "o")) (yc 7) (zk (vh (EW.et (Oj (Eg (z0 3) zc) (Wq (Ol hu (z0 7) zc)))) (zf (zu 8 S.nd (zm B4 (hr.mono (by decide)) (z9 (z0 2) (z9 (ui (zx hu (zx hu (z0 5) zc) (z0 1)) (z0 7)) zd))))
      (zf (zu 9 S.nd (Oq T.list (z9 (zx hu (z0 5) zc) zd)))
      (zf (vh (Eg (z0 3) zc) (zk (Y6 9 hu (z0 3) (z0 7))) xp)
      (zk (Uw 4 hu (x3 (z9 (zx hu (z0 5) zc) (z9 (xb T.tuple (z9 (z0 9) zd)) zd))) (x3 (z9 (yq (zx hu (z0 6) zc) (z0 8)) (z9 (zx hu (z0 6) zc) zd)))))))) xp)))))
   (zk (y0 (z0 4))))),?_⟩
 obtain ⟨rows,j,n,many,wide,spot,rfl,I,h⟩:=hT
 refine ⟨trivial,?_⟩
 dsimp only
 refine je (ρ':=[some (dv (.dp rows)),some (dv (.int j)),some (dv (.int n)),some (dv (.int spot)),some (dO (.dp [])),none,none,none,none,none]) (by rfl) (wu ?_)
 refine ye (rows.map rowD) (λψ hψ=>⟨rows,rfl,hψ⟩) (λu ρ=>∃ (fs:List PK) (a b c d e:Option EV),ρ=[some (dv (.dp rows)),some (dv (.int j)),some (dv (.int n)),some (dv (.int spot)),some (dO (.dp fs)),a,b,c,d,e] /\ PI j n spot rows u 0 (λ_=>0) fs) ⟨[],none,none,none,none,none,rfl,PI.nil⟩ ?_ ?_
 ·rintro u d _ hd ⟨fs,a,b,c,d,e,rfl,P⟩
  rw [zai] at hd
  obtain ⟨r,er,rfl⟩:=zar.mp hd
  have mr:=zan er
  have lj:j < r.1.1.length:=by rw [I.kl _ mr]; exact I.jm
  have aj:atI r.1.1 (j:Int)=some ((pA j r.1:Nat):Int):=by
   have h0:=(I.kn _ mr (r.1.1[j]) (List.getElem_mem lj)).1
   rw [atN lj,zaf lj]
   unfold pA
   rw [show r.1.1.getD j 0=r.1.1[j] from by simp [List.getD,lj],Int.toNat_of_nonneg h0]
  have a3:pA j r.1 <= 3:=by
   have h0:=(I.kn _ mr (r.1.1[j]) (List.getElem_mem lj)).2
   unfold pA
   rw [show r.1.1.getD j 0=r.1.1[j] from by simp [List.getD,lj]]
   omega
  refine tw (a:=ik2 r.1) (b:=.tup [.int r.2.1,.int r.2.2]) ?_
  refine (show sFor _ _ _ [some (dv (.dp rows)),some (dv (.int j)),some (dv (.int n)),some (dv (.int spot)),some (dO (.dp fs)),some (dv (ik2 r.1)),some (dv (.tup [.int r.2.1,.int r.2.2])),c,d,e] _ from ?_)
  refine ye (rngD 0 (pA j r.1 + 1)) (λψ hψ=>?_) (λi ρ=>∃ (fs:List PK) (c d e:Option EV),ρ=[some (dv (.dp rows)),some (dv (.int j)),some (dv (.int n)),some (dv (.int spot)),some (dO (.dp fs)),some (dv (ik2 r.1)),some (dv (.tup [.int r.2.1,.int r.2.2])),c,d,e] /\ PI j n spot rows u i (λg=>rq r.2 * inG j n spot g i r.1) fs) ⟨fs,c,d,e,rfl,P.start _ _⟩ ?_ ?_
  ·walk_at "dl"
   rw [aj]
   refine (show _ /\ _ /\ ψ _ from ⟨by omega,by omega,?_⟩)
   rw [show (((pA j r.1:Nat):Int) + 1).toNat=pA j r.1 + 1 by omega]
   exact hψ
  ·rintro i d _ hd ⟨fs,c,d,e,rfl,P⟩
   obtain ⟨hi,rfl⟩:=x9 hd
   rw [Int.zero_add]
   refine (show sIf _ _ _ [some (dv (.dp rows)),some (dv (.int j)),some (dv (.int n)),some (dv (.int spot)),some (dO (.dp fs)),some (dv (ik2 r.1)),some (dv (.tup [.int r.2.1,.int r.2.2])),some (dv (.int i)),d,e] _ from ?_)
   refine Lj (decide (pC spot i)) (λψ hψ=>?_) (λhb=>?_) (λhb=>?_)
   ·walk_at "dl"
    refine ⟨λhs=>by rw [decide_eq_true (show pC spot i from .inl hs)] at hψ; exact hψ,λhs=>?_⟩
    rw [show decide (pC spot i)=((i:Int) == 0) from by
     rw [Bool.eq_iff_iff,decide_eq_true_eq,beq_iff_eq]
     exact ⟨λz=>z.elim (λy=>absurd y hs) (λy=>by omega),λz=>.inr (by omega)⟩] at hψ
    exact hψ
   ·have hc:=of_decide_eq_true hb
    have nb:intBits (n:Int) <= 200:=wx (m:=200) (Int.natCast_nonneg _) (by have:=I.n50; exact_mod_cast Nat.lt_trans this (by decide))
    refine wj (yw [dv (.int n),dv (.int (((pA j r.1:Nat):Int) - i))] (λψ hψ=>?_) rfl ⟨n,pA j r.1 - i,by rw [show ((pA j r.1:Nat):Int) - i=((pA j r.1 - i:Nat):Int) by omega]; rfl,by omega,nb,trivial,?_⟩)
    ·walk_at "dl"
     rw [aj]
     exact hψ
    have im:IntMulOk r.2.1 (cb n (pA j r.1 - i):Nat):=v8 (zak (I.bt _ mr) (by decide)) (zak (Q1 (k:=pA j r.1 - i) nb (by omega)) (by omega))
    have fl:fs.length < 10000:=by
     have:=P.ln
     have:=I.ln
     have:=(zag.mp er).1
     omega
    have nw:=P.new I er hc
    have st:=P.step I er (by omega) hc
    have e1:mkR j n spot i r=(pK spot i r.1,(r.2.1 * (cb n (pA j r.1 - i):Int),r.2.2)):=rfl
    rw [e1] at st
    walk_at "dl"
    refine ⟨λhs=>?_,λhs=>?_⟩
    ·have ex:ixN r.1.2.length spot=some spot.toNat:=by
      have h1:=(I.sp hs).1
      have h2:=I.tl _ mr
      unfold ixN
      rw [if_pos hs,if_pos (by omega)]
     rw [ex]
     refine ⟨im,pK spot i r.1,(r.2.1 * (cb n (pA j r.1 - i):Int),r.2.2),rfl,?_,nw,fl,_,_,_,_,rfl,st⟩
     unfold pK
     rw [if_pos hs,List.map_set]
    ·refine ⟨im,pK spot i r.1,(r.2.1 * (cb n (pA j r.1 - i):Int),r.2.2),rfl,?_,nw,fl,_,_,_,_,rfl,st⟩
     unfold pK
     rw [if_neg hs]
   ·have hc:=of_decide_eq_false hb
    exact ⟨fs,_,_,_,rfl,P.skip hc⟩
  ·rintro _ ⟨fs,c,d,e,rfl,P⟩
   rw [xf] at P
   exact ⟨fs,_,_,_,_,_,rfl,P.next er a3⟩
 ·rintro _ ⟨fs,a,b,c,d,e,rfl,P⟩
  rw [zLm] at P
  exact ⟨trivial,h fs P.out⟩
end
def Yn (nums:List Nat) (spots:List Int) (x:Nat->Nat) (i:Nat):Nat:=(if 0 <= spots.getD i (-1) then x (spots.getD i (-1)).toNat else 0) + nums.getD i 0
structure Zx (ps:List Part) (many wide:Nat) (nums:List Nat) (spots:List Int):Prop where
 m3:many <= 3
 w5:wide <= 5
 pl:ps.length <= 10
 po:∀ p ∈ ps,PO many p
 nd:(ps.map Prod.fst).Nodup
 nl:nums.length=many
 n50:∀ n ∈ nums,n < 2 ^ 50
 sl:spots.length=many
 sw:∀ s ∈ spots,s < wide
 sd:∀ (l l':Nat) (s:Int),spots[l]?=some s->spots[l']?=some s->0 <= s->l=l'
structure RI (ps:List Part) (many wide:Nat) (nums:List Nat) (spots:List Int) (j:Nat) (rows:List PK):Prop where
 nd:(rows.map Prod.fst).Nodup
 ln:rows.length <= 10 * 4 ^ j
 pm:∀ r ∈ rows,r.1.1 ∈ ps.map Prod.fst
 tl:∀ r ∈ rows,r.1.2.length=wide
 tn:∀ r ∈ rows,∀ a ∈ r.1.2,0 <= a
 ts:∀ r ∈ rows,r.1.2.sum <= (r.1.1.take j).sum
 tz:∀ r ∈ rows,∀ (l:Nat) (s:Int),j <= l->spots[l]?=some s->0 <= s->r.1.2[s.toNat]?=some 0
 b0:∀ r ∈ rows,0 < r.2.2
 bt:∀ r ∈ rows,intBits r.2.1 <= 103 + 604 * j
 bb:∀ r ∈ rows,intBits r.2.2 <= 31
 ev:∀ x,sgR (gV (Yn nums spots x) x j) rows=K37.ev ps (Yn nums spots x)
def row0 (wide:Nat) (p:Part):PK:=((p.1,List.replicate wide 0),p.2)
def sg0 (wide:Nat) (Y x:Nat->Nat):∀ ps:List Part,sgR (gV Y x 0) (ps.map (row0 wide))=K37.ev ps Y
 | []=>rfl
 | p :: ps=>by
  show rq p.2 * (((Bv x (List.replicate wide 0):Int):Rat) * ((Bv (λi=>Y (i + 0)) (p.1.drop 0):Int):Rat)) + sgR _ (ps.map (row0 wide))=rq p.2 * ((Bv Y p.1:Int):Rat) + K37.ev ps Y
  rw [sg0 wide Y x ps,dc,List.drop_zero]
  show rq p.2 * (((1:Int):Rat) * _) + _=_
  rw [Rat.intCast_one]
  show rq p.2 * (1 * ((Bv Y p.1:Int):Rat)) + _=_
  grind
section
variable {ps:List Part} {many wide j:Nat} {nums:List Nat} {spots:List Int} {rows fs:List PK}
def P3 (nd:(ps.map Prod.fst).Nodup) {i:Nat} {p:Part} (e:ps[i]?=some p):(p.1,List.replicate wide (0:Int)) ∉ ((ps.take i).map (row0 wide)).map Prod.fst:=λh=>by
 rw [List.map_map] at h
 obtain ⟨q,hq,e2⟩:=zah.mp h
 have e3:q.1=p.1:=(Prod.mk.inj (show (q.1,List.replicate wide (0:Int))=(p.1,List.replicate wide 0) from e2)).1
 obtain ⟨l,hl,el⟩:=List.getElem_of_mem hq
 rw [List.length_take] at hl
 have hl':l < ps.length:=by omega
 have:l=i:=by
  refine (List.getElem?_inj (l:=ps.map Prod.fst) (by rw [zLm]; exact hl') nd).mp ?_
  rw [zai,zai,e,zaf hl']
  rw [List.getElem_take] at el
  rw [el]
  exact congrArg some e3
 omega
def RI.zero (I:Zx ps many wide nums spots):RI ps many wide nums spots 0 (ps.map (row0 wide)) where
 nd:=by
  rw [List.map_map,List.Nodup,List.pairwise_map]
  have:=I.nd
  rw [List.Nodup,List.pairwise_map] at this
  exact this.imp λ{a b} h e=>h (Prod.mk.inj (show (a.1,List.replicate wide (0:Int))=(b.1,List.replicate wide 0) from e)).1
 ln:=by rw [zLm]; have:=I.pl; omega
 pm:=λr hr=>by obtain ⟨p,hp,rfl⟩:=zah.mp hr; exact zah.mpr ⟨p,hp,rfl⟩
 tl:=λr hr=>by obtain ⟨p,hp,rfl⟩:=zah.mp hr; exact List.length_replicate
 tn:=λr hr a ha=>by
  obtain ⟨p,hp,rfl⟩:=zah.mp hr
  have:=(List.mem_replicate.mp ha).2
  omega
 ts:=λr hr=>by
  obtain ⟨p,hp,rfl⟩:=zah.mp hr
  show (List.replicate wide (0:Int)).sum <= _
  rw [dn]
  simp
 tz:=λr hr l s _ es h0=>by
  obtain ⟨p,hp,rfl⟩:=zah.mp hr
  have:=I.sw s (zan es)
  show (List.replicate wide (0:Int))[s.toNat]?=_
  rw [List.getElem?_replicate,if_pos (by omega)]
 b0:=λr hr=>by obtain ⟨p,hp,rfl⟩:=zah.mp hr; exact (I.po p hp).gr.1
 bt:=λr hr=>by obtain ⟨p,hp,rfl⟩:=zah.mp hr; exact zak (I.po p hp).gr.2.2.1 (by omega)
 bb:=λr hr=>by obtain ⟨p,hp,rfl⟩:=zah.mp hr; exact (I.po p hp).gr.2.2.2
 ev:=λx=>sg0 wide _ x ps
def RI.ko (h:RI ps many wide nums spots j rows) (I:Zx ps many wide nums spots) {r:PK} (hr:r ∈ rows):KOk many 3 many r.1.1:=by
 obtain ⟨p,hp,e⟩:=zah.mp (h.pm r hr)
 rw [<- e]
 exact (I.po p hp).ko
def RI.put (h:RI ps many wide nums spots j rows) (I:Zx ps many wide nums spots) (hj:j < many) {n:Nat} {spot:Int} (en:nums[j]?=some n) (es:spots[j]?=some spot):N8 many wide j n spot rows where
 ln:=by
  have:=h.ln
  have h4:(4:Nat) ^ j <= 4 ^ 2:=Nat.pow_le_pow_right (by decide) (by have:=I.m3; omega)
  omega
 nd:=h.nd
 jm:=hj
 kl:=λr hr=>(h.ko I hr).1
 kn:=λr hr a ha=>⟨(h.ko I hr).2.1 a ha,by have:=Kp (h.ko I hr) a ha; omega⟩
 tl:=h.tl
 bt:=λr hr=>zak (h.bt r hr) (by have:=I.m3; omega)
 n50:=I.n50 n (zan en)
 sp:=λhs=>⟨I.sw spot (zan es),λr hr=>h.tz r hr j spot (zaj _) es hs⟩
 w5:=I.w5
def Ul:∀ (t:List Int) (s:Nat) (v:Int),t[s]?=some 0->(t.set s v).sum=t.sum + v
 | [],s,v,h=>by simp at h
 | a :: t,0,v,h=>by
  have:a=0:=by simpa using h
  subst this
  simp only [List.set_cons_zero,List.sum_cons]
  omega
 | a :: t,s + 1,v,h=>by
  have:=Ul t s v (by simpa using h)
  simp only [List.set_cons_succ,List.sum_cons]
  omega
def RI.step (h:RI ps many wide nums spots j rows) (I:Zx ps many wide nums spots) (hj:j < many) {n:Nat} {spot:Int} (en:nums[j]?=some n) (es:spots[j]?=some spot) (O:Qa j n spot rows fs):RI ps many wide nums spots (j + 1) fs:=by
 have PI:=h.put I hj en es
 have z:∀ r ∈ rows,0 <= spot->r.1.2[spot.toNat]?=some 0:=λr hr hs=>h.tz r hr j spot (zaj _) es hs
 have aj:∀ r ∈ rows,(r.1.1.take (j + 1)).sum=(r.1.1.take j).sum + (pA j r.1:Nat):=λr hr=>by
  have lj:j < r.1.1.length:=by rw [PI.kl r hr]; exact hj
  have h0:=(PI.kn r hr (r.1.1[j]) (List.getElem_mem lj)).1
  unfold pA
  rw [List.take_add_one,zaf lj,show r.1.1.getD j 0=r.1.1[j] from by simp [List.getD,lj],Int.toNat_of_nonneg h0,List.sum_append]
  show _ + [r.1.1[j]].sum=_
  rw [List.sum_cons,List.sum_nil,Int.add_zero]
 exact {
  nd:=O.nd
  ln:=by
   have h1:=O.ln
   have h2:=h.ln
   have:(4:Nat) ^ (j + 1)=4 ^ j * 4:=rfl
   omega
  pm:=λf hf=>by
   obtain ⟨r,hr,i,_,_,rfl⟩:=O.fr f hf
   exact h.pm r hr
  tl:=λf hf=>by
   obtain ⟨r,hr,i,_,_,rfl⟩:=O.fr f hf
   show (if 0 <= spot then r.1.2.set spot.toNat (i:Int) else r.1.2).length=wide
   split
   ·rw [List.length_set]; exact h.tl r hr
   ·exact h.tl r hr
  tn:=λf hf a ha=>by
   obtain ⟨r,hr,i,_,_,rfl⟩:=O.fr f hf
   have ha:a ∈ (if 0 <= spot then r.1.2.set spot.toNat (i:Int) else r.1.2):=ha
   split at ha
   ·rcases List.mem_or_eq_of_mem_set ha with y | y
    ·exact h.tn r hr a y
    ·omega
   ·exact h.tn r hr a ha
  ts:=λf hf=>by
   obtain ⟨r,hr,i,hi,_,rfl⟩:=O.fr f hf
   have h1:=h.ts r hr
   have h2:=aj r hr
   show (if 0 <= spot then r.1.2.set spot.toNat (i:Int) else r.1.2).sum <= (r.1.1.take (j + 1)).sum
   split
   ·rename_i hs
    rw [Ul _ _ _ (z r hr hs),h2]
    omega
   ·rw [h2]; omega
  tz:=λf hf l s hl el h0=>by
   obtain ⟨r,hr,i,hi,_,rfl⟩:=O.fr f hf
   show (if 0 <= spot then r.1.2.set spot.toNat (i:Int) else r.1.2)[s.toNat]?=some 0
   have h1:=h.tz r hr l s (by omega) el h0
   split
   ·rename_i hs
    rw [List.getElem?_set_ne (λe=>?_)]
    ·exact h1
    ·have:spot=s:=by omega
     subst this
     have:=I.sd j l spot es el h0
     omega
   ·exact h1
  b0:=λf hf=>by
   obtain ⟨r,hr,i,_,_,rfl⟩:=O.fr f hf
   exact h.b0 r hr
  bt:=λf hf=>by
   obtain ⟨r,hr,i,hi,_,rfl⟩:=O.fr f hf
   have a3:pA j r.1 <= 3:=by
    have lj:j < r.1.1.length:=by rw [PI.kl r hr]; exact hj
    have h0:=(PI.kn r hr (r.1.1[j]) (List.getElem_mem lj)).2
    unfold pA
    rw [show r.1.1.getD j 0=r.1.1[j] from by simp [List.getD,lj]]
    omega
   have nb:intBits (n:Int) <= 200:=wx (m:=200) (Int.natCast_nonneg _) (by have:=PI.n50; exact_mod_cast Nat.lt_trans this (by decide))
   show intBits (r.2.1 * (cb n (pA j r.1 - i):Int)) <= _
   refine zak (PySem.intBits_mul_le (h.bt r hr) (Q1 (k:=pA j r.1 - i) nb (by omega))) ?_
   omega
  bb:=λf hf=>by
   obtain ⟨r,hr,i,_,_,rfl⟩:=O.fr f hf
   exact h.bb r hr
  ev:=λx=>by
   rw [O.sm,<- h.ev x]
   refine ck λr hr=>?_
   have e1:spots.getD j (-1)=spot:=by simp [List.getD,es]
   have e2:nums.getD j 0=n:=by simp [List.getD,en]
   refine Kx (by rw [PI.kl r hr]; exact hj) (λhs=>⟨z r hr hs,?_⟩) λhs=>?_
   ·unfold Yn
    rw [e1,e2,if_pos hs]
   ·unfold Yn
    rw [e1,e2,if_neg hs,Nat.zero_add] }
def qsOf (rows:List PK):List Part:=rows.map λr=>(r.1.2,r.2)
def Ee (x Y:Nat->Nat):∀ rows:List PK,(∀ r ∈ rows,r.1.1.length <= j)->K37.ev (qsOf rows) x=sgR (gV Y x j) rows
 | [],_=>rfl
 | r :: rows,h=>by
  show rq r.2 * ((Bv x r.1.2:Int):Rat) + K37.ev (qsOf rows) x=rq r.2 * (((Bv x r.1.2:Int):Rat) * ((Bv _ (r.1.1.drop j):Int):Rat)) + sgR _ rows
  rw [Ee x Y rows λr hr=>h r (zal _ hr),List.drop_eq_nil_of_le (h r zao)]
  show _=rq r.2 * (((Bv x r.1.2:Int):Rat) * ((1:Int):Rat)) + _
  rw [Rat.intCast_one]
  grind
def RI.kq (h:RI ps many wide nums spots many rows) (I:Zx ps many wide nums spots):∀ q ∈ qsOf rows,KOk wide 3 wide q.1:=λq hq=>by
 obtain ⟨r,hr,rfl⟩:=zah.mp hq
 have k:=h.ko I hr
 refine ⟨h.tl r hr,h.tn r hr,?_,λj a b=>absurd b (by omega)⟩
 have:=h.ts r hr
 rw [List.take_of_length_le (by rw [k.1]; exact zaj _)] at this
 exact Int.le_trans this k.2.2.1
def RI.ok (h:RI ps many wide nums spots many rows) (I:Zx ps many wide nums spots):Ok (qsOf rows) wide 1915 31 10 where
 len:=by
  have h1:=h.ln
  have h4:(4:Nat) ^ many <= 4 ^ 3:=Nat.pow_le_pow_right (by decide) I.m3
  unfold qsOf
  rw [zLm]
  omega
 kn:=λes nd he=>zak (qp I.w5 (zaj 3) nd λk hk=>by
  obtain ⟨p,hp,e⟩:=he k hk
  rw [<- e]
  exact h.kq I p hp) (by decide)
 bd:=λq hq=>by
  obtain ⟨r,hr,rfl⟩:=zah.mp hq
  exact ⟨h.b0 r hr,zak (h.bt r hr) (by have:=I.m3; omega),h.bb r hr⟩
 key:=λq hq=>(h.kq I q hq).1
 cn:=λk=>by
  unfold cnt qsOf
  rw [List.filter_map,zLm]
  have:((rows.filter ((λp:Part=>decide (p.1=k)) ∘ λr=>(r.1.2,r.2))).map λr=>r.1.1).length <= (ps.map Prod.fst).length:=by
   refine qj _ _ ?_ λa ha=>?_
   ·rw [List.Nodup,List.pairwise_map]
    have nd:=h.nd
    rw [List.Nodup,List.pairwise_map] at nd
    refine List.Pairwise.imp_of_mem (λha hb ne z=>?_) (nd.sublist List.filter_sublist)
    have e1:=of_decide_eq_true (List.mem_filter.mp ha).2
    have e2:=of_decide_eq_true (List.mem_filter.mp hb).2
    exact ne (Prod.ext z (e1.trans e2.symm))
   ·obtain ⟨r,hr,rfl⟩:=zah.mp ha
    exact h.pm r (List.mem_filter.mp hr).1
  rw [zLm,zLm] at this
  exact zak this I.pl
 B1:=by decide
 s1:=by decide
 s2:=by decide
 A2:=by decide
 B2:=by decide
end
section
variable {P:Program} {w:World} {K:W.Frag} {mg:Str->Option Value} {base:Heap} {f:Addr} {fd:FuncData}
def T2 {i:Nat} {tk te:TD} {ρ:DE} {Z:DZ} {ks:List TK} {ds:List D} (e:slot ρ i=some (dO (.dt ks ds))) (h:te ρ λr=>tk ρ λkr=>(match r.k with | .own=>False | _=>True) /\ ds.length <= 100000 /\ (match keyT kr.d with
  | some k=>Z.nx (setS ρ i (dO (.dt (wc ks k) (x4 ks ds k r.d))))
  | none=>False)):u5 i tk te ρ Z:=by
 unfold u5
 rw [e]
 exact h
def Fm {s0 s1 s2 s3 s4 s5 s6 s8 s9:Option EV} {v1 v2 u1 u2:Int} {ψ:EV->Prop} (a1:intBits u1 <= 2900) (a2:intBits u2 <= 2900) (a3:intBits v1 <= 2900) (a4:intBits v2 <= 2900) (p0:0 < u2) (p1:0 < v2) (hψ:ψ (dv (rD (rt (u1 * v2 + v1 * u2) (u2 * v2))))) :
  Zl 2 tLow (j0 (d2 sAdd (d2 sMul (d2 sIxx (xi 10) (dC (D.int 0))) (d2 sIxx (xi 7) (dC (D.int 1)))) (d2 sMul (d2 sIxx (xi 7) (dC (D.int 0))) (d2 sIxx (xi 10) (dC (D.int 1))))) (j0 (d2 sMul (d2 sIxx (xi 10) (dC (D.int 1))) (d2 sIxx (xi 7) (dC (D.int 1)))) aNil))
   [s0,s1,s2,s3,s4,s5,s6,some (dv (.tup [.int v1,.int v2])),s8,s9,some (dv (.tup [.int u1,.int u2]))] ψ:=by
 have k1:IntMulOk u1 v2:=v8 (zak a1 (by decide)) (zak a4 (by decide))
 have k2:IntMulOk v1 u2:=v8 (zak a3 (by decide)) (zak a2 (by decide))
 have k3:IntMulOk u2 v2:=v8 (zak a2 (by decide)) (zak a4 (by decide))
 have k4:0 < u2 * v2:=Int.mul_pos p0 p1
 have k5:intBits (u2 * v2) <= 8000:=zak (PySem.intBits_mul_le a2 a4) (by decide)
 exact ⟨k1,k2,k3,rfl,k4,k5,hψ⟩
def Qz {i:Nat} {tk te:TD} {ρ:DE} {Z:DZ} {ks:List TK} {ds:List D} (r:EV) (e:slot ρ i=some (dO (.dt ks ds))) (h1:∀ ψ:EV->Prop,ψ r->te ρ ψ) (h:tk ρ λkr=>(match r.k with | .own=>False | _=>True) /\ ds.length <= 100000 /\ (match keyT kr.d with
  | some k=>Z.nx (setS ρ i (dO (.dt (wc ks k) (x4 ks ds k r.d))))
  | none=>False)):u5 i tk te ρ Z:=T2 e (h1 _ h)
def tDue:FT:=λds φ=>∃ (ps:List Part) (many wide:Nat) (nums:List Nat) (spots:List Int),ds=[.tup (ps.map zn),.int many,.lst (nsD (nk nums)),.lst (nsD spots),.int wide] /\ Zx ps many wide nums spots /\ ∀ rows L,RI ps many wide nums spots many rows->Cn (qsOf rows) L->φ (dv (.tup ((cp (qsOf rows) L).map zn)))
def Vq (T:Tops mg) (C5:FD P w K mg base 2 "_law_lowest" ["_law_top", "_law_bottom"] tLow) (Bb:FD P w K mg base 2 "_law_put" ["_law_parts", "_law_at", "_law_number", "_law_spot"] tPut) (F:Fun K "_law_due" "_law_due" (top 34) f fd) (m:mg "_law_due" = some (.ref f)):FD P w K mg base 3 "_law_due" ["_law_parts", "_law_many", "_law_numbers", "_law_spots_here", "_law_wide"] tDue:=by
 have S:zw ["_law_parts", "_law_many", "_law_numbers", "_law_spots_here", "_law_wide", "_law_found", "_law_powers_here", "_law_share", "_law_at", "_law_total", "_law_old"] ["_law_parts", "_law_many", "_law_numbers", "_law_spots_here", "_law_wide"] (za (top 34)):=⟨rfl,rfl,rfl,by decide +kernel,rfl,by decide +kernel,by decide +kernel⟩
 refine yz F S (F.binds λ_ _ _ _ _ _ us hl=>(by obtain ⟨_,_,_,_,_,rfl⟩:=Dj hl; rfl)) m λqZ A outer s H E ds φ hr hl hT=>?_
 have hu:=hr.units
 refine ⟨_,(zf (y3 (zu 5 S.nd Zi))
   (zf (y3 (yn (xw (z0 0)) (yk (K0:=K) (n:=2) (by rfl) (by rfl) (zl (zj (i:=6) S.nd rfl (by walk_at "o")) (zl (zj (i:=7) S.nd rfl (by walk_at "o")) yj))) (yu 6 7) (zk (Uw 5 hu (x3 (z9 (z0 6) (z9 (xb T.tuple (z9 (yq (xc (z9 zc zd)) (z0 4)) zd)) zd))) (z0 7)))))
   (zf (y3 (yn (y7 T.range (z9 (z0 1) zd)) (zj (i:=8) S.nd rfl (by walk_at "o")) (yc 8) (zk (zu 5 S.nd (zm Bb (hr.mono (by decide)) (z9 (z0 5) (z9 (z0 8) (z9 (zx hu (z0 2) (z0 8)) (z9 (zx hu (z0 3) (z0 8)) zd)))))))))
   (zf (y3 (W2 5 (zu 9 S.nd uj)))
   (zf (y3 (yn (Ze (z0 5)) (yk (K0:=K) (n:=2) (by rfl) (by rfl) (zl (zj (i:=6) S.nd rfl (by walk_at "o")) (zl (zj (i:=7) S.nd rfl (by walk_at "o")) yj))) (yu 6 7) (zf (y3 (zu 10 S.nd (rk hu (z0 9) (zx hu (z0 6) zc) (x3 (z9 zc (z9 zc zd))))))
    (zk (rc 9 hu (zx hu (z0 6) zc) (zm C5 (hr.mono (by decide)) (z9 (y8 (yq (zx hu (z0 10) zc) (zx hu (z0 7) zc)) (yq (zx hu (z0 7) zc) (zx hu (z0 10) zc))) (z9 (yq (zx hu (z0 10) zc) (zx hu (z0 7) zc)) zd))))))))
   (zk (y0 (xb T.tuple (z9 (xh (T:=["_law_powers_here"]) (F:=["_law_total"]) (js:=[9]) (xw (t7 T.sorted (z9 (z0 9) zd))) (show zt (za (top 34)) _ ["_law_powers_here"] ["_law_total"] from ⟨rfl,by decide +kernel,by decide +kernel,by decide +kernel,by decide +kernel,by decide +kernel⟩) (.cons rfl .nil) (by decide) (λcl C fp s H=>(zj (i:=0) (show ((["_law_powers_here"]:List Str) ++ (["_law_total"]:List Str)).Nodup by decide +kernel) rfl (by walk_at "o"))) (yh (by decide)) (yc 0) (λcl C fp s H=>(Xd (Xb hu (zx hu (Zh hu (z0 1) (z0 0)) zc) zc))) (λcl C fp s H=>(x3 (z9 (z0 0) (z9 (Zh hu (z0 1) (z0 0)) zd))))) zd))))))))),?_⟩
 obtain ⟨ps,many,wide,nums,spots,rfl,I,h⟩:=hT
 refine zy (λρ=>ρ=[some (dv (.tup (ps.map zn))),some (dv (.int many)),some (dv (.lst (nsD (nk nums)))),some (dv (.lst (nsD spots))),some (dv (.int wide)),some (dO (.dp [])),none,none,none,none,none]) ?_ ?_
 ·exact ⟨trivial,rfl⟩
 rintro _ rfl
 refine zy (λρ=>∃ a b,ρ=[some (dv (.tup (ps.map zn))),some (dv (.int many)),some (dv (.lst (nsD (nk nums)))),some (dv (.lst (nsD spots))),some (dv (.int wide)),some (dO (.dp (ps.map (row0 wide)))),a,b,none,none,none]) ?_ ?_
 ·refine ye (ps.map zn) (λψ hψ=>⟨trivial,hψ⟩) (λi ρ=>∃ a b,ρ=[some (dv (.tup (ps.map zn))),some (dv (.int many)),some (dv (.lst (nsD (nk nums)))),some (dv (.lst (nsD spots))),some (dv (.int wide)),some (dO (.dp ((ps.take i).map (row0 wide)))),a,b,none,none,none]) ⟨none,none,rfl⟩ ?_ ?_
  ·rintro i d _ hd ⟨a,b,rfl⟩
   rw [zai] at hd
   obtain ⟨p,ep,rfl⟩:=zar.mp hd
   refine tw (a:=.tup (nsD p.1)) (b:=rD p.2) ?_
   refine Qw ((ps.take i).map (row0 wide)) (p.1,List.replicate wide 0) p.2 rfl (λψ hψ=>hψ) (λψ hψ=>?_) (P3 I.nd ep) (by rw [zLm,List.length_take]; have:=I.pl; omega) ⟨some (dv (.tup (nsD p.1))),some (dv (rD p.2)),?_⟩
   ·walk_at "dl"
    have:=I.w5
    rw [Int.toNat_natCast,List.flatten_replicate_singleton]
    refine ⟨by omega,by omega,by rw [sizeLine_eq]; omega,?_⟩
    rw [show List.replicate wide (D.int 0)=(List.replicate wide (0:Int)).map D.int from by rw [List.map_replicate]]
    exact hψ
   ·rw [List.take_add_one,ep,zMa]
    rfl
  ·rintro _ ⟨a,b,rfl⟩
   rw [zLm,List.take_length]
   exact ⟨a,b,rfl⟩
 rintro _ ⟨x6,x7,rfl⟩
 refine zy (λρ=>∃ rows c,RI ps many wide nums spots many rows /\ ρ=[some (dv (.tup (ps.map zn))),some (dv (.int many)),some (dv (.lst (nsD (nk nums)))),some (dv (.lst (nsD spots))),some (dv (.int wide)),some (dO (.dp rows)),x6,x7,c,none,none]) ?_ ?_
 ·refine ye (rngD 0 many) (λψ hψ=>?_) (λj ρ=>∃ rows c,RI ps many wide nums spots j rows /\ ρ=[some (dv (.tup (ps.map zn))),some (dv (.int many)),some (dv (.lst (nsD (nk nums)))),some (dv (.lst (nsD spots))),some (dv (.int wide)),some (dO (.dp rows)),x6,x7,c,none,none]) ⟨_,none,RI.zero I,rfl⟩ ?_ ?_
  ·have:=I.m3
   exact ⟨by omega,by omega,hψ⟩
  ·rintro j d _ hd ⟨rows,c,R,rfl⟩
   obtain ⟨hj,rfl⟩:=x9 hd
   rw [Int.zero_add]
   obtain ⟨n,en⟩:∃ n,nums[j]?=some n:=⟨_,zaf (by rw [I.nl]; exact hj)⟩
   obtain ⟨spot,es⟩:∃ s,spots[j]?=some s:=⟨_,zaf (by rw [I.sl]; exact hj)⟩
   refine (show sSet 5 (Zl 4 tPut _) [some (dv (.tup (ps.map zn))),some (dv (.int many)),some (dv (.lst (nsD (nk nums)))),some (dv (.lst (nsD spots))),some (dv (.int wide)),some (dO (.dp rows)),x6,x7,some (dv (.int j)),none,none] _ from ?_)
   refine yw [dO (.dp rows),dv (.int j),dv (.int n),dv (.int spot)] (λψ hψ=>?_) rfl ⟨rows,j,n,many,wide,spot,rfl,R.put I hj en es,λfs O=>⟨trivial,fs,_,R.step I hj en es O,rfl⟩⟩
   have e1:atI (nsD (nk nums)) (j:Int)=some (.int n):=by
    rw [atN (by simp [nsD,nk,I.nl,hj])]
    simp [nsD,nk,en]
   have e2:atI (nsD spots) (j:Int)=some (.int spot):=by
    rw [atN (by simp [nsD,I.sl,hj])]
    simp [nsD,es]
   walk_at "dl"
   rw [e1,e2]
   exact hψ
  ·rintro _ ⟨rows,c,R,rfl⟩
   rw [xf] at R
   exact ⟨rows,c,R,rfl⟩
 rintro _ ⟨rows,c8,R,rfl⟩
 obtain ⟨qs0,eqs⟩:∃ qs0,qs0=qsOf rows:=⟨_,rfl⟩
 obtain ⟨A,B,c,ok⟩:∃ A B c,Ok qs0 wide A B c:=⟨_,_,_,by rw [eqs]; exact R.ok I⟩
 have h:∀ L,Cn qs0 L->L.length <= qs0.length->φ (dv (.tup ((cp qs0 L).map zn))):=λL cn _=>by rw [eqs] at cn ⊢; exact h rows L R cn
 refine zy (λρ=>ρ=[some (dv (.tup (ps.map zn))),some (dv (.int many)),some (dv (.lst (nsD (nk nums)))),some (dv (.lst (nsD spots))),some (dv (.int wide)),some (dv (.dp rows)),x6,x7,c8,some (dO (dtF [] λk=>lo (tot (qs0.take 0) k))),none]) ?_ ?_
 ·exact ⟨trivial,rfl⟩
 rintro _ rfl
 refine zy (λρ=>∃ (es:List (List Int)),∃ (a2 a3 a4:Option EV),St qs0 qs0.length es /\ ρ=[some (dv (.tup (ps.map zn))),some (dv (.int many)),some (dv (.lst (nsD (nk nums)))),some (dv (.lst (nsD spots))),some (dv (.int wide)),some (dv (.dp rows)),a2,a3,c8,some (dO (dtF es λk=>lo (tot qs0 k))),a4]) ?_ ?_
 ·refine ye (rows.map rowD) (λψ hψ=>⟨rows,rfl,hψ⟩) (λi ρ=>∃ (es:List (List Int)),∃ (a2 a3 a4:Option EV),St qs0 i es /\ ρ=[some (dv (.tup (ps.map zn))),some (dv (.int many)),some (dv (.lst (nsD (nk nums)))),some (dv (.lst (nsD spots))),some (dv (.int wide)),some (dv (.dp rows)),a2,a3,c8,some (dO (dtF es λk=>lo (tot (qs0.take i) k))),a4]) ⟨[],x6,x7,none,St.nil qs0,rfl⟩ ?_ ?_
  ·rintro i d ρ hd ⟨es,a2,a3,a4,st,rfl⟩
   rw [zai] at hd
   obtain ⟨r,er,rfl⟩:=zar.mp hd
   have ep:qs0[i]?=some (r.1.2,r.2):=by rw [eqs]; unfold qsOf; rw [zai,er]; rfl
   obtain ⟨k1,p,rfl⟩:∃ k1 p,r=((k1,p.1),p.2):=⟨r.1.1,(r.1.2,r.2),rfl⟩
   have ep:qs0[i]?=some p:=ep
   have hi:=(zag.mp ep).1
   have g:=ok.bd p (zan ep)
   obtain ⟨b1,b2⟩:=sx ok.B1 ok.bd p.1 i (by omega)
   have cl:=zak (Mc qs0 i p.1) (ok.cn p.1)
   have m1:=Nat.mul_le_mul_left (B + 1) cl
   have m2:=Nat.mul_le_mul_left B cl
   have s1:=ok.s1
   have s2:=ok.s2
   have A2:=ok.A2
   have B2:=ok.B2
   have ol:=ok.len
   have hget:=st.get p.1
   have hput:=st.put ep
   have pl:=Ye (a:=(lo (tot (qs0.take i) p.1)).1) (c:=p.2.1) (u9 (tot (qs0.take i) p.1)) g.b0
   rw [show rq ((lo (tot (qs0.take i) p.1)).1,(lo (tot (qs0.take i) p.1)).2)=tot (qs0.take i) p.1 from T3 _] at pl
   have p0:=u9 (tot (qs0.take i) p.1)
   refine tw (a:=ik2 (k1,p.1)) (b:=.tup [.int p.2.1,.int p.2.2]) ?_
   unfold rD at hget hput
   refine (show sSeq _ _ [some (dv (.tup (ps.map zn))),some (dv (.int many)),some (dv (.lst (nsD (nk nums)))),some (dv (.lst (nsD spots))),some (dv (.int wide)),some (dv (.dp rows)),some (dv (ik2 (k1,p.1))),some (dv (.tup [.int p.2.1,.int p.2.2])),c8,some (dO (dtF es λk=>lo (tot (qs0.take i) k))),a4] _ from ?_)
   refine zy (λρ=>ρ=[some (dv (.tup (ps.map zn))),some (dv (.int many)),some (dv (.lst (nsD (nk nums)))),some (dv (.lst (nsD spots))),some (dv (.int wide)),some (dv (.dp rows)),some (dv (ik2 (k1,p.1))),some (dv (.tup [.int p.2.1,.int p.2.2])),c8,some (dO (dtF es λk=>lo (tot (qs0.take i) k))),some (dv (.tup [.int (lo (tot (qs0.take i) p.1)).1,.int (lo (tot (qs0.take i) p.1)).2]))]) ?_ ?_
   ·unfold dtF rD
    walk_at "dl"
    rw [show List.map (Sum.inl:Int->Key) p.1=kz p.1 from rfl,hget]
   rintro _ rfl
   generalize (lo (tot (qs0.take i) p.1)).1=u1 at *
   generalize (lo (tot (qs0.take i) p.1)).2=u2 at *
   refine Qz (ks:=es.map kz) (ds:=es.map λk=>.tup [.int (lo (tot (qs0.take i) k)).1,.int (lo (tot (qs0.take i) k)).2]) (dv (rD (rt (u1 * p.2.2 + p.2.1 * u2) (u2 * p.2.2)))) rfl (λψ hψ=>?_) ?_
   ·exact Fm (zak b1 (by omega)) (zak b2 (by omega)) (zak g.t (by omega)) (zak g.b (by omega)) p0 g.b0 hψ
   walk_at "dl"
   rw [show List.map (Sum.inl:Int->Key) p.1=kz p.1 from rfl]
   unfold dtF rD at hput ⊢
   rw [pl,hput]
   exact ⟨by have:=st.len; omega,putE es p.1,_,_,_,st.step ep,rfl⟩
  ·rintro ρ ⟨es,a2,a3,a4,st,rfl⟩
   rw [zLm,show rows.length=qs0.length from by rw [eqs]; unfold qsOf; rw [zLm]] at st ⊢
   rw [List.take_length]
   exact ⟨es,a2,a3,a4,st,rfl⟩
 rintro _ ⟨es,a2,a3,a4,st,rfl⟩
 have hol:=ok.len
 have key:∀ k ∈ es,k.length=wide:=λk hk=>by
  obtain ⟨p,hp,e⟩:=(st.mem k).mp hk
  rw [<- e]
  exact ok.key p (List.mem_of_mem_take hp)
 have ell:=st.len
 have ekn:=ok.kn es st.nd λk hk=>by
  obtain ⟨p,hp,e⟩:=(st.mem k).mp hk
  exact ⟨p,List.mem_of_mem_take hp,e⟩
 unfold dtF
 walk_at "dl"
 refine kg (λds=>∃ qs:List (List Int),qs.Perm es /\ qs.Pairwise Lt /\ ds=qs.map λk=>tkD (kz k)) (λψ hψ=>?_) λds hds=>?_
 ·walk_at "dl"
  refine ⟨by omega,⟨wide,λk hk=>?_⟩,λks' pk pw=>?_⟩
  ·obtain ⟨ns,mn,rfl⟩:=zah.mp hk
   exact ⟨ns,rfl,key ns mn⟩
  ·obtain ⟨qs,pq,eq⟩:=qi pk.symm es rfl
   refine hψ _ ⟨qs,pq,?_,by rw [<- eq,List.map_map]; rfl⟩
   rw [<- eq,List.pairwise_map] at pw
   refine pw.imp λ{a b} hab=>?_
   unfold ltK at hab
   rw [show zK (kz a)=a from vg a,show zK (kz b)=b from vg b] at hab
   exact hab
 ·obtain ⟨qs,pq,pw,rfl⟩:=hds
  refine ⟨outF λk=>lo (tot qs0 k),by rw [zLm,pq.length_eq]; omega,λd hd=>?_,?_⟩
  ·obtain ⟨k,mk,rfl⟩:=zah.mp hd
   have el:yb (es.map kz) (es.map λk=>rD (lo (tot qs0 k))) (kz k)=some (rD (lo (tot qs0 k))):=by
    rw [Wi (λk=>rD (lo (tot qs0 k))) k es,if_pos (pq.mem_iff.mp mk)]
   rw [Yh]
   simp only [ρ0,List.map_cons,List.map_nil,List.replicate,List.cons_append,List.nil_append]
   walk_at "dl"
   simp only [el]
   unfold rD
   walk_at "dl"
   exact ⟨λz=>by rw [if_neg z,Mx]; rfl,λz=>by rw [if_pos z]⟩
  ·rw [gn]
   walk_at "dl"
   refine ⟨v4 _,h _ ⟨pw.sublist List.filter_sublist,λk=>?_⟩ ?_⟩
   ·rw [List.mem_filter,pq.mem_iff,st.mem,List.take_length]
    refine ⟨λz=>by simpa using z.2,λz=>⟨Decidable.byContradiction λy=>z (xk λp hp e=>y ⟨p,hp,e⟩),by simpa using z⟩⟩
   ·exact zak (List.length_filter_le _ _) (by rw [pq.length_eq]; exact ell)
def Zc:∀ ns:List Int,eqDs (nsD ns) (nsD ns)=true
 | []=>rfl
 | z :: zs=>by
  show (eqD (.int z) (.int z) && eqDs (nsD zs) (nsD zs))=true
  rw [Zc zs,fw,beq_self_eq_true]
  rfl
def J9 (p:Part):eqD (zn p) (zn p)=true:=by
 show (eqDs (nsD p.1) (nsD p.1) && (eqD (rD p.2) (rD p.2) && true))=true
 rw [Zc,show eqD (rD p.2) (rD p.2)=((p.2.1 == p.2.1) && ((p.2.2 == p.2.2) && true)) from rfl,beq_self_eq_true,beq_self_eq_true]
 rfl
def Wr:∀ ps:List Part,eqDs (ps.map zn) (ps.map zn)=true
 | []=>rfl
 | p :: ps=>by
  show (eqD (zn p) (zn p) && eqDs (ps.map zn) (ps.map zn))=true
  rw [J9,Wr ps]
  rfl
def Kc (p:Part) (n:Nat):okD (n + 3) (zn p):=by
 show ∀ x ∈ [D.tup (nsD p.1),rD p.2],okD (n + 2) x
 intro x hx
 simp only [zam,List.not_mem_nil,or_false] at hx
 rcases hx with rfl | rfl
 ·show ∀ y ∈ nsD p.1,okD (n + 1) y
  intro y hy
  obtain ⟨z,_,rfl⟩:=zah.mp hy
  simp [okD]
 ·simp [rD,okD]
def Po (ps:List Part):okD 40 (.tup (ps.map zn)):=by
 show ∀ x ∈ ps.map zn,okD 39 x
 intro x hx
 obtain ⟨p,_,rfl⟩:=zah.mp hx
 exact Kc p 36
def whF:D->Option D
 | .int _=>some (.bl true)
 | _=>none
def Mn (ns:List Int):(nsD ns).filterMap whF=(List.replicate ns.length true).map D.bl:=by
 induction ns with
 | nil=>rfl
 | cons n ns ih =>
  show D.bl true :: (nsD ns).filterMap whF=_
  rw [ih]
  rfl
def Jp (n:Nat):(List.replicate n true).all id=true:=by
 induction n with
 | zero=>rfl
 | succ n ih=>rw [List.replicate_succ,List.all_cons,ih]; rfl
def Ui:FT:=λds φ=>∃ ps:List Part,ds=[.tup (ps.map zn),.tup (ps.map zn)] /\ ps.length <= 100 /\ (∀ p ∈ ps,p.1.length <= 5) /\ φ (dv (.bl true))
def Nb:FT:=λds φ=>∃ (c:Int) (many wide:Nat),ds=[.int c,.int many,.int wide] /\ many <= wide /\ wide <= 5 /\ ∀ spots:List Nat,spots.length=many->spots.Nodup->(∀ s ∈ spots,s < wide)->φ (df (.lst (nsD (nk spots))))
def cm {i j:Nat} {t:TD} {ρ:DE} {Z:DZ} (ns ms:List Int) (k:Nat) (m:Int) (ei:slot ρ i=some (dO (.lst (nsD ns)))) (ej:slot ρ j=some (dO (.lst (nsD ms)))) (hij:i ≠ j) (ht:∀ ψ:EV->Prop,ψ (dv (.int k))->t ρ ψ) (hk:k < 1000) (em:ms[k]?=some m) (hn:ns.length <= 1000) (h:Z.nx (setS (setS ρ j (dO (.lst (nsD (ms.eraseIdx k))))) i (dO (.lst (nsD (ns ++ [m])))))):qc i j t ρ Z:=⟨ns,ms,ei,ej,hij,ht _ ⟨k,m,rfl,hk,em,hn,h⟩⟩
def jx:∀ {l:List Nat} {k m:Nat},l[k]?=some m->(m :: l.eraseIdx k).Perm l
 | [],_,_,e=>by simp at e
 | a :: l,0,m,e=>by
  have:a=m:=by simpa using e
  subst this
  exact List.Perm.refl _
 | a :: l,k + 1,m,e=>(List.Perm.swap a m _).trans ((jx (l:=l) (k:=k) (m:=m) (by simpa using e)).cons a)
def Um {free spots:List Nat} {k m:Nat} (e:free[k]?=some m):(free.eraseIdx k ++ (spots ++ [m])).Perm (free ++ spots):=by
 have h1:=jx e
 have h2:(free.eraseIdx k ++ (spots ++ [m])).Perm (m :: (free.eraseIdx k ++ spots)):=by
  rw [<- List.append_assoc]
  exact List.perm_append_singleton ..
 exact h2.trans (h1.append_right spots)
def Zb (T:Tops mg) (Cr:FD P w K mg base 1 "_law_whole" ["_law_found"] ja) (F:Fun K "_law_alike" "_law_alike" (top 35) f fd) (m:mg "_law_alike" = some (.ref f)):FD P w K mg base 2 "_law_alike" ["_law_found", "_law_due_here"] Ui:=by
 have S:zw ["_law_found", "_law_due_here", "_law_powers_here", "_law_share"] ["_law_found", "_law_due_here"] (za (top 35)):=⟨rfl,rfl,rfl,by decide +kernel,rfl,by decide +kernel,by decide +kernel⟩
 refine yz F S (F.binds λ_ _ _ _ _ _ us hl=>(by obtain ⟨_,_,rfl⟩:=vj hl; rfl)) m λqZ A outer s H E ds φ hr hl hT=>?_
 have hu:=hr.units
 refine ⟨_,(zf (y3 (vh (EW.et (Oj (jv (ju (xu T.isinstance (z9 (z0 0) (z9 (Xe T.tuple wm) zd))))) (Wq (Xb hu (z0 0) (z0 1))))) (zk (y0 Ov)) xp))
   (zf (y3 (yn (xw (z0 0)) (yk (K0:=K) (n:=2) (by rfl) (by rfl) (zl (zj (i:=2) S.nd rfl (by walk_at "o")) (zl (zj (i:=3) S.nd rfl (by walk_at "o")) yj))) (yu 2 3) (zf (y3 (vh (EW.et (Oj (jv (ju (xu T.isinstance (z9 (z0 2) (z9 (Xe T.tuple wm) zd))))) (Wq (jv (ju (xu T.isinstance (z9 (z0 3) (z9 (Xe T.tuple wm) zd)))))))) (zk (y0 Ov)) xp))
    (zk (vh (jv (ju (Jh T.all (z9 (xh (T:=["_law_number"]) (F:=[]) (js:=[]) (xw (fx (z0 2) (z0 3))) (show zt (za (top 35)) _ ["_law_number"] [] from ⟨rfl,by decide +kernel,by decide +kernel,by decide +kernel,by decide +kernel,by decide +kernel⟩) .nil (by decide) (λcl C fp s H=>(zj (i:=0) (show ((["_law_number"]:List Str) ++ ([]:List Str)).Nodup by decide +kernel) rfl (by walk_at "o"))) (yh (by decide)) (yc 0) (λcl C fp s H=>xg) (λcl C fp s H=>(zm Cr (hr.mono (by decide)) (z9 (z0 0) zd)))) zd)))) (zk (y0 Ov)) xp)))))
   (zk (y0 Ov)))),?_⟩
 obtain ⟨ps,rfl,hl,hk,h⟩:=hT
 refine zy (λρ=>ρ=[some (dv (.tup (ps.map zn))),some (dv (.tup (ps.map zn))),none,none]) ?_ ?_
 ·have okp:=Po ps
  have eqp:eqD (.tup (ps.map zn)) (.tup (ps.map zn))=true:=Wr ps
  walk_at "dl"
  exact ⟨okp,okp,λz=>by rw [eqp] at z; cases z⟩
 rintro _ rfl
 refine zy (λρ=>∃ a2 a3:Option EV,ρ=[some (dv (.tup (ps.map zn))),some (dv (.tup (ps.map zn))),a2,a3]) ?_ ?_
 ·refine ye (ps.map zn) (λψ hψ=>⟨trivial,hψ⟩) (λi ρ=>∃ a2 a3:Option EV,ρ=[some (dv (.tup (ps.map zn))),some (dv (.tup (ps.map zn))),a2,a3]) ⟨none,none,rfl⟩ ?_ ?_
  ·rintro i d ρ hd ⟨a2,a3,rfl⟩
   rw [zai] at hd
   obtain ⟨p,ep,rfl⟩:=zar.mp hd
   have mp:=zan ep
   refine tw (a:=.tup (nsD p.1)) (b:=rD p.2) ?_
   refine (show sSeq _ _ [some (dv (.tup (ps.map zn))),some (dv (.tup (ps.map zn))),some (dv (.tup (nsD p.1))),some (dv (rD p.2))] _ from ?_)
   refine zy (λρ=>ρ=[some (dv (.tup (ps.map zn))),some (dv (.tup (ps.map zn))),some (dv (.tup (nsD p.1))),some (dv (.tup [.int p.2.1,.int p.2.2]))]) ?_ ?_
   ·unfold rD
    walk_at "dl"
   rintro _ rfl
   walk_at "dl"
   have kl:=hk p mp
   refine v6 (nsD (p.1 ++ [p.2.1,p.2.2])) (λψ hψ=>?_) whF (by unfold nsD; simp; omega) ?_ ?_
   ·have e:nsD p.1 ++ [D.int p.2.1,D.int p.2.2]=nsD (p.1 ++ [p.2.1,p.2.2]):=by unfold nsD; rw [zMa]; rfl
    have lz:(nsD p.1).length=p.1.length:=by unfold nsD; simp
    unfold Jk
    walk_at "dl"
    rw [e]
    exact ⟨wv _,by rw [lz,sizeLine_eq]; omega,hψ⟩
   ·intro d hd
    obtain ⟨n,_,rfl⟩:=zah.mp hd
    simp only [ρ0,List.map_cons,List.map_nil,List.replicate,List.cons_append,List.nil_append]
    walk_at "dl"
    simp only [ja,w1]
    exact ⟨trivial,rfl⟩
   ·rw [Mn]
    dsimp only
    rw [Wx]
    dsimp only
    refine ⟨λz=>?_,λ_=>⟨_,_,rfl⟩⟩
    rw [Jp] at z
    cases z
  ·rintro ρ ⟨a2,a3,rfl⟩
   exact ⟨a2,a3,rfl⟩
 rintro _ ⟨a2,a3,rfl⟩
 walk_at "dl"
 exact h
def Z9 (T:Tops mg) (F:Fun K "_law_spots" "_law_spots" (top 36) f fd) (m:mg "_law_spots" = some (.ref f)):FD P w K mg base 1 "_law_spots" ["_law_cell", "_law_many", "_law_wide"] Nb:=by
 have S:zw ["_law_cell", "_law_many", "_law_wide", "_law_free", "_law_spots_here", "_law_k"] ["_law_cell", "_law_many", "_law_wide"] (za (top 36)):=⟨rfl,rfl,rfl,by decide +kernel,rfl,by decide +kernel,by decide +kernel⟩
 refine yz F S (F.binds λ_ _ _ _ _ _ us hl=>(by obtain ⟨_,_,_,rfl⟩:=bf hl; rfl)) m λqZ A outer s H E ds φ hr hl hT=>?_
 have hu:=hr.units
 refine ⟨_,(zf (jd (T:=["_law_k"]) (F:=[]) (js:=[]) 3 S.nd (y7 T.range (z9 (z0 2) zd)) (show zt (za (top 36)) _ ["_law_k"] [] from ⟨rfl,by decide +kernel,by decide +kernel,by decide +kernel,by decide +kernel,by decide +kernel⟩) .nil (by decide) (λcl C fp s H=>(zj (i:=0) (show ((["_law_k"]:List Str) ++ ([]:List Str)).Nodup by decide +kernel) rfl (by walk_at "o"))) (yh (by decide)) (yc 0) (λcl C fp s H=>xg) (λcl C fp s H=>(z0 0)))
   (zf (zu 4 S.nd (xc zd))
   (zf (yn (y7 T.range (z9 (z0 1) zd)) (zj (i:=5) S.nd rfl (by walk_at "o")) (yc 5) (zf (Y7 4 3 (x8 (z0 0) (Rk T.len (z9 (z0 3) zd))))
    (zk (zu 0 S.nd (vq (z0 0) zc)))))
   (zk (y0 (z0 4)))))),?_⟩
 obtain ⟨c0,many,wide,rfl,hm,w5,h⟩:=hT
 refine wj (wf 0 wide (λψ hψ=>⟨by omega,by omega,hψ⟩) (λk=>.int k) (by omega) (λk hk=>?_) ⟨trivial,?_⟩)
 ·refine (show True /\ some (D.int (k:Int))=some (D.int (0 + (k:Int))) from ⟨trivial,by rw [Int.zero_add]⟩)
 refine wj ⟨rfl,rfl,trivial,?_⟩
 refine je (ρ':=[some (dv (.int c0)),some (dv (.int many)),some (dv (.int wide)),some (dO (.lst (nsD (nk (List.range wide))))),some (dO (.lst (nsD (nk [])))),none]) (by unfold nsD nk; rw [List.map_map]; rfl) (wu ?_)
 refine ye (rngD 0 many) (λψ hψ=>⟨by omega,by omega,hψ⟩) (λt ρ=>∃ (c:Int) (free spots:List Nat) (a:Option EV),ρ=[some (dv (.int c)),some (dv (.int many)),some (dv (.int wide)),some (dO (.lst (nsD (nk free)))),some (dO (.lst (nsD (nk spots)))),a] /\ free.length + t=wide /\ spots.length=t /\ (free ++ spots).Nodup /\ ∀ s ∈ free ++ spots,s < wide)
  ⟨c0,List.range wide,[],none,rfl,by simp,rfl,by rw [List.append_nil]; exact List.nodup_range,λs hs=>by simpa using hs⟩ ?_ ?_
 ·rintro t d _ hd ⟨c,free,spots,a,rfl,l1,l2,nd,lt⟩
  obtain ⟨ht,rfl⟩:=x9 hd
  have fl:0 < free.length:=by omega
  have md:=xv c free.length (by omega)
  obtain ⟨k,ek⟩:=Int.eq_ofNat_of_zero_le md.1
  obtain ⟨m,em⟩:∃ m,free[k]?=some m:=⟨_,zaf (by omega)⟩
  refine (show sSeq _ _ [some (dv (.int c)),some (dv (.int many)),some (dv (.int wide)),some (dO (.lst (nsD (nk free)))),some (dO (.lst (nsD (nk spots)))),some (dv (.int (0 + (t:Int))))] _ from ?_)
  refine wu (cm (nk spots) (nk free) k m rfl rfl (by decide) (λψ hψ=>?_) (by omega) (by unfold nk; rw [zai,em]; rfl) (by unfold nk; rw [zLm]; omega) ?_)
  ·have lz:(nsD (nk free)).length=free.length:=by unfold nsD nk; simp
   walk_at "dl"
   rw [lz,ek]
   exact ⟨by omega,hψ⟩
  ·have pm:=Um (spots:=spots) em
   have e1:(nk free).eraseIdx k=nk (free.eraseIdx k):=by unfold nk; exact DL.erase_map12 _ _ _
   have e2:nk spots ++ [(m:Int)]=nk (spots ++ [m]):=by unfold nk; rw [zMa]; rfl
   rw [e1,e2]
   refine ⟨of_eq_true (wt (by decide) (by decide)),trivial,c.fdiv 5,free.eraseIdx k,spots ++ [m],_,rfl,?_,?_,?_,?_⟩
   ·rw [List.length_eraseIdx,if_pos (by omega)]; omega
   ·rw [zLa,l2]; rfl
   ·exact pm.symm.nodup nd
   ·exact λs hs=>lt s (pm.mem_iff.mp hs)
 ·rintro _ ⟨c,free,spots,a,rfl,l1,l2,nd,lt⟩
  rw [xf] at l1 l2
  exact ⟨wv _,h spots l2 (List.nodup_append.mp nd).2.1 λs hs=>lt s (List.mem_append_right _ hs)⟩
def Ow {te:TD} {ρ:DE} {φ:EV->Prop} (h:te ρ λr=>sTupC [r.d] φ):dCB sTupC (j0 te aNil) ρ φ:=h
def lnOf (wide n:Nat) (s:Int):List Nat:=n :: (List.range wide).map λ(j:Nat)=>if s=(j:Int) then 1 else 0
def Pt {wide n p:Nat} {s:Int} (h:p < wide):(lnOf wide n s).getD (p + 1) 0=if s=(p:Int) then 1 else 0:=by
 unfold lnOf
 simp [List.getD,h]
def Wj (wide n:Nat) (s:Int) (x:Nat->Nat):∀ p,p <= wide->xy (lnOf wide n s) p x=(if 0 <= s /\ s < p then x s.toNat else 0) + n
 | 0,_=>by
  rw [if_neg (by omega),Nat.zero_add]
  rfl
 | p + 1,h=>by
  show xy (lnOf wide n s) p x + (lnOf wide n s).getD (p + 1) 0 * x p=_
  rw [Wj wide n s x p (by omega),Pt (by omega)]
  by_cases e:s=(p:Int)
  ·subst e
   rw [if_pos rfl,if_neg (by omega),if_pos (by omega),Int.toNat_natCast]
   omega
  ·rw [if_neg e,Nat.zero_mul,Nat.add_zero]
   by_cases g:0 <= s /\ s < (p:Int)
   ·rw [if_pos g,if_pos (by omega)]
   ·rw [if_neg g,if_neg (by omega)]
def b3 (x:Nat->Nat):∀ p,xy [] p x=0
 | 0=>rfl
 | p + 1=>by
  show xy [] p x + ([]:List Nat).getD (p + 1) 0 * x p=0
  rw [b3 x p]
  simp
def S3 {nums:List Nat} {x:Int} (h:0 <= x):nsD (nk nums) ++ [.int x]=nsD (nk (nums ++ [x.toNat])):=by
 unfold nsD nk
 rw [zMa,zMa]
 simp [Int.toNat_of_nonneg h]
def Fq (wide n:Nat) (s:Int):lnD (lnOf wide n s)=.tup ([.int n] ++ (List.range wide).map λ(j:Nat)=>D.int (if s=(j:Int) then 1 else 0)):=by
 unfold lnD lnOf
 rw [List.map_cons,List.map_map]
 show D.tup (.int n :: _)=D.tup (.int n :: _)
 congr 2
 apply List.map_congr_left
 intro j _
 show D.int ((if s=(j:Int) then 1 else 0:Nat):Int)=_
 split <;> rfl
structure SpO (sp0:List Nat) (wide:Nat) (spots:List Int):Prop where
 ln:spots.length=sp0.length
 nd:sp0.Nodup
 lt:∀ s ∈ sp0,s < wide
 is:∀ (l:Nat) (s:Int),spots[l]?=some s->s = -1 \/ ∃ t:Nat,sp0[l]?=some t /\ s=t
def SpO.zero {sp0:List Nat} {wide:Nat} (nd:sp0.Nodup) (lt:∀ s ∈ sp0,s < wide):SpO sp0 wide (nk sp0) where
 ln:=by unfold nk; rw [zLm]
 nd:=nd
 lt:=lt
 is:=λl s e=>.inr (by
  unfold nk at e
  rw [zai] at e
  obtain ⟨t,h1,h2⟩:=zar.mp e
  exact ⟨t,h1,h2.symm⟩)
def SpO.put {sp0:List Nat} {wide:Nat} {spots:List Int} (h:SpO sp0 wide spots) (k:Nat):SpO sp0 wide (spots.set k (-1)) where
 ln:=by rw [List.length_set]; exact h.ln
 nd:=h.nd
 lt:=h.lt
 is:=λl s e=>by
  rw [List.getElem?_set] at e
  split at e
  ·split at e
   ·exact .inl (Option.some.inj e).symm
   ·cases e
  ·exact h.is l s e
def SpO.sw {sp0:List Nat} {wide:Nat} {spots:List Int} (h:SpO sp0 wide spots):∀ s ∈ spots,s < wide:=λs hs=>by
 obtain ⟨l,e⟩:=List.getElem?_of_mem hs
 rcases h.is l s e with rfl | ⟨t,et,rfl⟩
 ·omega
 ·have:=h.lt t (zan et); omega
def SpO.sd {sp0:List Nat} {wide:Nat} {spots:List Int} (h:SpO sp0 wide spots):∀ (l l':Nat) (s:Int),spots[l]?=some s->spots[l']?=some s->0 <= s->l=l':=λl l' s e e' h0=>by
 rcases h.is l s e with rfl | ⟨t,et,rfl⟩
 ·omega
 rcases h.is l' _ e' with z | ⟨t',et',z⟩
 ·omega
 have:t=t':=by omega
 subst this
 exact (List.getElem?_inj (zag.mp et).1 h.nd).mp (et.trans et'.symm)
structure LI (many wide:Nat) (sp0:List Nat) (i:Nat) (nums:List Nat) (spots:List Int) (lns:List (List Nat)):Prop where
 sp:SpO sp0 wide spots
 nl:nums.length=i
 nb:∀ n ∈ nums,n < 2 ^ 50
 ll:lns.length=i
 le:∀ k,k < i->lns[k]?=some (lnOf wide (nums.getD k 0) (spots.getD k (-1)))
def LI.ok {many wide i:Nat} {sp0 nums:List Nat} {spots:List Int} {lns:List (List Nat)} (h:LI many wide sp0 i nums spots lns):∀ ln ∈ lns,LOk wide ln:=λln hl=>by
 obtain ⟨k,e⟩:=List.getElem?_of_mem hl
 have hk:k < i:=by rw [<- h.ll]; exact (zag.mp e).1
 rw [h.le k hk] at e
 cases e
 refine ⟨by unfold lnOf; simp,λa ha=>?_⟩
 unfold lnOf at ha
 rcases zam.mp ha with rfl | ha
 ·have hk':k < nums.length:=by rw [h.nl]; exact hk
  rw [show nums.getD k 0=nums[k] from by simp [List.getD,hk']]
  exact h.nb _ (List.getElem_mem hk')
 ·obtain ⟨j,_,rfl⟩:=zah.mp ha
  split <;> decide
def LI.yv {many wide:Nat} {sp0 nums:List Nat} {spots:List Int} {lns:List (List Nat)} (h:LI many wide sp0 many nums spots lns) (hm:sp0.length=many) (x:Nat->Nat):Yv lns wide x=Yn nums spots x:=by
 funext k
 unfold Yv Yn
 by_cases hk:k < many
 ·rw [show lns.getD k []=lnOf wide (nums.getD k 0) (spots.getD k (-1)) from by simp [List.getD,h.le k hk],Wj _ _ _ _ _ (zaj _)]
  have hk':k < spots.length:=by rw [h.sp.ln,hm]; exact hk
  have:spots.getD k (-1) < wide:=by
   rw [show spots.getD k (-1)=spots[k] from by simp [List.getD,hk']]
   exact h.sp.sw _ (List.getElem_mem hk')
  by_cases g:0 <= spots.getD k (-1)
  ·rw [if_pos g,if_pos ⟨g,this⟩]
  ·rw [if_neg g,if_neg (λz=>g z.1)]
 ·rw [show lns.getD k []=[] from by simp [List.getD,show lns.length <= k by rw [h.ll]; omega],b3,show nums.getD k 0=0 from by simp [List.getD,show nums.length <= k by rw [h.nl]; omega],
   show spots.getD k (-1) = -1 from by simp [List.getD,show spots.length <= k by rw [h.sp.ln,hm]; omega],if_neg (by decide)]
def Fh (T:Tops mg) (Bp:FD P w K mg base 5 "laid" ["one", "lines", "many"] L4) (C3:FD P w K mg base 1 "_law_cell_at" ["_law_script", "_law_k"] Xu) (Bc:FD P w K mg base 4 "_law_sum" ["_law_cells", "_law_many"] tSum) (Cs:FD P w K mg base 1 "_law_spots" ["_law_cell", "_law_many", "_law_wide"] Nb) (Be:FD P w K mg base 3 "_law_due" ["_law_parts", "_law_many", "_law_numbers", "_law_spots_here", "_law_wide"] tDue) (C8:FD P w K mg base 2 "_law_alike" ["_law_found", "_law_due_here"] Ui) (F:Fun K "law" "law" (top 37) f fd):FnOk P w K mg base CX0 20 f fd ["_law_script"] (spD K 1 lawT):=by
 have S:zw ["_law_script", "_law_many", "_law_wide", "_law_parts", "_law_spots_here", "_law_numbers", "_law_lines", "_law_k", "_law_cell", "_law_due_here"] ["_law_script"] (za (top 37)):=⟨rfl,rfl,rfl,by decide +kernel,rfl,by decide +kernel,by decide +kernel⟩
 refine M0 F S λqZ A outer s H E ds φ hr hl hT=>?_
 have hu:=hr.units
 refine ⟨_,(zf (y3 (zu 1 S.nd (x8 (zm C3 (hr.mono (by decide)) (z9 (z0 0) (z9 zc zd))) zc)))
   (zf (y3 (zu 2 S.nd (y8 (z0 1) (x8 (vq (zm C3 (hr.mono (by decide)) (z9 (z0 0) (z9 zc zd))) zc) zc))))
   (zf (y3 (zu 3 S.nd (zm Bc (hr.mono (by decide)) (z9 (On (z0 0) (vp zc) (vp zc)) (z9 (z0 1) zd)))))
   (zf (y3 (zu 4 S.nd (zm Cs (hr.mono (by decide)) (z9 (vq (zm C3 (hr.mono (by decide)) (z9 (z0 0) (z9 zc zd))) zc) (z9 (z0 1) (z9 (z0 2) zd))))))
   (zf (y3 (zu 5 S.nd (xc zd)))
   (zf (y3 (zu 6 S.nd (xc zd)))
   (zf (y3 (yn (y7 T.range (z9 (z0 1) zd)) (zj (i:=7) S.nd rfl (by walk_at "o")) (yc 7) (zf (y3 (zu 8 S.nd (y8 (zm C3 (hr.mono (by decide)) (z9 (z0 0) (z9 (y8 zc (z0 7)) zd))) (yq (zm C3 (hr.mono (by decide)) (z9 (z0 0) (z9 zc zd))) (y8 (z0 7) zc)))))
    (zf (y3 (u4 5 (zx hu (xc (z9 (x8 (vq (z0 8) zc) zc) (z9 (x8 (vq (z0 8) zc) (Ri zc zc)) zd))) (vq (x8 (z0 8) zc) zc))))
    (zf (y3 (vh (Ol hu (x8 (y8 (zm C3 (hr.mono (by decide)) (z9 (z0 0) (z9 (y8 zc (z0 7)) zd))) (z0 7)) zc) zc) (zk (Y6 4 hu (z0 7) (Rj zc))) xp))
    (zk (u4 6 (xb T.tuple (z9 (y8 (xc (z9 (zx hu (z0 5) (z0 7)) zd)) (xh (T:=["_law_j"]) (F:=["_law_spots_here", "_law_k"]) (js:=[4,7]) (y7 T.range (z9 (z0 2) zd)) (show zt (za (top 37)) _ ["_law_j"] ["_law_spots_here", "_law_k"] from ⟨rfl,by decide +kernel,by decide +kernel,by decide +kernel,by decide +kernel,by decide +kernel⟩) (.cons rfl (.cons rfl .nil)) (by decide) (λcl C fp s H=>(zj (i:=0) (show ((["_law_j"]:List Str) ++ (["_law_spots_here", "_law_k"]:List Str)).Nodup by decide +kernel) rfl (by walk_at "o"))) (yh (by decide)) (yc 0) (λcl C fp s H=>xg) (λcl C fp s H=>(Jg T.int (z9 (Du hu (zx hu (z0 1) (z0 2)) (z0 0)) zd))))) zd)))))))))
   (zf (y3 (zu 9 S.nd (zm Be (hr.mono (by decide)) (z9 (z0 3) (z9 (z0 1) (z9 (z0 5) (z9 (z0 4) (z9 (z0 2) zd))))))))
   (zf (vh (Ol hu (x8 (zm C3 (hr.mono (by decide)) (z9 (z0 0) (z9 zc zd))) zc) zc) (zk (y0 (zm C8 (hr.mono (by decide)) (z9 (zm Bp (hr.mono (by decide)) (z9 (z0 3) (z9 (z0 6) (z9 (z0 2) zd)))) (z9 (z0 9) zd))))) xp)
   (zk (y0 (zm C8 (hr.mono (by decide)) (z9 (zm Bp (hr.mono (by decide)) (z9 (z0 3) (z9 (xb T.tuple (z9 (z0 6) zd)) (z9 (z0 2) zd)))) (z9 (z0 9) zd)))))))))))))),?_⟩
 obtain ⟨ns,rfl,hns,h⟩:=hT
 refine zy (λρ=>∃ many:Nat,many <= 3 /\ ρ=[some (dv (.scr ns)),some (dv (.int many)),none,none,none,none,none,none,none,none]) ?_ ?_
 ·walk_at "dl"
  refine ⟨by decide,λc=>?_⟩
  have m:=xv c 4 (by decide)
  exact ⟨by decide,(c.fmod 4).toNat,by omega,by rw [Int.toNat_of_nonneg (by omega)]⟩
 rintro _ ⟨many,m3,rfl⟩
 refine zy (λρ=>∃ wide:Nat,many <= wide /\ wide <= 5 /\ ρ=[some (dv (.scr ns)),some (dv (.int many)),some (dv (.int wide)),none,none,none,none,none,none,none]) ?_ ?_
 ·walk_at "dl"
  refine ⟨by decide,λc=>?_⟩
  have m:=xv (c.fdiv 4) 3 (by decide)
  refine ⟨of_eq_true (wt (by decide) (by decide)),many + ((c.fdiv 4).fmod 3).toNat,by omega,by omega,?_⟩
  rw [Int.natCast_add,Int.toNat_of_nonneg (by omega)]
 rintro _ ⟨wide,mw,w5,rfl⟩
 refine zy (λρ=>∃ ps:List Part,ps.length <= 10 /\ (∀ p ∈ ps,PO many p) /\ (ps.map Prod.fst).Pairwise Lt /\ ρ=[some (dv (.scr ns)),some (dv (.int many)),some (dv (.int wide)),some (dv (.tup (ps.map zn))),none,none,none,none,none,none]) ?_ ?_
 ·have ecs:cutD (ns.map D.int) (some 2) (some 22)=nsD ((ns.drop 2).take 20):=by
   rw [show cutD (ns.map D.int) (some 2) (some 22)=((ns.map D.int).drop 2).take (22 - 2) from Oy _ 2 22]
   unfold nsD
   rw [List.map_take,List.map_drop]
  walk_at "dl"
  rw [ecs]
  simp only [tSum,g2]
  exact ⟨_,many,rfl,rfl,by rw [List.length_take]; omega,m3,λps h1 h2 h3=>⟨trivial,ps,h1,h2,h3,rfl⟩⟩
 rintro _ ⟨ps,pl,po,pw,rfl⟩
 refine zy (λρ=>∃ sp0:List Nat,sp0.length=many /\ sp0.Nodup /\ (∀ s ∈ sp0,s < wide) /\ ρ=[some (dv (.scr ns)),some (dv (.int many)),some (dv (.int wide)),some (dv (.tup (ps.map zn))),some (dO (.lst (nsD (nk sp0)))),none,none,none,none,none]) ?_ ?_
 ·walk_at "dl"
  exact (show (0:Int) <= 0 /\ ∀ c:Int,_ from ⟨Int.le_refl _,λc=>⟨of_eq_true (wt (by decide) (by decide)),c.fdiv 12,many,wide,rfl,mw,w5,λspots a b d=>⟨trivial,spots,a,b,d,rfl⟩⟩⟩)
 rintro _ ⟨sp0,sl,snd,slt,rfl⟩
 refine zy (λρ=>ρ=[some (dv (.scr ns)),some (dv (.int many)),some (dv (.int wide)),some (dv (.tup (ps.map zn))),some (dO (.lst (nsD (nk sp0)))),some (dO (.lst (nsD (nk [])))),none,none,none,none]) ?_ ?_
 ·walk_at "dl"
  rfl
 rintro _ rfl
 refine zy (λρ=>ρ=[some (dv (.scr ns)),some (dv (.int many)),some (dv (.int wide)),some (dv (.tup (ps.map zn))),some (dO (.lst (nsD (nk sp0)))),some (dO (.lst (nsD (nk [])))),some (dO (.lst (([]:List (List Nat)).map lnD))),none,none,none]) ?_ ?_
 ·walk_at "dl"
 rintro _ rfl
 refine zy (λρ=>∃ (nums:List Nat) (spots:List Int) (lns:List (List Nat)) (a b:Option EV),LI many wide sp0 many nums spots lns /\ ρ=[some (dv (.scr ns)),some (dv (.int many)),some (dv (.int wide)),some (dv (.tup (ps.map zn))),some (dO (.lst (nsD spots))),some (dO (.lst (nsD (nk nums)))),some (dO (.lst (lns.map lnD))),a,b,none]) ?_ ?_
 ·refine ye (rngD 0 many) (λψ hψ=>⟨by omega,by omega,hψ⟩) (λi ρ=>∃ (nums:List Nat) (spots:List Int) (lns:List (List Nat)) (a b:Option EV),LI many wide sp0 i nums spots lns /\ ρ=[some (dv (.scr ns)),some (dv (.int many)),some (dv (.int wide)),some (dv (.tup (ps.map zn))),some (dO (.lst (nsD spots))),some (dO (.lst (nsD (nk nums)))),some (dO (.lst (lns.map lnD))),a,b,none])
   ⟨[],nk sp0,[],none,none,⟨SpO.zero snd slt,rfl,(λ_ z=>nomatch z),rfl,λ_ z=>absurd z (by omega)⟩,rfl⟩ ?_ ?_
  ·rintro i d _ hd ⟨nums,spots,lns,a,b,J,rfl⟩
   obtain ⟨hi,rfl⟩:=x9 hd
   rw [Int.zero_add]
   refine Ky ?_
   refine (show sSeq _ _ [some (dv (.scr ns)),some (dv (.int many)),some (dv (.int wide)),some (dv (.tup (ps.map zn))),some (dO (.lst (nsD spots))),some (dO (.lst (nsD (nk nums)))),some (dO (.lst (lns.map lnD))),some (dv (.int i)),b,none] _ from ?_)
   refine zy (λρ=>∃ c:Int,ρ=[some (dv (.scr ns)),some (dv (.int many)),some (dv (.int wide)),some (dv (.tup (ps.map zn))),some (dO (.lst (nsD spots))),some (dO (.lst (nsD (nk nums)))),some (dO (.lst (lns.map lnD))),some (dv (.int i)),some (dv (.int c)),none]) ?_ ?_
   ·walk_at "dl"
    exact (show (0:Int) <= 22 + i /\ ∀ a:Int,(0:Int) <= 1 /\ ∀ b:Int,_ from ⟨by omega,λa=>⟨by decide,λb=>⟨IntMulOk.of_right (uo (by omega)),_,rfl⟩⟩⟩)
   rintro _ ⟨c,rfl⟩
   refine zy (λρ=>∃ n:Nat,n < 2 ^ 50 /\ ρ=[some (dv (.scr ns)),some (dv (.int many)),some (dv (.int wide)),some (dv (.tup (ps.map zn))),some (dO (.lst (nsD spots))),some (dO (.lst (nsD (nk (nums ++ [n]))))),some (dO (.lst (lns.map lnD))),some (dv (.int i)),some (dv (.int c)),none]) ?_ ?_
   ·have lz:(nsD (nk nums)).length <= 100000:=by unfold nsD nk; rw [zLm,zLm,J.nl]; omega
    have m4:=xv c 4 (by decide)
    have e:(c.fmod 4).fdiv 3=0 \/ (c.fmod 4).fdiv 3=1:=by
     have q:c.fmod 4=0 \/ c.fmod 4=1 \/ c.fmod 4=2 \/ c.fmod 4=3:=by omega
     rcases q with z | z | z | z <;> rw [z] <;> decide
    have n1:=xv (c.fdiv 4) 4 (by decide)
    have n2:=xv (c.fdiv 4) (10 ^ 15) (by decide)
    walk_at "dl"
    refine ⟨of_eq_true (wt (by decide) (by decide)),of_eq_true (wt (by decide) (by decide)),of_eq_true (wt (by decide) (by decide)),?_⟩
    rcases e with e | e
    ·rw [e]
     exact (show (nsD (nk nums)).length <= 100000 /\ _ from ⟨lz,((c.fdiv 4).fmod 4).toNat,by omega,by rw [<- S3 n1.1]⟩)
    ·rw [e]
     exact (show (nsD (nk nums)).length <= 100000 /\ _ from ⟨lz,((c.fdiv 4).fmod (10 ^ 15)).toNat,by omega,by rw [<- S3 n2.1]⟩)
   rintro _ ⟨n,hn,rfl⟩
   refine zy (λρ=>∃ s2:List Int,SpO sp0 wide s2 /\ (∀ k,k < i->s2.getD k (-1)=spots.getD k (-1)) /\ ρ=[some (dv (.scr ns)),some (dv (.int many)),some (dv (.int wide)),some (dv (.tup (ps.map zn))),some (dO (.lst (nsD s2))),some (dO (.lst (nsD (nk (nums ++ [n]))))),some (dO (.lst (lns.map lnD))),some (dv (.int i)),some (dv (.int c)),none]) ?_ ?_
   ·have ex:ixN (nsD spots).length (i:Int)=some i:=by
     have:(nsD spots).length=many:=by unfold nsD; rw [zLm,J.sp.ln,sl]
     rw [this]
     unfold ixN
     rw [if_pos (by omega),if_pos (by omega),Int.toNat_natCast]
    walk_at "dl"
    refine (show (0:Int) <= 25 + i /\ ∀ a:Int,_ from ⟨by omega,λa=>⟨λ_=>?_,λ_=>⟨spots,J.sp,λ_ _=>rfl,rfl⟩⟩⟩)
    rw [ex]
    refine ⟨spots.set i (-1),J.sp.put i,λk hk=>?_,?_⟩
    ·simp only [List.getD]
     rw [List.getElem?_set_ne (by omega)]
    ·rw [show (nsD spots).set i (D.int (-1))=nsD (spots.set i (-1)) from by unfold nsD; rw [List.map_set]]
   rintro _ ⟨s2,O2,e2,rfl⟩
   have i2:i < s2.length:=by rw [O2.ln,sl]; exact hi
   have ei:atI (nsD s2) (i:Int)=some (.int (s2.getD i (-1))):=by
    rw [atN (by unfold nsD; rw [zLm]; exact i2)]
    unfold nsD
    rw [zai,zaf i2]
    simp [List.getD,i2]
   have en:atI (nsD (nk (nums ++ [n]))) (i:Int)=some (.int n):=by
    rw [atN (by unfold nsD nk; simp [J.nl])]
    unfold nsD nk
    simp [J.nl]
   refine Y8 (ds:=lns.map lnD) rfl (Ow (d0 (x:=df (.lst [.int n])) (y:=df (.lst ((List.range wide).map λ(j:Nat)=>D.int (if s2.getD i (-1)=(j:Int) then 1 else 0)))) (λψ hψ=>?_) (λψ hψ=>?_) ?_))
   ·walk_at "dl"
    rw [en]
    exact hψ
   ·refine wf 0 wide (λψ hψ=>⟨by omega,by omega,hψ⟩) _ (by omega) (λj hj=>?_) hψ
    simp only [ρ0,List.map_cons,List.map_nil,List.replicate,List.cons_append,List.nil_append,zLc,zLn]
    walk_at "dl"
    rw [ei]
    refine (show okD 40 (.int (s2.getD i (-1))) /\ _ from ⟨by simp [okD],?_⟩)
    simp only [fw,beq_iff_eq]
   ·refine ⟨by rw [zLm,List.length_range,sizeLine_eq]; show 1 + wide <= _; omega,?_⟩
    refine ⟨trivial,by rw [zLm,J.ll]; omega,nums ++ [n],s2,lns ++ [lnOf wide n (s2.getD i (-1))],some (dv (.int i)),some (dv (.int c)),⟨O2,by rw [zLa,J.nl]; rfl,λa ha=>?_,by rw [zLa,J.ll]; rfl,λk hk=>?_⟩,?_⟩
    ·rcases zas.mp ha with ha | ha
     ·exact J.nb a ha
     ·rw [List.mem_singleton.mp ha]; exact hn
    ·by_cases z:k < i
     ·rw [List.getElem?_append_left (by rw [J.ll]; exact z),J.le k z,e2 k z,show (nums ++ [n]).getD k 0=nums.getD k 0 from by simp [List.getD,List.getElem?_append_left (show k < nums.length by rw [J.nl]; exact z)]]
     ·have:k=i:=by omega
      subst this
      rw [List.getElem?_append_right (by rw [J.ll]; exact zaj _),J.ll,Nat.sub_self,show (nums ++ [n]).getD k 0=n from by simp [List.getD,List.getElem?_append_right (show nums.length <= k by rw [J.nl]; exact zaj _),J.nl]]
      rfl
    ·rw [zMa,show [lnOf wide n (s2.getD i (-1))].map lnD=[lnD (lnOf wide n (s2.getD i (-1)))] from rfl,Fq]
     rfl
  ·rintro _ ⟨nums,spots,lns,a,b,J,rfl⟩
   rw [xf] at J
   exact ⟨nums,spots,lns,a,b,J,rfl⟩
 rintro _ ⟨nums,spots,lns,a7,a8,J,rfl⟩
 have DI:Zx ps many wide nums spots:=⟨m3,w5,pl,po,Wh pw,J.nl,J.nb,by rw [J.sp.ln,sl],J.sp.sw,J.sp.sd⟩
 refine zy (λρ=>∃ (rows:List PK) (L:List (List Int)),RI ps many wide nums spots many rows /\ Cn (qsOf rows) L /\ ρ=[some (dv (.scr ns)),some (dv (.int many)),some (dv (.int wide)),some (dv (.tup (ps.map zn))),some (dO (.lst (nsD spots))),some (dO (.lst (nsD (nk nums)))),some (dO (.lst (lns.map lnD))),a7,a8,some (dv (.tup ((cp (qsOf rows) L).map zn)))]) ?_ ?_
 ·refine yw [dv (.tup (ps.map zn)),dv (.int many),dO (.lst (nsD (nk nums))),dO (.lst (nsD spots)),dv (.int wide)] (λψ hψ=>hψ) rfl ⟨ps,many,wide,nums,spots,rfl,DI,λrows L R cn=>⟨trivial,rows,L,R,cn,rfl⟩⟩
 rintro _ ⟨rows,L,R,cn,rfl⟩
 have I1:LIn ps lns wide 103 31:=⟨w5,by rw [J.ll]; omega,J.ok,by omega,λp hp=>by rw [J.ll]; exact (po p hp).ko,λp hp=>⟨(po p hp).gr.1,(po p hp).gr.2.2.1,(po p hp).gr.2.2.2⟩,by decide,by omega,by omega,by decide⟩
 have fin:∀ lz:D,SeqL lz lns->∀ Φ:EV->Prop,Φ (dv (.bl true))->L4 [.tup (ps.map zn),lz,.int wide] λr=>Ui [r.d,.tup ((cp (qsOf rows) L).map zn)] Φ:=λlz sq Φ hΦ=>by
  refine ⟨ps,lz,lns,wide,103,31,rfl,sq,I1,λqs M o=>?_⟩
  have kin:∀ k ∈ M,KOk wide 3 wide k:=λk hk=>by
   have:=(o.cn.mem k).mp hk
   apply Classical.byContradiction
   intro y
   exact this (xk λp hp e=>y (e ▸ o.key p hp))
  have e:cp qs M=cp (qsOf rows) L:=o.cn.same cn (J4 (many:=wide) (λq hq=>⟨(o.key q hq).1,(o.key q hq).2.1⟩) (λq hq=>⟨(R.kq DI q hq).1,(R.kq DI q hq).2.1⟩) λx=>by
   rw [o.ev x,J.yv sl x,<- R.ev x]
   exact (Ee x _ rows λr hr=>by rw [(R.ko DI hr).1]; exact zaj _).symm)
  refine ⟨cp qs M,by rw [<- e],?_,λp hp=>?_,hΦ⟩
  ·unfold cp
   rw [zLm]
   exact zak (qp w5 (zaj 3) (Wh o.cn.ord) kin) (by decide)
  ·obtain ⟨k,hk,rfl⟩:=zah.mp hp
   rw [show ((k,lo (tot qs k)):Part).1=k from rfl,(kin k hk).1]
   exact w5
 walk_at "dl"
 exact (show (0:Int) <= 28 /\ ∀ c:Int,_ from ⟨by decide,λc=>⟨by decide,λ_=>fin _ (.inl rfl) _ ⟨trivial,h⟩,λ_=>fin _ (.inr rfl) _ ⟨trivial,h⟩⟩⟩)
end
section
open PySem.W PySem.PyData
def hl1:LeftO PySem.Challenge.pw_toll_k37_sizes_put_on zq [] zX (Hook.obs (kHook zKK zA zAK)) (Hook.val (kHook zKK zA zAK)) 2822:=by
 intro w; rw [Fast.te4187177175401517315,Fast.te5923862056798008813,Fast.te14364793385576792824]; exact hl0 w
def said:PySem.Challenge.rw_toll_k37_sizes_put_on.wellSaid=true:=by kernel_rfl
def zD:DefRec:=match top 37 with | .FunctionDef n a b _ _ _ c _ _ p=>⟨n,a,b,c,p⟩ | _=>⟨"", ⟨[],[],none,[],[],none,[]⟩,[],⟨.function,[],false,false,[]⟩,⟨0,0,0,0⟩⟩
def opened (hc:WalkO zq [] (XL zq []) (Hook.says (kHook zKK zA zAK)) PySem.Challenge.rw_toll_k37_sizes_put_on.row.toRowW zD [] (λf vs=>PySem.call f vs)):PySem.Challenge.rw_toll_k37_sizes_put_on.Holds:=by
 refine holds_law said λsd=>holds_open (q:=zq) (loose:=[]) (Xt:=zX) (XP:=XL zq []) (d:=zD) (kwd:=[]) (Yf:=Hook.obs (kHook zKK zA zAK)) (Ya:=Hook.val (kHook zKK zA zAK)) (YP:=Hook.says (kHook zKK zA zAK)) (N:=2822) hl1 (Hook.of (kHook zKK zA zAK)) (Hook.keeps (kHook zKK zA zAK)) (λs e=>xl_of s (Bool.and_eq_true_iff.mp e).1) XL.keeps (by kernel_rfl) (by kernel_rfl) (by kernel_rfl) (λs e=>recFacts_of (Bool.and_eq_true_iff.mp e).2) (by kernel_rfl) sd (by kernel_rfl) ⟨rfl,rfl,rfl,rfl,rfl,by decide +kernel⟩ ?hw hc
 case hw=>w_witness2
end
section
variable {P:Program} {w:World} {K:W.Frag} {mg:Str->Option Value} {base:Heap} {f:Addr} {fd:FuncData}
def all_mk {l:W.OpenLaw} {w:World} {K:W.Frag} {h:Heap} {mg:Str->Option Value} {fa:Addr} (X:K.In h) (G:h.Ns mainGlobals mg) (hfa:mg "law" = some (.ref fa)) {f1:Addr} {od1 an1:Option Addr} {sl1:Array (Option Value)} {oc1 kV1 dc1 pm1 cd1 ct1:Value} {f2:Addr} {od2 an2:Option Addr} {sl2:Array (Option Value)} {oc2 kV2 dc2 pm2 cd2 ct2:Value} {f3:Addr} {od3 an3:Option Addr} {sl3:Array (Option Value)} {oc3 kV3 dc3 pm3 cd3 ct3:Value} {f4:Addr} {od4 an4:Option Addr} {sl4:Array (Option Value)} {oc4 kV4 dc4 pm4 cd4 ct4:Value} {f5:Addr} {od5 an5:Option Addr} {sl5:Array (Option Value)} {oc5 kV5 dc5 pm5 cd5 ct5:Value} {f6:Addr} {od6 an6:Option Addr} {sl6:Array (Option Value)} {oc6 kV6 dc6 pm6 cd6 ct6:Value} {f7:Addr} {od7 an7:Option Addr} {sl7:Array (Option Value)} {oc7 kV7 dc7 pm7 cd7 ct7:Value} {f8:Addr} {od8 an8:Option Addr} {sl8:Array (Option Value)} {oc8 kV8 dc8 pm8 cd8 ct8:Value} {f9:Addr} {od9 an9:Option Addr} {sl9:Array (Option Value)} {oc9 kV9 dc9 pm9 cd9 ct9:Value} {f10:Addr} {od10 an10:Option Addr} {sl10:Array (Option Value)} {oc10 kV10 dc10 pm10 cd10 ct10:Value} {f11:Addr} {od11 an11:Option Addr} {sl11:Array (Option Value)} {oc11 kV11 dc11 pm11 cd11 ct11:Value} {f12:Addr} {od12 an12:Option Addr} {sl12:Array (Option Value)} {oc12 kV12 dc12 pm12 cd12 ct12:Value} {f13:Addr} {od13 an13:Option Addr} {sl13:Array (Option Value)} {oc13 kV13 dc13 pm13 cd13 ct13:Value} {f14:Addr} {od14 an14:Option Addr} {sl14:Array (Option Value)} {oc14 kV14 dc14 pm14 cd14 ct14:Value} {f15:Addr} {od15 an15:Option Addr} {sl15:Array (Option Value)} {oc15 kV15 dc15 pm15 cd15 ct15:Value} {f16:Addr} {od16 an16:Option Addr} {sl16:Array (Option Value)} {oc16 kV16 dc16 pm16 cd16 ct16:Value} {f17:Addr} {od17 an17:Option Addr} {sl17:Array (Option Value)} {oc17 kV17 dc17 pm17 cd17 ct17:Value} {f18:Addr} {od18 an18:Option Addr} {sl18:Array (Option Value)} {oc18 kV18 dc18 pm18 cd18 ct18:Value} {f19:Addr} {od19 an19:Option Addr} {sl19:Array (Option Value)} {oc19 kV19 dc19 pm19 cd19 ct19:Value} {f20:Addr} {od20 an20:Option Addr} {sl20:Array (Option Value)} {oc20 kV20 dc20 pm20 cd20 ct20:Value} {f21:Addr} {od21 an21:Option Addr} {sl21:Array (Option Value)} {oc21 kV21 dc21 pm21 cd21 ct21:Value} {f22:Addr} {od22 an22:Option Addr} {sl22:Array (Option Value)} {oc22 kV22 dc22 pm22 cd22 ct22:Value} {f23:Addr} {od23 an23:Option Addr} {sl23:Array (Option Value)} {oc23 kV23 dc23 pm23 cd23 ct23:Value} {f24:Addr} {od24 an24:Option Addr} {sl24:Array (Option Value)} {oc24 kV24 dc24 pm24 cd24 ct24:Value} {f25:Addr} {od25 an25:Option Addr} {sl25:Array (Option Value)} {oc25 kV25 dc25 pm25 cd25 ct25:Value} {f26:Addr} {od26 an26:Option Addr} {sl26:Array (Option Value)} {oc26 kV26 dc26 pm26 cd26 ct26:Value} {f27:Addr} {od27 an27:Option Addr} {sl27:Array (Option Value)} {oc27 kV27 dc27 pm27 cd27 ct27:Value} {f28:Addr} {od28 an28:Option Addr} {sl28:Array (Option Value)} {oc28 kV28 dc28 pm28 cd28 ct28:Value} {f29:Addr} {od29 an29:Option Addr} {sl29:Array (Option Value)} {oc29 kV29 dc29 pm29 cd29 ct29:Value} {f30:Addr} {od30 an30:Option Addr} {sl30:Array (Option Value)} {oc30 kV30 dc30 pm30 cd30 ct30:Value} {f31:Addr} {od31 an31:Option Addr} {sl31:Array (Option Value)} {oc31 kV31 dc31 pm31 cd31 ct31:Value}
  (a1:W.nsIn K mainGlobals "is_whole" = some (some (.ref f1))) (l1:K.lookup f1=some ⟨oc1,od1,.func (W.fnOf "is_whole" "is_whole" (zv (top 4)) (zp (top 4)) (za (top 4)) .none kV1 dc1 pm1 an1 cd1 ct1),sl1⟩) (c1:W.codeIn K cd1 "is_whole" = true) (k1:W.keepIn K (.ref f1)=true)
  (a2:W.nsIn K mainGlobals "common" = some (some (.ref f2))) (l2:K.lookup f2=some ⟨oc2,od2,.func (W.fnOf "common" "common" (zv (top 7)) (zp (top 7)) (za (top 7)) .none kV2 dc2 pm2 an2 cd2 ct2),sl2⟩) (c2:W.codeIn K cd2 "common" = true) (k2:W.keepIn K (.ref f2)=true)
  (a3:W.nsIn K mainGlobals "ratio" = some (some (.ref f3))) (l3:K.lookup f3=some ⟨oc3,od3,.func (W.fnOf "ratio" "ratio" (zv (top 6)) (zp (top 6)) (za (top 6)) .none kV3 dc3 pm3 an3 cd3 ct3),sl3⟩) (c3:W.codeIn K cd3 "ratio" = true) (k3:W.keepIn K (.ref f3)=true)
  (a4:W.nsIn K mainGlobals "plus" = some (some (.ref f4))) (l4:K.lookup f4=some ⟨oc4,od4,.func (W.fnOf "plus" "plus" (zv (top 8)) (zp (top 8)) (za (top 8)) .none kV4 dc4 pm4 an4 cd4 ct4),sl4⟩) (c4:W.codeIn K cd4 "plus" = true) (k4:W.keepIn K (.ref f4)=true)
  (a5:W.nsIn K mainGlobals "times" = some (some (.ref f5))) (l5:K.lookup f5=some ⟨oc5,od5,.func (W.fnOf "times" "times" (zv (top 9)) (zp (top 9)) (za (top 9)) .none kV5 dc5 pm5 an5 cd5 ct5),sl5⟩) (c5:W.codeIn K cd5 "times" = true) (k5:W.keepIn K (.ref f5)=true)
  (a6:W.nsIn K mainGlobals "gathered" = some (some (.ref f6))) (l6:K.lookup f6=some ⟨oc6,od6,.func (W.fnOf "gathered" "gathered" (zv (top 12)) (zp (top 12)) (za (top 12)) .none kV6 dc6 pm6 an6 cd6 ct6),sl6⟩) (c6:W.codeIn K cd6 "gathered" = true) (k6:W.keepIn K (.ref f6)=true)
  (a7:W.nsIn K mainGlobals "choices" = some (some (.ref f7))) (l7:K.lookup f7=some ⟨oc7,od7,.func (W.fnOf "choices" "choices" (zv (top 11)) (zp (top 11)) (za (top 11)) .none kV7 dc7 pm7 an7 cd7 ct7),sl7⟩) (c7:W.codeIn K cd7 "choices" = true) (k7:W.keepIn K (.ref f7)=true)
  (a8:W.nsIn K mainGlobals "taken_of_both" = some (some (.ref f8))) (l8:K.lookup f8=some ⟨oc8,od8,.func (W.fnOf "taken_of_both" "taken_of_both" (zv (top 19)) (zp (top 19)) (za (top 19)) .none kV8 dc8 pm8 an8 cd8 ct8),sl8⟩) (c8:W.codeIn K cd8 "taken_of_both" = true) (k8:W.keepIn K (.ref f8)=true)
  (a9:W.nsIn K mainGlobals "heaps_of" = some (some (.ref f9))) (l9:K.lookup f9=some ⟨oc9,od9,.func (W.fnOf "heaps_of" "heaps_of" (zv (top 18)) (zp (top 18)) (za (top 18)) .none kV9 dc9 pm9 an9 cd9 ct9),sl9⟩) (c9:W.codeIn K cd9 "heaps_of" = true) (k9:W.keepIn K (.ref f9)=true)
  (a10:W.nsIn K mainGlobals "count_in" = some (some (.ref f10))) (l10:K.lookup f10=some ⟨oc10,od10,.func (W.fnOf "count_in" "count_in" (zv (top 21)) (zp (top 21)) (za (top 21)) .none kV10 dc10 pm10 an10 cd10 ct10),sl10⟩) (c10:W.codeIn K cd10 "count_in" = true) (k10:W.keepIn K (.ref f10)=true)
  (a11:W.nsIn K mainGlobals "grown" = some (some (.ref f11))) (l11:K.lookup f11=some ⟨oc11,od11,.func (W.fnOf "grown" "grown" (zv (top 20)) (zp (top 20)) (za (top 20)) .none kV11 dc11 pm11 an11 cd11 ct11),sl11⟩) (c11:W.codeIn K cd11 "grown" = true) (k11:W.keepIn K (.ref f11)=true)
  (a12:W.nsIn K mainGlobals "without_noughts" = some (some (.ref f12))) (l12:K.lookup f12=some ⟨oc12,od12,.func (W.fnOf "without_noughts" "without_noughts" (zv (top 17)) (zp (top 17)) (za (top 17)) .none kV12 dc12 pm12 an12 cd12 ct12),sl12⟩) (c12:W.codeIn K cd12 "without_noughts" = true) (k12:W.keepIn K (.ref f12)=true)
  (a13:W.nsIn K mainGlobals "spread_of" = some (some (.ref f13))) (l13:K.lookup f13=some ⟨oc13,od13,.func (W.fnOf "spread_of" "spread_of" (zv (top 16)) (zp (top 16)) (za (top 16)) .none kV13 dc13 pm13 an13 cd13 ct13),sl13⟩) (c13:W.codeIn K cd13 "spread_of" = true) (k13:W.keepIn K (.ref f13)=true)
  (a14:W.nsIn K mainGlobals "meetings" = some (some (.ref f14))) (l14:K.lookup f14=some ⟨oc14,od14,.func (W.fnOf "meetings" "meetings" (zv (top 23)) (zp (top 23)) (za (top 23)) .none kV14 dc14 pm14 an14 cd14 ct14),sl14⟩) (c14:W.codeIn K cd14 "meetings" = true) (k14:W.keepIn K (.ref f14)=true)
  (a15:W.nsIn K mainGlobals "multiplied" = some (some (.ref f15))) (l15:K.lookup f15=some ⟨oc15,od15,.func (W.fnOf "multiplied" "multiplied" (zv (top 22)) (zp (top 22)) (za (top 22)) .none kV15 dc15 pm15 an15 cd15 ct15),sl15⟩) (c15:W.codeIn K cd15 "multiplied" = true) (k15:W.keepIn K (.ref f15)=true)
  (a16:W.nsIn K mainGlobals "spreads_of" = some (some (.ref f16))) (l16:K.lookup f16=some ⟨oc16,od16,.func (W.fnOf "spreads_of" "spreads_of" (zv (top 15)) (zp (top 15)) (za (top 15)) .none kV16 dc16 pm16 an16 cd16 ct16),sl16⟩) (c16:W.codeIn K cd16 "spreads_of" = true) (k16:W.keepIn K (.ref f16)=true)
  (a17:W.nsIn K mainGlobals "product_at" = some (some (.ref f17))) (l17:K.lookup f17=some ⟨oc17,od17,.func (W.fnOf "product_at" "product_at" (zv (top 14)) (zp (top 14)) (za (top 14)) .none kV17 dc17 pm17 an17 cd17 ct17),sl17⟩) (c17:W.codeIn K cd17 "product_at" = true) (k17:W.keepIn K (.ref f17)=true)
  (a18:W.nsIn K mainGlobals "laid" = some (some (.ref f18))) (l18:K.lookup f18=some ⟨oc18,od18,.func (W.fnOf "laid" "laid" (zv (top 13)) (zp (top 13)) (za (top 13)) .none kV18 dc18 pm18 an18 cd18 ct18),sl18⟩) (c18:W.codeIn K cd18 "laid" = true) (k18:W.keepIn K (.ref f18)=true)
  (a19:W.nsIn K mainGlobals "_law_cell_at" = some (some (.ref f19))) (l19:K.lookup f19=some ⟨oc19,od19,.func (W.fnOf "_law_cell_at" "_law_cell_at" (zv (top 25)) (zp (top 25)) (za (top 25)) .none kV19 dc19 pm19 an19 cd19 ct19),sl19⟩) (c19:W.codeIn K cd19 "_law_cell_at" = true) (k19:W.keepIn K (.ref f19)=true)
  (a20:W.nsIn K mainGlobals "_law_whole" = some (some (.ref f20))) (l20:K.lookup f20=some ⟨oc20,od20,.func (W.fnOf "_law_whole" "_law_whole" (zv (top 26)) (zp (top 26)) (za (top 26)) .none kV20 dc20 pm20 an20 cd20 ct20),sl20⟩) (c20:W.codeIn K cd20 "_law_whole" = true) (k20:W.keepIn K (.ref f20)=true)
  (a21:W.nsIn K mainGlobals "_law_divisor" = some (some (.ref f21))) (l21:K.lookup f21=some ⟨oc21,od21,.func (W.fnOf "_law_divisor" "_law_divisor" (zv (top 27)) (zp (top 27)) (za (top 27)) .none kV21 dc21 pm21 an21 cd21 ct21),sl21⟩) (c21:W.codeIn K cd21 "_law_divisor" = true) (k21:W.keepIn K (.ref f21)=true)
  (a22:W.nsIn K mainGlobals "_law_lowest" = some (some (.ref f22))) (l22:K.lookup f22=some ⟨oc22,od22,.func (W.fnOf "_law_lowest" "_law_lowest" (zv (top 28)) (zp (top 28)) (za (top 28)) .none kV22 dc22 pm22 an22 cd22 ct22),sl22⟩) (c22:W.codeIn K cd22 "_law_lowest" = true) (k22:W.keepIn K (.ref f22)=true)
  (a23:W.nsIn K mainGlobals "_law_ratio" = some (some (.ref f23))) (l23:K.lookup f23=some ⟨oc23,od23,.func (W.fnOf "_law_ratio" "_law_ratio" (zv (top 29)) (zp (top 29)) (za (top 29)) .none kV23 dc23 pm23 an23 cd23 ct23),sl23⟩) (c23:W.codeIn K cd23 "_law_ratio" = true) (k23:W.keepIn K (.ref f23)=true)
  (a24:W.nsIn K mainGlobals "_law_powers" = some (some (.ref f24))) (l24:K.lookup f24=some ⟨oc24,od24,.func (W.fnOf "_law_powers" "_law_powers" (zv (top 30)) (zp (top 30)) (za (top 30)) .none kV24 dc24 pm24 an24 cd24 ct24),sl24⟩) (c24:W.codeIn K cd24 "_law_powers" = true) (k24:W.keepIn K (.ref f24)=true)
  (a25:W.nsIn K mainGlobals "_law_ways" = some (some (.ref f25))) (l25:K.lookup f25=some ⟨oc25,od25,.func (W.fnOf "_law_ways" "_law_ways" (zv (top 32)) (zp (top 32)) (za (top 32)) .none kV25 dc25 pm25 an25 cd25 ct25),sl25⟩) (c25:W.codeIn K cd25 "_law_ways" = true) (k25:W.keepIn K (.ref f25)=true)
  (a26:W.nsIn K mainGlobals "_law_sum" = some (some (.ref f26))) (l26:K.lookup f26=some ⟨oc26,od26,.func (W.fnOf "_law_sum" "_law_sum" (zv (top 31)) (zp (top 31)) (za (top 31)) .none kV26 dc26 pm26 an26 cd26 ct26),sl26⟩) (c26:W.codeIn K cd26 "_law_sum" = true) (k26:W.keepIn K (.ref f26)=true)
  (a27:W.nsIn K mainGlobals "_law_put" = some (some (.ref f27))) (l27:K.lookup f27=some ⟨oc27,od27,.func (W.fnOf "_law_put" "_law_put" (zv (top 33)) (zp (top 33)) (za (top 33)) .none kV27 dc27 pm27 an27 cd27 ct27),sl27⟩) (c27:W.codeIn K cd27 "_law_put" = true) (k27:W.keepIn K (.ref f27)=true)
  (a28:W.nsIn K mainGlobals "_law_due" = some (some (.ref f28))) (l28:K.lookup f28=some ⟨oc28,od28,.func (W.fnOf "_law_due" "_law_due" (zv (top 34)) (zp (top 34)) (za (top 34)) .none kV28 dc28 pm28 an28 cd28 ct28),sl28⟩) (c28:W.codeIn K cd28 "_law_due" = true) (k28:W.keepIn K (.ref f28)=true)
  (a29:W.nsIn K mainGlobals "_law_alike" = some (some (.ref f29))) (l29:K.lookup f29=some ⟨oc29,od29,.func (W.fnOf "_law_alike" "_law_alike" (zv (top 35)) (zp (top 35)) (za (top 35)) .none kV29 dc29 pm29 an29 cd29 ct29),sl29⟩) (c29:W.codeIn K cd29 "_law_alike" = true) (k29:W.keepIn K (.ref f29)=true)
  (a30:W.nsIn K mainGlobals "_law_spots" = some (some (.ref f30))) (l30:K.lookup f30=some ⟨oc30,od30,.func (W.fnOf "_law_spots" "_law_spots" (zv (top 36)) (zp (top 36)) (za (top 36)) .none kV30 dc30 pm30 an30 cd30 ct30),sl30⟩) (c30:W.codeIn K cd30 "_law_spots" = true) (k30:W.keepIn K (.ref f30)=true)
  (a31:W.nsIn K mainGlobals "law" = some (some (.ref f31))) (l31:K.lookup f31=some ⟨oc31,od31,.func (W.fnOf "law" "law" (zv (top 37)) (zp (top 37)) (za (top 37)) .none kV31 dc31 pm31 an31 cd31 ct31),sl31⟩) (c31:W.codeIn K cd31 "law" = true) (k31:W.keepIn K (.ref f31)=true) (z_ValueError:W.nsIn K mainGlobals "ValueError" = some none) (z_abs:W.nsIn K mainGlobals "abs" = some none) (z_all:W.nsIn K mainGlobals "all" = some none) (z_bool:W.nsIn K mainGlobals "bool" = some none) (z_dict:W.nsIn K mainGlobals "dict" = some none) (z_enumerate:W.nsIn K mainGlobals "enumerate" = some none) (z_int:W.nsIn K mainGlobals "int" = some none) (z_isinstance:W.nsIn K mainGlobals "isinstance" = some none) (z_len:W.nsIn K mainGlobals "len" = some none) (z_list:W.nsIn K mainGlobals "list" = some none) (z_max:W.nsIn K mainGlobals "max" = some none) (z_range:W.nsIn K mainGlobals "range" = some none) (z_sorted:W.nsIn K mainGlobals "sorted" = some none) (z_sum:W.nsIn K mainGlobals "sum" = some none) (z_tuple:W.nsIn K mainGlobals "tuple" = some none) (z_zip:W.nsIn K mainGlobals "zip" = some none) :
  ∃ fd:FuncData,(∀ (s:Shared) (v:Value),BindsTo s fd ⟨[v],[]⟩ [("_law_script", v)]) /\ ∀ base:Heap,K.In base->base.Ns mainGlobals mg->FnOk l.prog w K mg base CX0 20 fa fd ["_law_script"] (spD K 1 lawT):=by
 have e:=hfa.symm.trans (W.mg_of X G a31)
 cases e
 have T:Tops mg:=⟨W.mg_none_of X G z_ValueError,W.mg_none_of X G z_abs,W.mg_none_of X G z_all,W.mg_none_of X G z_bool,W.mg_none_of X G z_dict,W.mg_none_of X G z_enumerate,W.mg_none_of X G z_int,W.mg_none_of X G z_isinstance,W.mg_none_of X G z_len,W.mg_none_of X G z_list,W.mg_none_of X G z_max,W.mg_none_of X G z_range,W.mg_none_of X G z_sorted,W.mg_none_of X G z_sum,W.mg_none_of X G z_tuple,W.mg_none_of X G z_zip⟩
 have F1:=ya (st:=top 4) l1 c1 k1
 have F2:=ya (st:=top 7) l2 c2 k2
 have F3:=ya (st:=top 6) l3 c3 k3
 have F4:=ya (st:=top 8) l4 c4 k4
 have F5:=ya (st:=top 9) l5 c5 k5
 have F6:=ya (st:=top 12) l6 c6 k6
 have F7:=ya (st:=top 11) l7 c7 k7
 have F8:=ya (st:=top 19) l8 c8 k8
 have F9:=ya (st:=top 18) l9 c9 k9
 have F10:=ya (st:=top 21) l10 c10 k10
 have F11:=ya (st:=top 20) l11 c11 k11
 have F12:=ya (st:=top 17) l12 c12 k12
 have F13:=ya (st:=top 16) l13 c13 k13
 have F14:=ya (st:=top 23) l14 c14 k14
 have F15:=ya (st:=top 22) l15 c15 k15
 have F16:=ya (st:=top 15) l16 c16 k16
 have F17:=ya (st:=top 14) l17 c17 k17
 have F18:=ya (st:=top 13) l18 c18 k18
 have F19:=ya (st:=top 25) l19 c19 k19
 have F20:=ya (st:=top 26) l20 c20 k20
 have F21:=ya (st:=top 27) l21 c21 k21
 have F22:=ya (st:=top 28) l22 c22 k22
 have F23:=ya (st:=top 29) l23 c23 k23
 have F24:=ya (st:=top 30) l24 c24 k24
 have F25:=ya (st:=top 32) l25 c25 k25
 have F26:=ya (st:=top 31) l26 c26 k26
 have F27:=ya (st:=top 33) l27 c27 k27
 have F28:=ya (st:=top 34) l28 c28 k28
 have F29:=ya (st:=top 35) l29 c29 k29
 have F30:=ya (st:=top 36) l30 c30 k30
 have F31:=ya (st:=top 37) l31 c31 k31
 refine ⟨W.fnOf "law" "law" (zv (top 37)) (zp (top 37)) (za (top 37)) .none kV31 dc31 pm31 an31 cd31 ct31,λs v=>.of_eq rfl,λbase _ _=>?_⟩
 have Bf:=X6 (P:=l.prog) (w:=w) (base:=base) T  F1 (W.mg_of X G a1)
 have Bq:=Rc (P:=l.prog) (w:=w) (base:=base) T  F2 (W.mg_of X G a2)
 have Bn:=Oh (P:=l.prog) (w:=w) (base:=base) T Bf Bq F3 (W.mg_of X G a3)
 have Bx:=Kz (P:=l.prog) (w:=w) (base:=base) T Bn F4 (W.mg_of X G a4)
 have Bt:=Og (P:=l.prog) (w:=w) (base:=base) T Bn F5 (W.mg_of X G a5)
 have Bg:=X8 (P:=l.prog) (w:=w) (base:=base) T Bx F6 (W.mg_of X G a6)
 have Ca:=Vr (P:=l.prog) (w:=w) (base:=base) T  F7 (W.mg_of X G a7)
 have Cc:=sj (P:=l.prog) (w:=w) (base:=base) T  F8 (W.mg_of X G a8)
 have Bh:=X7 (P:=l.prog) (w:=w) (base:=base) T Ca Cc F9 (W.mg_of X G a9)
 have Bi:=X9 (P:=l.prog) (w:=w) (base:=base) T  F10 (W.mg_of X G a10)
 have Bu:=Oi (P:=l.prog) (w:=w) (base:=base) T Bi F11 (W.mg_of X G a11)
 have C9:=uf (P:=l.prog) (w:=w) (base:=base) T  F12 (W.mg_of X G a12)
 have B5:=Z7 (P:=l.prog) (w:=w) (base:=base) T Ca Bh Bu C9 F13 (W.mg_of X G a13)
 have Bj:=X4 (P:=l.prog) (w:=w) (base:=base) T Ca F14 (W.mg_of X G a14)
 have Ct:=fo (P:=l.prog) (w:=w) (base:=base) T Bj F15 (W.mg_of X G a15)
 have Cu:=fk (P:=l.prog) (w:=w) (base:=base) T B5 F16 (W.mg_of X G a16)
 have Cv:=fm (P:=l.prog) (w:=w) (base:=base) T Ct F17 (W.mg_of X G a17)
 have By:=J1 (P:=l.prog) (w:=w) (base:=base) T Cu Cv Bt Bg F18 (W.mg_of X G a18)
 have Cf:=j7 (P:=l.prog) (w:=w) (base:=base) T  F19 (W.mg_of X G a19)
 have Cw:=Z8 (P:=l.prog) (w:=w) (base:=base) T  F20 (W.mg_of X G a20)
 have Cg:=j6 (P:=l.prog) (w:=w) (base:=base) T  F21 (W.mg_of X G a21)
 have C6:=ft (P:=l.prog) (w:=w) (base:=base) T Cg F22 (W.mg_of X G a22)
 have Cy:=Za (P:=l.prog) (w:=w) (base:=base) T C6 F23 (W.mg_of X G a23)
 have Cj:=fq (P:=l.prog) (w:=w) (base:=base) T  F24 (W.mg_of X G a24)
 have B6:=X5 (P:=l.prog) (w:=w) (base:=base) T  F25 (W.mg_of X G a25)
 have Bk:=Vo (P:=l.prog) (w:=w) (base:=base) T Cj Cy F26 (W.mg_of X G a26)
 have Bl:=Vp (P:=l.prog) (w:=w) (base:=base) T B6 F27 (W.mg_of X G a27)
 have Bm:=Vq (P:=l.prog) (w:=w) (base:=base) T C6 Bl F28 (W.mg_of X G a28)
 have Cz:=Zb (P:=l.prog) (w:=w) (base:=base) T Cw F29 (W.mg_of X G a29)
 have B0:=Z9 (P:=l.prog) (w:=w) (base:=base) T  F30 (W.mg_of X G a30)
 exact Fh T By Cf Bk B0 Bm Cz F31
end
end K37
open PySem PySem.W PyProof.Rows
set_option maxRecDepth 100000 in
set_option maxHeartbeats 0 in
theorem PySem.Challenge.cw_toll_k37_sizes_put_on_holds : PySem.Challenge.rw_toll_k37_sizes_put_on.Holds := by
 refine K37.opened ?_
 k_fill
 refine DL.walkD (l:=PySem.Challenge.rw_toll_k37_sizes_put_on) (k:=20) (x:="_law_script") rfl rfl ⟨rfl,by decide,by decide⟩ (λw h Y=>PySem.W.kIn_of Y) ?F
 case F =>
  intro w mg fa h KX G hmg
  refine' K37.all_mk KX G hmg ?a1 ?l1 ?c1 ?k1 ?a2 ?l2 ?c2 ?k2 ?a3 ?l3 ?c3 ?k3 ?a4 ?l4 ?c4 ?k4 ?a5 ?l5 ?c5 ?k5 ?a6 ?l6 ?c6 ?k6 ?a7 ?l7 ?c7 ?k7 ?a8 ?l8 ?c8 ?k8 ?a9 ?l9 ?c9 ?k9 ?a10 ?l10 ?c10 ?k10 ?a11 ?l11 ?c11 ?k11 ?a12 ?l12 ?c12 ?k12 ?a13 ?l13 ?c13 ?k13 ?a14 ?l14 ?c14 ?k14 ?a15 ?l15 ?c15 ?k15 ?a16 ?l16 ?c16 ?k16 ?a17 ?l17 ?c17 ?k17 ?a18 ?l18 ?c18 ?k18 ?a19 ?l19 ?c19 ?k19 ?a20 ?l20 ?c20 ?k20 ?a21 ?l21 ?c21 ?k21 ?a22 ?l22 ?c22 ?k22 ?a23 ?l23 ?c23 ?k23 ?a24 ?l24 ?c24 ?k24 ?a25 ?l25 ?c25 ?k25 ?a26 ?l26 ?c26 ?k26 ?a27 ?l27 ?c27 ?k27 ?a28 ?l28 ?c28 ?k28 ?a29 ?l29 ?c29 ?k29 ?a30 ?l30 ?c30 ?k30 ?a31 ?l31 ?c31 ?k31 ?z_ValueError ?z_abs ?z_all ?z_bool ?z_dict ?z_enumerate ?z_int ?z_isinstance ?z_len ?z_list ?z_max ?z_range ?z_sorted ?z_sum ?z_tuple ?z_zip
  (case a1=>k_is)
  (case l1=>k_is)
  (case c1=>k_is)
  (case k1=>k_is)
  (case a2=>k_is)
  (case l2=>k_is)
  (case c2=>k_is)
  (case k2=>k_is)
  (case a3=>k_is)
  (case l3=>k_is)
  (case c3=>k_is)
  (case k3=>k_is)
  (case a4=>k_is)
  (case l4=>k_is)
  (case c4=>k_is)
  (case k4=>k_is)
  (case a5=>k_is)
  (case l5=>k_is)
  (case c5=>k_is)
  (case k5=>k_is)
  (case a6=>k_is)
  (case l6=>k_is)
  (case c6=>k_is)
  (case k6=>k_is)
  (case a7=>k_is)
  (case l7=>k_is)
  (case c7=>k_is)
  (case k7=>k_is)
  (case a8=>k_is)
  (case l8=>k_is)
  (case c8=>k_is)
  (case k8=>k_is)
  (case a9=>k_is)
  (case l9=>k_is)
  (case c9=>k_is)
  (case k9=>k_is)
  (case a10=>k_is)
  (case l10=>k_is)
  (case c10=>k_is)
  (case k10=>k_is)
  (case a11=>k_is)
  (case l11=>k_is)
  (case c11=>k_is)
  (case k11=>k_is)
  (case a12=>k_is)
  (case l12=>k_is)
  (case c12=>k_is)
  (case k12=>k_is)
  (case a13=>k_is)
  (case l13=>k_is)
  (case c13=>k_is)
  (case k13=>k_is)
  (case a14=>k_is)
  (case l14=>k_is)
  (case c14=>k_is)
  (case k14=>k_is)
  (case a15=>k_is)
  (case l15=>k_is)
  (case c15=>k_is)
  (case k15=>k_is)
  (case a16=>k_is)
  (case l16=>k_is)
  (case c16=>k_is)
  (case k16=>k_is)
  (case a17=>k_is)
  (case l17=>k_is)
  (case c17=>k_is)
  (case k17=>k_is)
  (case a18=>k_is)
  (case l18=>k_is)
  (case c18=>k_is)
  (case k18=>k_is)
  (case a19=>k_is)
  (case l19=>k_is)
  (case c19=>k_is)
  (case k19=>k_is)
  (case a20=>k_is)
  (case l20=>k_is)
  (case c20=>k_is)
  (case k20=>k_is)
  (case a21=>k_is)
  (case l21=>k_is)
  (case c21=>k_is)
  (case k21=>k_is)
  (case a22=>k_is)
  (case l22=>k_is)
  (case c22=>k_is)
  (case k22=>k_is)
  (case a23=>k_is)
  (case l23=>k_is)
  (case c23=>k_is)
  (case k23=>k_is)
  (case a24=>k_is)
  (case l24=>k_is)
  (case c24=>k_is)
  (case k24=>k_is)
  (case a25=>k_is)
  (case l25=>k_is)
  (case c25=>k_is)
  (case k25=>k_is)
  (case a26=>k_is)
  (case l26=>k_is)
  (case c26=>k_is)
  (case k26=>k_is)
  (case a27=>k_is)
  (case l27=>k_is)
  (case c27=>k_is)
  (case k27=>k_is)
  (case a28=>k_is)
  (case l28=>k_is)
  (case c28=>k_is)
  (case k28=>k_is)
  (case a29=>k_is)
  (case l29=>k_is)
  (case c29=>k_is)
  (case k29=>k_is)
  (case a30=>k_is)
  (case l30=>k_is)
  (case c30=>k_is)
  (case k30=>k_is)
  (case a31=>k_is)
  (case l31=>k_is)
  (case c31=>k_is)
  (case k31=>k_is)
  (case z_ValueError=>k_is)
  (case z_abs=>k_is)
  (case z_all=>k_is)
  (case z_bool=>k_is)
  (case z_dict=>k_is)
  (case z_enumerate=>k_is)
  (case z_int=>k_is)
  (case z_isinstance=>k_is)
  (case z_len=>k_is)
  (case z_list=>k_is)
  (case z_max=>k_is)
  (case z_range=>k_is)
  (case z_sorted=>k_is)
  (case z_sum=>k_is)
  (case z_tuple=>k_is)
  (case z_zip=>k_is)
