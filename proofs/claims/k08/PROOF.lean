import PyProof.Rows.All
import KE.IntBitsLaws
import KE.KDictOf
import KE.KIntText
import KE.KItem
import KE.KTryMore
import PySem.Challenge.RW_toll_k08_no_program
noncomputable section
set_option Elab.async false
set_option linter.all false
def zaa:=@PySem.wpAny_bind
def zab:=@PySem.wpAny_pure
def zac:=@PySem.Heap.get?_push_of_some
def zad:=@PySem.Heap.get?_push_size
def zae:=@PySem.Heap.lt_size
def zaf:=@List.getElem?_eq_getElem
def zag:=@List.getElem?_eq_some_iff
def zah:=@List.mem_map
def zai:=@List.getElem?_map
def zaj:=@Nat.le_refl
def zak:=@Nat.le_trans
def zal:=@List.mem_cons_of_mem
def zam:=@List.mem_cons
def zan:=@List.mem_of_getElem?
def zao:=@List.mem_cons_self
def zap:=@List.size_toArray
def zaq:=@List.getD_eq_getElem?_getD
def zar:=@Option.map_eq_some_iff
def zas:=@List.mem_append
set_option maxRecDepth 100000
set_option maxHeartbeats 8000000
set_option exponentiation.threshold 5000
set_option compiler.extract_closed false
set_option bootstrap.genMatcherCode false
def zLa.{u} {α:Type u} {a b:List α}:(a++b).length=a.length+b.length:=List.length_append
def zLc.{u} {α:Type u} {x:α} {a:List α}:(x::a).length=a.length+1:=rfl
def zLn.{u} {α:Type u}:([]:List α).length=0:=rfl
def zLm.{u,v} {α:Type u} {q:Type v} {j:List α} (f:α->q):(j.map f).length=j.length:=List.length_map f
def zMa.{u,v} {α:Type u} {I:Type v} {f:α->I} {q j:List α}:(q++j).map f=q.map f++j.map f:=List.map_append
set_option hygiene false in
local macro_rules | `(tactic| walk_at "t")=>`(tactic| (intro cl C fp s H; first | exact zo (i:=0) (by show ((_:List Str)++_).Nodup; decide +kernel) rfl (by walk_at "o") | exact xv (K0:=K) (n:=2) (by rfl) (by rfl) (ye (zo (i:=0) (by show ((_:List Str)++_).Nodup; decide +kernel) rfl (by walk_at "o")) (ye (zo (i:=1) (by show ((_:List Str)++_).Nodup; decide +kernel) rfl (by walk_at "o")) xu))))
set_option hygiene false in
local macro_rules | `(tactic| walk_at "b")=>`(tactic| (obtain ⟨f,fd,F,m⟩:=F; refine x6 F S (F.binds fun _ _ _ _ _ _ us hl=>by first | (obtain ⟨_,rfl⟩:=ve hl; rfl) | (obtain ⟨_,_,rfl⟩:=Ww hl; rfl) | (obtain ⟨_,_,_,rfl⟩:=Mf hl; rfl) | (obtain ⟨_,_,_,_,rfl⟩:=Ha hl; rfl) | (obtain ⟨_,_,_,_,_,rfl⟩:=P7 hl; rfl) | (obtain ⟨_,_,_,_,_,_,rfl⟩:=z2k hl; rfl) | (obtain ⟨_,_,_,_,_,_,_,_,rfl⟩:=z5g hl; rfl)) m fun qZ A outer s H E ds U hr hl hT=>?_; have hu:=hr.units))
set_option hygiene false in
local macro_rules | `(tactic| walk_at "p")=>`(tactic| simp only [ρ0,List.map_cons,List.map_nil,List.replicate,List.cons_append,List.nil_append])
local macro_rules | `(tactic| walk_at "o")=>`(tactic| first | exact Or.inl rfl | exact Or.inr rfl | exact Or.inr (Or.inl rfl) | exact Or.inr (Or.inr rfl))
local macro_rules | `(tactic| walk_at "f")=>`(tactic| exact ⟨rfl,rfl,rfl,by decide +kernel,rfl,by decide +kernel,by decide +kernel⟩)
local macro_rules | `(tactic| walk_at "c")=>`(tactic| exact ⟨rfl,by decide +kernel,by decide +kernel,by decide +kernel,by decide +kernel,by decide +kernel⟩)
local macro_rules | `(tactic| walk_at "m")=>`(tactic| exact ⟨by first | omega | (simp; omega),by repeat first | assumption | exact trivial | refine $(Lean.mkIdent `prs1) ?_ ?_⟩)
set_option hygiene false in
local macro_rules | `(tactic| walk_at "k")=>`(tactic| (delta z_V openEnds topFrom; rw [Fast.te14082659384304107361]; kernel_rfl))
namespace ZZ
open PySem PySem.Spec PyProof.Rows
def tf(s:Stmt):Arguments:=match s with
 |.FunctionDef _ a _ _ _ _ _ _ _ _=>a
 |_=>{posonlyargs:=[],args:=[],vararg:=none,kwonlyargs:=[],kw_defaults:=[],kwarg:=none,defaults:=[]}
def xp(s:Stmt):List Stmt:=match s with
 |.FunctionDef _ _ b _ _ _ _ _ _ _=>b
 |_=>[]
def zh(s:Stmt):Scope:=match s with
 |.FunctionDef _ _ _ _ _ _ sc _ _ _=>sc
 |_=>{kind:=.function,names:=[],isGenerator:=false,isCoroutine:=false}
def Bi(s:Stmt)(j:Nat):Stmt:=match s with
 |.ClassDef _ _ _ body _ _ _ _ _ _ _=>body.getD j (.Pass ⟨0,0,0,0⟩)
 |_=>.Pass ⟨0,0,0,0⟩
def top(i:Nat):Stmt:=PySem.Challenge.pw_toll_k08_no_program.main.body.getD i (.Pass ⟨0,0,0,0⟩)
section
open PySem.W PySem.PyData
def zE(P:Params)(s:Str)(t:Nat)(v:Value):DictEntry:=⟨keyHash P s,.str s t,v⟩
def zG(n q:Str)(s:Stmt)(d c m:Value)(k:Nat):Obj:=⟨.type "function",none,.func (fnOf n q (tf s) (xp s) (zh s) d .none c m none (.ref k) .none),#[]⟩
def zF(n:Str)(s:Stmt)(m:Str)(i k:Nat):Obj:=⟨.type "function",none,.func (fnOf n n (tf s) (xp s) (zh s) .none .none .none (.str m i) none (.ref k) .none),#[]⟩
def zB(n:Str)(a b c:Nat)(d e:Int)(g i l:Nat)(m:Int)(p:Nat):Obj:=⟨.type "code",none,.fields #[.str n a,.str n b,.str "/claim/cut.py" c,.int d 0,.int e 0,.int 0 0,.int 0 0,.int 3 0,.ref g,.bool true,.int 181 0,.ref i,.none,.none,.none,.ref l,.int m 0,.int d 0,.str "/claim/cut.py" p],#[]⟩
def zC(n:Str)(a:Nat)(q:Str)(b c:Nat)(d e f:Int)(g:Nat)(h:Int)(i j k l:Nat)(m o:Int)(p:Nat):Obj:=⟨.type "code",none,.fields #[.str n a,.str q b,.str "/claim/cut.py" c,.int d 0,.int e 0,.int 0 0,.int 0 0,.int f 0,.ref g,.bool true,.int h 0,.ref i,.none,.ref j,.ref k,.ref l,.int m 0,.int o 0,.str "/claim/cut.py" p],#[]⟩
def z_t(x:Array Value):Obj:=⟨.type "tuple",none,.seq x 0,#[]⟩
def z_u(P:Params)(m a:Nat)(l:Int)(r:Nat):Obj:=⟨.type "dict",none,.dict #[zE P "__module__" a (.str "toll.errors" m),zE P "__firstlineno__" (a+4) (.int l (a+3)),zE P "__static_attributes__" (a+5) (.ref r),zE P "__doc__" (a+6) .none] 2,#[]⟩
def z_v(n:Str)(u o d b a:Nat):Obj:=⟨.type "type",none,.cls ⟨n,[.ref u],[.ref o,.ref u,.type "ValueError",.type "Exception",.type "BaseException",.type "object"],d,n,true,[],[],false,none,false⟩,#[some (.ref b),none,some (.str n a),some (.str n (a+8)),some (.builtin "ValueError.__new__"),some (.bool true)]⟩
def z_w(n:Str)(a:Nat)(d e:Int)(g m:Nat):Obj:=⟨.type "code",none,.fields #[.str n a,.str n (a+1),.str "/claim/cut.py" (a+2),.int d 0,.int e 0,.int 0 0,.int 0 0,.int 3 0,.ref g,.bool true,.int 181 0,.ref (g+1),.none,.none,.none,.ref (g+2),.int m 0,.int d 0,.str "/claim/cut.py" (m+1)],#[]⟩
def z_x(n:Str)(a:Nat)(d e:Int)(g m:Nat):Obj:=zC n a n (a+1) (a+2) d e 3 g 181 (g+1) (g+2) (g+3) (g+4) m d (m+1)
def z_a(n:Str)(i c:Nat):Obj:=zF n (top i) "law_toll_k08_no_program" 664 c
def z_b(n:Str)(i c:Nat):Obj:=zF n (top i) "toll.texts" 497 c
def z_c(n:Str)(i c:Nat):Obj:=zF n (top i) "toll.programs" 376 c
def z_y(P:Params)(n:Str)(a r:Nat):=zE P n a (.ref r)
noncomputable def zK(P:Params):Frag:=(nat_lit 2,⟨.none,none,(.dict #[] 0),#[]⟩)::
(nat_lit 3,⟨(.type "dict"),none,(.dict #[zE P "__name__" 165 (.str "law_toll_k08_no_program" 664),zE P "__doc__" 166 .none,zE P "__package__" 167 .none,zE P "__loader__" 168 (.builtin "__main__.__loader__#opaque"),zE P "__spec__" 169 .none,z_y P "__annotations__" 170 6,z_y P "__builtins__" 171 4,zE P "__file__" 173 (.str "/claim/cut.py" 172),zE P "__cached__" 174 .none,z_y P "TollError" 206 24,z_y P "NoText" 222 37,z_y P "NoProgram" 238 49,z_y P "NoFunction" 254 61,z_y P "NoValue" 270 73,z_y P "NoTable" 286 85,z_y P "NoRatio" 302 97,z_y P "NoPaper" 318 109,z_y P "NoSize" 343 128,z_y P "NoRow" 359 140,z_y P "TooMany" 375 152,zE P "LETTERS" 379 (.str "abcdefghijklmnopqrstuvwxyz" 378),z_y P "SHAPES" 383 155,z_y P "NO_NAMES" 386 156,z_y P "FORMS" 414 157,z_y P "BROUGHT" 424 170,z_y P "is_whole" 431 179,z_y P "is_name" 437 184,z_y P "unlike" 444 191,z_y P "right" 450 196,z_y P "head_right" 456 201,z_y P "gives_right" 462 206,z_y P "body_right" 468 211,z_y P "wider_right" 474 216,z_y P "shape_of" 484 223,z_y P "call_shape" 490 228,z_y P "shape_if" 496 233,zE P "FIGURES" 500 (.str "0123456789" 499),z_y P "BODIES" 516 234,z_y P "BRACKETS" 529 235,z_y P "BRINGS" 536 236,z_y P "read" 542 241,z_y P "words_of" 548 246,z_y P "nested" 558 253,z_y P "in_bracket" 565 260,z_y P "bracket_of" 573 267,z_y P "head_of" 580 274,z_y P "read_name" 587 281,z_y P "read_names" 593 286,z_y P "read_shape" 600 293,z_y P "is_number" 606 298,z_y P "read_number" 613 305,z_y P "read_function" 619 310,z_y P "read_param" 626 317,z_y P "read_gives" 632 322,z_y P "read_body" 642 329,z_y P "read_expression" 650 336,z_y P "read_all" 656 341,z_y P "read_word" 663 348,z_y P "_law_cell_at" 673 355,z_y P "_law_name" 687 362,z_y P "_law_next" 694 369,z_y P "_law_flat" 704 376,z_y P "_law_plain" 710 381,z_y P "_law_e" 716 386,z_y P "_law_open" 722 391,z_y P "_law_body" 728 396,z_y P "_law_head" 734 401,z_y P "_law_built" 740 406,z_y P "_law_function" 746 411,z_y P "_law_grown" 752 416,z_y P "_law_line" 761 423,z_y P "_law_give" 769 430,z_y P "_law_bad_head" 775 435,z_y P "_law_bad_body" 781 440,z_y P "_law_plain_one" 789 447,z_y P "_law_spoiled" 795 452,z_y P "_law_refused" 804 459,z_y P "law" 810 464] 78),#[]⟩)::
(nat_lit 15,z_t #[.type "ValueError"])::
(nat_lit 22,z_t #[])::
(nat_lit 23,⟨(.type "dict"),none,(.dict #[zE P "__module__" 196 (.str "toll.errors" 187),zE P "__firstlineno__" 200 (.int 2 199),z_y P "__static_attributes__" 201 22,z_y P "__weakref__" 203 25,zE P "__doc__" 204 .none] 3),#[]⟩)::
(nat_lit 24,⟨(.type "type"),none,(.cls ⟨"TollError",[(.type "ValueError")],[(.ref 24),(.type "ValueError"),(.type "Exception"),(.type "BaseException"),(.type "object")],23,"TollError",true,[],[(.ref 37),(.ref 49),(.ref 61),(.ref 73),(.ref 85),(.ref 97),(.ref 109),(.ref 128),(.ref 140),(.ref 152)],false,none,false⟩),#[(some (.ref 15)),none,(some (.str "TollError" 189)),(some (.str "TollError" 197)),(some (.builtin "ValueError.__new__")),(some (.bool true))]⟩)::
(nat_lit 25,⟨(.type "getset_descriptor"),none,(.fields #[(.str "__weakref__" 202),(.ref 24),(.builtin "ExceptionGroup.__weakref__"),.none]),#[]⟩)::
(nat_lit 28,z_t #[.ref 24])::
(nat_lit 35,z_t #[])::
(nat_lit 36,z_u P 187 214 4 35)::
(nat_lit 37,z_v "NoText" 24 37 36 28 207)::
(nat_lit 40,z_t #[.ref 24])::
(nat_lit 47,z_t #[])::
(nat_lit 48,z_u P 187 230 6 47)::
(nat_lit 49,z_v "NoProgram" 24 49 48 40 223)::
(nat_lit 52,z_t #[.ref 24])::
(nat_lit 59,z_t #[])::
(nat_lit 60,z_u P 187 246 8 59)::
(nat_lit 61,z_v "NoFunction" 24 61 60 52 239)::
(nat_lit 64,z_t #[.ref 24])::
(nat_lit 71,z_t #[])::
(nat_lit 72,z_u P 187 262 10 71)::
(nat_lit 73,z_v "NoValue" 24 73 72 64 255)::
(nat_lit 76,z_t #[.ref 24])::
(nat_lit 83,z_t #[])::
(nat_lit 84,z_u P 187 278 12 83)::
(nat_lit 85,z_v "NoTable" 24 85 84 76 271)::
(nat_lit 88,z_t #[.ref 24])::
(nat_lit 95,z_t #[])::
(nat_lit 96,z_u P 187 294 14 95)::
(nat_lit 97,z_v "NoRatio" 24 97 96 88 287)::
(nat_lit 100,z_t #[.ref 24])::
(nat_lit 107,z_t #[])::
(nat_lit 108,z_u P 187 310 16 107)::
(nat_lit 109,z_v "NoPaper" 24 109 108 100 303)::
(nat_lit 112,z_t #[.ref 24])::
(nat_lit 124,zC "__init__" 331 "NoSize.__init__" 332 333 20 2 3 119 181 120 121 122 123 336 20 337)::
(nat_lit 125,zG "__init__" "NoSize.__init__" (Bi (top 9) 0) .none .none (.str "toll.errors" 187) 124)::
(nat_lit 126,z_t #[.str "at" 339])::
(nat_lit 127,⟨(.type "dict"),none,(.dict #[zE P "__module__" 326 (.str "toll.errors" 187),zE P "__firstlineno__" 330 (.int 18 329),z_y P "__init__" 338 125,z_y P "__static_attributes__" 340 126,zE P "__doc__" 341 .none] 2),#[]⟩)::
(nat_lit 128,z_v "NoSize" 24 128 127 112 319)::
(nat_lit 131,z_t #[.ref 24])::
(nat_lit 138,z_t #[])::
(nat_lit 139,z_u P 187 351 23 138)::
(nat_lit 140,z_v "NoRow" 24 140 139 131 344)::
(nat_lit 143,z_t #[.ref 24])::
(nat_lit 150,z_t #[])::
(nat_lit 151,z_u P 187 367 25 150)::
(nat_lit 152,z_v "TooMany" 24 152 151 143 360)::
(nat_lit 155,z_t #[.str "num" 380,.str "list" 381,.str "tree" 382])::
(nat_lit 156,z_t #[.str "nil" 384,.str "leaf" 385])::
(nat_lit 157,⟨(.type "dict"),none,(.dict #[z_y P "nil" 387 159,z_y P "cons" 389 161,z_y P "leaf" 393 163,z_y P "node" 395 165,z_y P "add" 400 167,z_y P "sub" 404 169] 6),#[]⟩)::
(nat_lit 158,z_t #[])::
(nat_lit 159,z_t #[.ref 158,.str "list" 388])::
(nat_lit 160,z_t #[.str "num" 390,.str "list" 391])::
(nat_lit 161,z_t #[.ref 160,.str "list" 392])::
(nat_lit 162,z_t #[])::
(nat_lit 163,z_t #[.ref 162,.str "tree" 394])::
(nat_lit 164,z_t #[.str "tree" 396,.str "num" 397,.str "tree" 398])::
(nat_lit 165,z_t #[.ref 164,.str "tree" 399])::
(nat_lit 166,z_t #[.str "num" 401,.str "num" 402])::
(nat_lit 167,z_t #[.ref 166,.str "num" 403])::
(nat_lit 168,z_t #[.str "num" 405,.str "num" 406])::
(nat_lit 169,z_t #[.ref 168,.str "num" 407])::
(nat_lit 170,⟨(.type "dict"),none,(.dict #[z_y P "list" 415 171,z_y P "tree" 418 172] 2),#[]⟩)::
(nat_lit 171,z_t #[.str "num" 416,.str "list" 417])::
(nat_lit 172,z_t #[.str "tree" 419,.str "num" 420,.str "tree" 421])::
(nat_lit 178,z_x "is_whole" 425 33 1 173 429)::
(nat_lit 179,z_c "is_whole" 18 178)::
(nat_lit 183,z_w "is_name" 432 35 1 180 435)::
(nat_lit 184,z_c "is_name" 19 183)::
(nat_lit 190,z_x "unlike" 438 39 1 185 442)::
(nat_lit 191,z_c "unlike" 20 190)::
(nat_lit 195,z_w "right" 445 41 1 192 448)::
(nat_lit 196,z_c "right" 21 195)::
(nat_lit 200,z_w "head_right" 451 50 1 197 454)::
(nat_lit 201,z_c "head_right" 22 200)::
(nat_lit 205,z_w "gives_right" 457 58 2 202 460)::
(nat_lit 206,z_c "gives_right" 23 205)::
(nat_lit 210,z_w "body_right" 463 67 4 207 466)::
(nat_lit 211,z_c "body_right" 24 210)::
(nat_lit 215,z_w "wider_right" 469 81 5 212 472)::
(nat_lit 216,z_c "wider_right" 25 215)::
(nat_lit 222,z_x "shape_of" 475 89 3 217 482)::
(nat_lit 223,z_c "shape_of" 26 222)::
(nat_lit 227,z_w "call_shape" 485 100 3 224 488)::
(nat_lit 228,z_c "call_shape" 27 227)::
(nat_lit 232,z_w "shape_if" 491 105 5 229 494)::
(nat_lit 233,z_c "shape_if" 28 232)::
(nat_lit 234,⟨(.type "dict"),none,(.dict #[zE P "give" 501 (.int 2 502),zE P "let" 503 (.int 4 504),zE P "less" 505 (.int 5 506),zE P "list" 507 (.int 5 508),zE P "tree" 509 (.int 5 510)] 5),#[]⟩)::
(nat_lit 235,⟨(.type "dict"),none,(.dict #[zE P "cons" 517 (.int 3 518),zE P "node" 519 (.int 4 520),zE P "add" 521 (.int 3 522),zE P "sub" 523 (.int 3 524)] 4),#[]⟩)::
(nat_lit 236,⟨(.type "dict"),none,(.dict #[zE P "list" 530 (.int 2 531),zE P "tree" 532 (.int 3 533)] 2),#[]⟩)::
(nat_lit 240,z_w "read" 537 114 1 237 540)::
(nat_lit 241,z_b "read" 34 240)::
(nat_lit 245,z_w "words_of" 543 121 1 242 546)::
(nat_lit 246,z_b "words_of" 35 245)::
(nat_lit 252,z_x "nested" 549 124 1 247 556)::
(nat_lit 253,z_b "nested" 36 252)::
(nat_lit 259,z_x "in_bracket" 559 139 1 254 563)::
(nat_lit 260,z_b "in_bracket" 37 259)::
(nat_lit 266,z_x "bracket_of" 566 143 2 261 571)::
(nat_lit 267,z_b "bracket_of" 38 266)::
(nat_lit 273,z_x "head_of" 574 147 1 268 578)::
(nat_lit 274,z_b "head_of" 39 273)::
(nat_lit 280,z_x "read_name" 581 151 1 275 585)::
(nat_lit 281,z_b "read_name" 40 280)::
(nat_lit 285,z_w "read_names" 588 155 2 282 591)::
(nat_lit 286,z_b "read_names" 41 285)::
(nat_lit 292,z_x "read_shape" 594 157 1 287 598)::
(nat_lit 293,z_b "read_shape" 42 292)::
(nat_lit 297,z_w "is_number" 601 161 1 294 604)::
(nat_lit 298,z_b "is_number" 43 297)::
(nat_lit 304,z_x "read_number" 607 166 1 299 611)::
(nat_lit 305,z_b "read_number" 44 304)::
(nat_lit 309,z_w "read_function" 614 170 1 306 617)::
(nat_lit 310,z_b "read_function" 45 309)::
(nat_lit 316,z_x "read_param" 620 176 1 311 624)::
(nat_lit 317,z_b "read_param" 46 316)::
(nat_lit 321,z_w "read_gives" 627 179 1 318 630)::
(nat_lit 322,z_b "read_gives" 47 321)::
(nat_lit 328,z_x "read_body" 633 182 1 323 640)::
(nat_lit 329,z_b "read_body" 48 328)::
(nat_lit 335,z_x "read_expression" 643 195 1 330 648)::
(nat_lit 336,z_b "read_expression" 49 335)::
(nat_lit 340,z_w "read_all" 651 204 1 337 654)::
(nat_lit 341,z_b "read_all" 50 340)::
(nat_lit 347,z_x "read_word" 657 206 1 342 661)::
(nat_lit 348,z_b "read_word" 51 347)::
(nat_lit 354,z_x "_law_cell_at" 666 213 2 349 671)::
(nat_lit 355,z_a "_law_cell_at" 53 354)::
(nat_lit 361,z_x "_law_name" 674 217 2 356 685)::
(nat_lit 362,z_a "_law_name" 54 361)::
(nat_lit 368,z_x "_law_next" 688 236 1 363 692)::
(nat_lit 369,z_a "_law_next" 55 368)::
(nat_lit 375,z_x "_law_flat" 695 240 1 370 702)::
(nat_lit 376,z_a "_law_flat" 56 375)::
(nat_lit 380,z_w "_law_plain" 705 245 3 377 708)::
(nat_lit 381,z_a "_law_plain" 57 380)::
(nat_lit 385,z_w "_law_e" 711 255 5 382 714)::
(nat_lit 386,z_a "_law_e" 58 385)::
(nat_lit 390,z_w "_law_open" 717 275 8 387 720)::
(nat_lit 391,z_a "_law_open" 59 390)::
(nat_lit 395,z_w "_law_body" 723 283 6 392 726)::
(nat_lit 396,z_a "_law_body" 60 395)::
(nat_lit 400,z_w "_law_head" 729 303 3 397 732)::
(nat_lit 401,z_a "_law_head" 61 400)::
(nat_lit 405,z_w "_law_built" 735 313 5 402 738)::
(nat_lit 406,z_a "_law_built" 62 405)::
(nat_lit 410,z_w "_law_function" 741 319 4 407 744)::
(nat_lit 411,z_a "_law_function" 63 410)::
(nat_lit 415,z_w "_law_grown" 747 324 1 412 750)::
(nat_lit 416,z_a "_law_grown" 64 415)::
(nat_lit 422,z_x "_law_line" 753 335 1 417 759)::
(nat_lit 423,z_a "_law_line" 65 422)::
(nat_lit 429,z_x "_law_give" 762 342 2 424 767)::
(nat_lit 430,z_a "_law_give" 66 429)::
(nat_lit 434,z_w "_law_bad_head" 770 344 4 431 773)::
(nat_lit 435,z_a "_law_bad_head" 67 434)::
(nat_lit 439,z_w "_law_bad_body" 776 369 5 436 779)::
(nat_lit 440,z_a "_law_bad_body" 68 439)::
(nat_lit 446,z_x "_law_plain_one" 782 392 2 441 787)::
(nat_lit 447,z_a "_law_plain_one" 69 446)::
(nat_lit 451,z_w "_law_spoiled" 790 394 2 448 793)::
(nat_lit 452,z_a "_law_spoiled" 70 451)::
(nat_lit 458,z_x "_law_refused" 796 412 1 453 802)::
(nat_lit 459,z_a "_law_refused" 71 458)::
(nat_lit 463,z_w "law" 805 422 1 460 808)::
(nat_lit 464,z_a "law" 72 463)::[]
noncomputable def zA:List Addr:=2::3::15::22::23::24::25::28::35::36::37::40::47::48::49::52::59::60::61::64::71::72::73::76::83::84::85::88::95::96::97::100::107::108::109::112::124::125::126::127::128::131::138::139::140::143::150::151::152::155::156::157::158::159::160::161::162::163::164::165::166::167::168::169::170::171::172::178::179::183::184::190::191::195::196::200::201::205::206::210::211::215::216::222::223::227::228::232::233::234::235::236::240::241::245::246::252::253::259::260::266::267::273::274::280::281::285::286::292::293::297::298::304::305::309::310::316::317::321::322::328::329::335::336::340::341::347::348::354::355::361::362::368::369::375::376::380::381::385::386::390::391::395::396::400::401::405::406::410::411::415::416::422::423::429::430::434::435::439::440::446::447::451::452::458::459::463::464::[]
def zAK(P:Params):zA=(zK P).map (·.1):=by kernel_rfl
noncomputable def zq:Program:={PySem.Challenge.pw_toll_k08_no_program with main:={PySem.Challenge.pw_toll_k08_no_program.main with body:=[1,2,3,4,5,6,7,8,9,10,11,13,14,15,16,17,18,19,20,21,22,23,24,25,26,27,28,30,31,32,33,34,35,36,37,38,39,40,41,42,43,44,45,46,47,48,49,50,51,53,54,55,56,57,58,59,60,61,62,63,64,65,66,67,68,69,70,71,72].filterMap λi=>PySem.Challenge.pw_toll_k08_no_program.main.body[i]?}}
abbrev zX(s:Shared):Bool:=xlAt zq [] s&&recOk (RowW.records PySem.Challenge.rw_toll_k08_no_program.row.toRowW) s
abbrev z_O(s:Shared):=Fast.tw4187177175401517315 zq ["FORMS","BROUGHT","BODIES","BRACKETS","BRINGS"] (Fast.tw5923862056798008813 PySem.Challenge.pw_toll_k08_no_program.main.body) zX true s
abbrev z_G:=openGood zq ["FORMS","BROUGHT","BODIES","BRACKETS","BRINGS"]
abbrev z_V{β:Type}(p:Shared->β)(b:β)(w:World):Prop:=Option.map p (openEnds Fast.tw14364793385576792824 PySem.Challenge.pw_toll_k08_no_program w 8466)=some b
abbrev zP(w:World):Prop:=z_V (λs=>(z_O s,zA.map s.heap.get?)) (z_G,(zK w.params).map λp=>some p.2) w
theorem o_m{α β γ:Type}{X:Option α}{f:α->β}{g:α->γ}{a:β}{b:γ}(h:X.map f=some a)(k:X.map g=some b):X.map (λs=>(f s,g s))=some (a,b):=by cases X <;> simp_all
theorem z_0f(w:World):z_V (λs=>(z_O s).1) z_G.1 (w.withFollow "special-get-raises" false):=by walk_at "k"
theorem z_1f(w:World):z_V (λs=>(z_O s).2) z_G.2 (w.withFollow "special-get-raises" false):=by walk_at "k"
theorem z_4f(w:World):z_V (λs=>zA.map s.heap.get?) ((zK (w.withFollow "special-get-raises" false).params).map λp=>some p.2) (w.withFollow "special-get-raises" false):=by walk_at "k"
theorem hl0f(w:World):zP (w.withFollow "special-get-raises" false):=o_m (o_m (z_0f w) (z_1f w)) (z_4f w)
theorem z_0t(w:World):z_V (λs=>(z_O s).1) z_G.1 (w.withFollow "special-get-raises" true):=by walk_at "k"
theorem z_1t(w:World):z_V (λs=>(z_O s).2) z_G.2 (w.withFollow "special-get-raises" true):=by walk_at "k"
theorem z_4t(w:World):z_V (λs=>zA.map s.heap.get?) ((zK (w.withFollow "special-get-raises" true).params).map λp=>some p.2) (w.withFollow "special-get-raises" true):=by walk_at "k"
theorem hl0t(w:World):zP (w.withFollow "special-get-raises" true):=o_m (o_m (z_0t w) (z_1t w)) (z_4t w)
def hl1:LeftO PySem.Challenge.pw_toll_k08_no_program zq ["FORMS","BROUGHT","BODIES","BRACKETS","BRINGS"] zX (Hook.obs (kHook zK zA zAK)) (Hook.val (kHook zK zA zAK)) 8466:=by
 intro w;rw[Fast.te4187177175401517315,Fast.te5923862056798008813,Fast.te14364793385576792824];exact(byRow2 "special-get-raises" (P:=λw=>zP w) hl0f hl0t) w
def said:PySem.Challenge.rw_toll_k08_no_program.wellSaid=true:=by kernel_rfl
def zD:DefRec:=match top 72 with|.FunctionDef n a b _ _ _ c _ _ p=>⟨n,a,b,c,p⟩|_=>⟨"",⟨[],[],none,[],[],none,[]⟩,[],⟨.function,[],false,false,[]⟩,⟨0,0,0,0⟩⟩
def opened(I:WalkO zq ["FORMS","BROUGHT","BODIES","BRACKETS","BRINGS"] (XL zq []) (Hook.says (kHook zK zA zAK)) PySem.Challenge.rw_toll_k08_no_program.row.toRowW zD [] (λf vs=>PySem.call f vs)):PySem.Challenge.rw_toll_k08_no_program.Holds:=by
 refine holds_law said λj=>holds_open (q:=zq) (loose:=["FORMS","BROUGHT","BODIES","BRACKETS","BRINGS"]) (Xt:=zX) (XP:=XL zq []) (d:=zD) (kwd:=[]) (Yf:=Hook.obs (kHook zK zA zAK)) (Ya:=Hook.val (kHook zK zA zAK)) (YP:=Hook.says (kHook zK zA zAK)) (N:=8466) hl1 (Hook.of (kHook zK zA zAK)) (Hook.keeps (kHook zK zA zAK)) (λs e=>xl_of s (Bool.and_eq_true_iff.mp e).1) XL.keeps (by kernel_rfl) (by kernel_rfl) (by kernel_rfl) (λs e=>recFacts_of (Bool.and_eq_true_iff.mp e).2) (by kernel_rfl) j (by kernel_rfl) ⟨rfl,rfl,rfl,rfl,rfl,by decide +kernel⟩ ?hw I
 case hw=>w_witness2
end
abbrev Key:=Sum Int Str
def P9:Key->Value->Bool
 |.inl k,v=>Value.isInt k v
 |.inr x,v=>Value.isStrOf x v
def keyH(w:World):Key->Int
 |.inl k=>hashInt k
 |.inr x=>hashStr w x
def xo:∀{k:Key}{v:Value},P9 k v=true->(∃i t,k=Sum.inl i/\v=Value.int i t)\/(∃x t,k=Sum.inr x/\v=Value.str x t)
 |.inl i,v,h=>by
  obtain⟨t,e⟩:=Value.isInt_shape (k:=i) (v:=v) h;exact .inl ⟨i,t,rfl,e⟩
 |.inr x,v,h=>by
  obtain⟨t,e⟩:=Value.isStrOf_shape (x:=x) (v:=v) h;exact .inr ⟨x,t,rfl,e⟩
def Mj(i:Int)(t:Tok):P9 (.inl i) (.int i t)=true:=by simp[P9,Value.isInt]
def dy(x:Str)(t:Tok):P9 (.inr x) (.str x t)=true:=by simp[P9,Value.isStrOf]
def z2p(a b:Int):decide ((Sum.inl a:Key)=Sum.inl b)=(a==b):=by
 by_cases e:a=b
 ·subst e;simp
 have h:¬ (Sum.inl a:Key)=Sum.inl b:=λq=>e (Sum.inl.inj q);rw[decide_eq_false h];exact(beq_eq_false_iff_ne.mpr e).symm
def z2m(a b:Str):decide ((Sum.inr a:Key)=Sum.inr b)=decide (a=b):=by
 by_cases e:a=b
 ·subst e;simp
 have h:¬ (Sum.inr a:Key)=Sum.inr b:=λq=>e (Sum.inr.inj q);rw[decide_eq_false h,decide_eq_false e]
def z2o(a:Int)(b:Str):decide ((Sum.inl a:Key)=Sum.inr b)=false:=decide_eq_false (λq=>nomatch q)
def z2n(a:Str)(b:Int):decide ((Sum.inr a:Key)=Sum.inl b)=false:=decide_eq_false (λq=>nomatch q)
def yy(prog:Program)(w:World):PySem.KeyKind prog w Key where
 is:=P9
 hash:=keyH w
 inj:=λv a b Z I=>by
  rcases xo Z with⟨i,t,rfl,rfl⟩|⟨x,t,rfl,rfl⟩
  ·rcases xo I with⟨j,u,rfl,e⟩|⟨y,u,rfl,e⟩
   ·injection e with e1 _;rw[e1]
   exact nomatch e
  rcases xo I with⟨j,u,rfl,e⟩|⟨y,u,rfl,e⟩
  ·exact nomatch e
  injection e with e1 _;rw[e1]
 byValue:=λk v h=>by
  rcases xo h with⟨i,t,rfl,rfl⟩|⟨x,t,rfl,rfl⟩ <;> rfl
 pyHash:=λq h=>by
  rcases xo q with⟨i,t,rfl,rfl⟩|⟨x,t,rfl,rfl⟩
  ·exact wpAny_pyHash_int h
  exact wpAny_pyHash_str h
 eqBool:=λhu q h=>by
  rcases xo hu with⟨i,t,rfl,rfl⟩|⟨x,t,rfl,rfl⟩
  ·rcases xo q with⟨j,u,rfl,rfl⟩|⟨y,u,rfl,rfl⟩
   ·rw[z2p]at h;exact wpAny_eqBool_int h
   rw[z2o]at h;exact SeqAt.EqAt.int_str i t y u _ _ _ _ h
  rcases xo q with⟨j,u,rfl,rfl⟩|⟨y,u,rfl,rfl⟩
  ·rw[z2n]at h;exact SeqAt.EqAt.str_int x t j u _ _ _ _ h
  rw[z2m]at h;exact wpAny_eqBool_str h
 «strs»:=λk x t v h=>by
  rcases xo h with⟨i,u,rfl,e⟩|⟨y,u,rfl,e⟩
  ·exact nomatch e
  injection e with e1 _
  subst e1;cases v <;> rfl
def T6(prog:Program)(w:World)(i:Int)(t:Tok):(yy prog w).is (.inl i) (.int i t)=true:=Mj i t
def dh(prog:Program)(w:World)(x:Str)(t:Tok):(yy prog w).is (.inr x) (.str x t)=true:=dy x t
inductive V where
 |non|bl (b:Bool)|int (i:Int)|str (x:Str)|byt (b:Array UInt8)|flt (b:UInt64)|ref (a:Addr)|ty (n:String)
 deriving DecidableEq
def RelV:V->Value->Prop
 |.non,u=>u=Value.none
 |.bl b,u=>u=Value.bool b
 |.int i,u=>∃t,u=Value.int i t
 |.str x,u=>∃t,u=Value.str x t
 |.byt b,u=>∃t,u=Value.bytes b t
 |.flt b,u=>∃t,u=Value.float b t
 |.ref a,u=>u=Value.ref a
 |.ty n,u=>u=Value.type n
abbrev Vals:List V->List Value->Prop:=Paired RelV
def Vals.length(r:Vals xs us):xs.length=us.length:=Paired.length r
theorem Vals.get:∀{xs:List V}{us:List Value}{i:Nat}{x:V},Vals xs us->xs[i]?=some x->∃u,us[i]?=some u/\RelV x u
 |_,_,_,_,.nil,e=>by simp at e
 |_,_,0,_,.cons r _,e=>by simp at e;subst e;exact⟨_,rfl,r⟩
 |_,_,i+1,x,.cons _ t,e=>by
  obtain⟨u,h1,h2⟩:=Vals.get (i:=i) (x:=x) t (by simpa using e)
  exact⟨u,by simpa using h1,h2⟩
def Vals.set(r:RelV x u):∀{xs:List V}{us:List Value}(i:Nat),Vals xs us->Vals (xs.set i x) (us.set i u)
 |_,_,_,.nil=>.nil
 |_,_,0,.cons _ t=>.cons r t
 |_,_,i+1,.cons q t=>.cons q (Vals.set r i t)
def Vals.append:∀{xs ys:List V}{us ws:List Value},Vals xs us->Vals ys ws->Vals (xs++ys) (us++ws)
 |_,_,_,_,.nil,s=>s
 |_,_,_,_,.cons r t,s=>.cons r (Vals.append t s)
def Vals.take:∀{xs:List V}{us:List Value}(n:Nat),Vals xs us->Vals (xs.take n) (us.take n)
 |_,_,0,_=>.nil
 |_,_,_+1,.nil=>.nil
 |_,_,n+1,.cons r t=>.cons r (Vals.take n t)
def Vals.drop:∀{xs:List V}{us:List Value}(n:Nat),Vals xs us->Vals (xs.drop n) (us.drop n)
 |_,_,0,r=>r
 |_,_,_+1,.nil=>.nil
 |_,_,n+1,.cons _ t=>Vals.drop n t
def RelO:Option V->Option Value->Prop
 |some v,some u=>RelV v u
 |none,none=>True
 |_,_=>False
def KV{κ:Type}:List (κ×V)->List (κ×Value)->Prop:=Paired λ(p:κ×V)(q:κ×Value)=>p.1=q.1/\RelV p.2 q.2
def kV:Key->V
 |.inl i=>.int i
 |.inr x=>.str x
inductive HO where
  |lst (xs:List V)
  |tup (xs:List V)
  |dK (kvs:List (Key×V))|dT (kvs:List (List Key×V))
  |set (S:Int->Bool) (n:Nat)
  |ins (C dx:Addr) (fs:List (Str×V))
  |own (x:Addr)
  |xd (fs:List (Str×V))
  |met (f x:Addr)
  |rng (lo hi:Int)
  |frz (o:Obj) (u:HO)
  |tbl (ps:Array Value)
  |ext (U:Heap->Prop)
abbrev Hp:=Addr->Option HO
def upd(H:Hp)(a:Addr)(o:HO):Hp:=λb=>if b=a then some o else H b
def zu:upd H a o a=some o:=by unfold upd;rw[if_pos rfl]
def zv(h:b≠a):upd H a o b=H b:=by unfold upd;rw[if_neg h]
def Oa:upd (upd H a o) a u=upd H a u:=by
 funext b;unfold upd;split <;> rfl
def zp{H:Hp}{o:HO}(h:H a=some o)(h':H b=none):a≠b:=by
 intro e;subst e;rw[h]at h';cases h'
section
variable(P:Program)(w:World)
def wf(H:Hp)(h:Heap)(a:Addr):HO->Prop
 |.lst xs=>xs.length<=sizeLine/\∃(its:List Value)(n:Nat),Vals xs its/\h.get? a=some {cls:=.type "list",data:=.seq its.toArray n}
 |.tup xs=>xs.length<=sizeLine/\∃its:List Value,Vals xs its/\IsTup h a its.toArray/\∃o,h.get? a=some o/\o.dict=none
 |.dK kvs=>kvs.length<=sizeLine/\(a==sysModules)=false/\∃vs,KV kvs vs/\h.DictOf (yy P w) a vs
 |.dT kvs=>kvs.length<=sizeLine/\(a==sysModules)=false/\∃xs:List (List Key×Addr×Value),
   Paired (λ(p:List Key×V)(q:List Key×Addr×Value)=>p.1=q.1/\H q.2.1=some (.tup (p.1.map kV))/\RelV p.2 q.2.2) kvs xs /\
   ∃o es ep,h.get? a=some o/\o.ExactDict/\o.data=.dict es ep/\es.toList=xs.map (entryOfKey (tupleKind (yy P w)))/\(xs.map (·.1)).Nodup
 |.set S n=>h.SetOf (intKind P w) a S n
 |.ins C dx fs=>H dx=some (.own a)/\fs.length<=1000/\dx≠a/\h.get? a=some (W.instObj C dx) /\
   ∃mA,h.Ns1 dx mA/\(∀f,RelO (fs.lookup f) (mA f))/\PySem.Within mA (fs.map (·.1))
 |.own _=>∃o,h.get? a=some o
 |.xd fs=>∃mA,h.Ns1 a mA/\∀f,RelO (fs.lookup f) (mA f)
 |.rng lo hi=>∃t u v,h.get? a=some {cls:=.type "range",data:=.fields #[.int lo t,.int hi u,.int 1 v]}
 |.frz o u=>h.get? a=some o/\wf H h a u
 |.tbl ps=>h.get? a=some {cls:=.none,data:=.fields ps}
 |.met f x=>h.get? a=some (W.methodObj (.ref f) (.ref x))
 |.ext U=>U h/\(∃o,h.get? a=some o)/\∀h1 h2:Heap,U h1->(∀o,h1.get? a=some o->h2.get? a=some o)->U h2
def HOk(H:Hp)(h:Heap):Prop:=∀a o,H a=some o->wf P w H h a o
end
variable{P:Program}{w:World}{H H':Hp}{h h':Heap}{a:Addr}{o:HO}
def wf.lt(x:wf P w H h a o):a<h.objs.size:=by
 cases o with
 |lst xs=>obtain⟨_,_,_,_,e⟩:=x;exact zae e
 |tup xs=>obtain⟨_,_,_,p⟩:=x;exact p.1.lt
 |dK kvs=>obtain⟨_,_,_,_,o,_,_,e,_⟩:=x;exact zae e
 |dT kvs=>obtain⟨_,_,_,_,o,_,_,e,_⟩:=x;exact zae e
 |set S n=>obtain⟨o,_,_,_,e,_⟩:=x;exact zae e
 |ins C dx fs=>obtain⟨_,_,_,e,_⟩:=x;exact zae e
 |own y=>obtain⟨_,e⟩:=x;exact zae e
 |xd fs=>obtain⟨_,⟨_,_,_,e,_⟩,_⟩:=x;exact zae e
 |rng lo hi=>obtain⟨_,_,_,e⟩:=x;exact zae e
 |frz ob u=>obtain⟨e,_⟩:=x;exact zae e
 |tbl ps=>exact zae (show h.get? a=some _ from x)
 |met f y=>exact zae (show h.get? a=some _ from x)
 |ext U=>obtain⟨_,⟨_,e⟩,_⟩:=x;exact zae e
def Paired.mapP{α j:Type}{F G:α->j->Prop}:∀{l₁:List α}{l₂:List j},Paired F l₁ l₂->(∀a b,F a b->G a b)->Paired G l₁ l₂
 |_,_,.nil,_=>.nil
 |_,_,.cons r t,f=>.cons (f _ _ r) (Paired.mapP t f)
def wf.stay(x:wf P w H h a o)(k:∀ b u,(b=a\/H b=some (.own a))->h.get? b=some u->h'.get? b=some u)(ho:∀ b,H b=some (.own a)->H' b=some (.own a))(ht:∀ b xs,H b=some (.tup xs)->H' b=some (.tup xs)):wf P w H' h' a o:=by
 induction o with
 |lst xs=>obtain⟨z,its,n,r,e⟩:=x;exact⟨z,its,n,r,k _ _ (.inl rfl) e⟩
 |tup xs=>obtain⟨z,its,r,⟨j,e,c⟩,Z,ed,cd⟩:=x;exact⟨z,its,r,⟨j,k _ _ (.inl rfl) e,c⟩,Z,k _ _ (.inl rfl) ed,cd⟩
 |dK kvs=>obtain⟨z,y,vs,r,j,es,I,e,c⟩:=x;exact⟨z,y,vs,r,j,es,I,k _ _ (.inl rfl) e,c⟩
 |dT kvs =>
  obtain⟨z,y,xs,r,j,es,I,e,c⟩:=x;exact⟨z,y,xs,Paired.mapP r λp q z=>⟨z.1,ht _ _ z.2.1,z.2.2⟩,j,es,I,k _ _ (.inl rfl) e,c⟩
 |set S n=>obtain⟨j,es,I,t,e,c⟩:=x;exact⟨j,es,I,t,k _ _ (.inl rfl) e,c⟩
 |ins C dx fs =>
  obtain⟨d,z,ne,e,mA,⟨Z,es,I,e2,c⟩,r⟩:=x;exact⟨ho _ d,z,ne,k _ _ (.inl rfl) e,mA,⟨Z,es,I,k _ _ (.inr d) e2,c⟩,r⟩
 |own y=>obtain⟨j,e⟩:=x;exact⟨j,k _ _ (.inl rfl) e⟩
 |xd fs=>obtain⟨mA,⟨Z,es,I,e,c⟩,r⟩:=x;exact⟨mA,⟨Z,es,I,k _ _ (.inl rfl) e,c⟩,r⟩
 |rng lo hi=>obtain⟨t,u,v,e⟩:=x;exact⟨t,u,v,k _ _ (.inl rfl) e⟩
 |frz j u ih=>obtain⟨e,q⟩:=x;exact⟨k _ _ (.inl rfl) e,ih q⟩
 |tbl ps =>
  have e:h.get? a=some {cls:=.none,data:=.fields ps}:=x;show h'.get? a=some {cls:=.none,data:=.fields ps};exact k a _ (.inl rfl) e
 |met f y =>
  have e:h.get? a=some (W.methodObj (.ref f) (.ref y)):=x;show h'.get? a=some (W.methodObj (.ref f) (.ref y));exact k a _ (.inl rfl) e
 |ext U=>obtain⟨p,⟨o,e⟩,st⟩:=x;exact⟨st _ _ p λo q=>k _ _ (.inl rfl) q,⟨o,k _ _ (.inl rfl) e⟩,st⟩
def HOk.lt(x:HOk P w H h)(e:H a=some o):a<h.objs.size:=(x a o e).lt
def HOk.fresh(x:HOk P w H h)(e:h.objs.size<=a):H a=none:=by
 cases q:H a with
 |none=>rfl
 |some u=>exact absurd (Nat.lt_of_lt_of_le (x.lt q) e) (Nat.lt_irrefl _)
def HOk.kept(x:HOk P w H h)(k:∀ b u,h.get? b=some u->h'.get? b=some u):HOk P w H h':=λa o e =>
 (x a o e).stay (λb u _ q=>k b u q) (λ_ q=>q) λ_ _ q=>q
def HOk.laid(x:HOk P w H h)(k:∀ b u,h.get? b=some u->h'.get? b=some u)(Z:h.objs.size<=a)(j:wf P w (upd H a o) h' a o):HOk P w (upd H a o) h':=λb u e=>by
 have I:=x.fresh Z;by_cases hb:b=a
 ·subst hb;rw[zu]at e;cases e;exact j
 rw[zv hb]at e;exact(x b u e).stay (λc v _ q=>k c v q) (λc q=>by rw[zv (zp q I)];exact q) λc xs q=>by rw[zv (zp q I)];exact q
def Rd(H:Hp)(a:Addr)(u:HO):Prop:=H a=some u\/∃o,H a=some (.frz o u)
def Rd.ok(r:Rd H a u)(x:HOk P w H h):wf P w H h a u:=by
 rcases r with r|⟨o,r⟩
 ·exact x a u r
 obtain⟨_,q⟩:=x a _ r;exact q
def Mut:Option HO->Prop
 |some (.lst _)=>True
 |some (.dK _)=>True
 |some (.dT _)=>True
 |some (.set _ _)=>True
 |some (.ins _ _ _)=>True
 |some (.ext _)=>True
 |_=>False
section
variable{x e:Addr}{o':HO}
def HOk.write(ok:HOk P w H h)(Z:Mut (H x))(he:e=x\/H e=some (.own x))(k:∀ b u,b≠e->h.get? b=some u->h'.get? b=some u)(a1:∃ u,h'.get? e=some u)(a0:wf P w (upd H x o') h' x o'):HOk P w (upd H x o') h':=λb u q=>by
 have j:∀c y,H c=some (.own y)->c≠x:=λc y r z=>by subst z;rw[r]at Z;exact Z
 have I:∀c xs,H c=some (.tup xs)->c≠x:=λc xs r z=>by subst z;rw[r]at Z;exact Z
 by_cases hb:b=x
 ·subst hb;rw[zu]at q;cases q;exact a0
 rw[zv hb]at q;by_cases hbe:b=e
 ·have q':H b=some (.own x):=by
   rcases he with z|z
   ·exact absurd (hbe.trans z) hb
   rw[hbe];exact z
  rw[q]at q';cases q';obtain⟨v,hv⟩:=a1;exact⟨v,by rw[hbe];exact hv⟩
 refine(ok b u q).stay (λc v hc r=>k c v ?_ r) (λc r=>by rw[zv (j c b r)];exact r) λc xs r=>by rw[zv (I c xs r)];exact r
 rcases hc with rfl|hc
 ·exact hbe
 rintro rfl;rcases he with z|z
 ·exact j c b hc z
 rw[hc]at z;cases z;exact hb rfl
end
structure Un(fs ex:List Addr)(H H':Hp)(h h':Heap):Prop where
 keep:∀b o,h.get? b=some o->H b=none->b∉fs->b∉ex->h'.get? b=some o
 slot:∀b o,h.get? b=some o->H b=none->b∈fs->b∉ex->∃sl,h'.get? b=some {o with slots:=sl}
 free:∀b o,h.get? b=some o->H b=none->b∉ex->H' b=none
 there:∀b o,h.get? b=some o->b∉ex->∃o',h'.get? b=some o'
 tups:∀b xs,H b=some (.tup xs)->H' b=some (.tup xs)
 frzs:∀b o u,H b=some (.frz o u)->H' b=some (.frz o u)
 tbls:∀b ps,H b=some (.tbl ps)->∃more,H' b=some (.tbl (ps++more))
section
variable{fs ex:List Addr}{H1:Hp}{h1:Heap}{x e:Addr}
def Un.any(u:Un fs ex H H1 h h1)(q:h.get? b=some ob)(n:H b=none)(j:b∉ex):∃sl,h1.get? b=some {ob with slots:=sl}:=by
 by_cases hb:b∈fs
 ·exact u.slot b ob q n hb j
 exact⟨ob.slots,u.keep b ob q n hb j⟩
def Un.kept(k:∀ b u,h.get? b=some u->h'.get? b=some u):Un fs ex H H h h' :=
 ⟨λb j q _ _ _=>k b j q,λb j q _ _ _=>⟨j.slots,k b j q⟩,λ_ _ _ n _=>n,λb j q _=>⟨j,k b j q⟩,λ_ _ q=>q,λ_ _ _ q=>q,λ_ ps q=>⟨#[],by rw[q];simp⟩⟩
def Un.refl:Un fs ex H H h h:=Un.kept λ_ _ q=>q
def Un.laid(k:∀ b u,h.get? b=some u->h'.get? b=some u)(I:h.objs.size<=a)(j:H a=none):Un fs ex H (upd H a o) h h' where
 keep:=λb u q _ _ _=>k b u q
 slot:=λb u q _ _ _=>⟨u.slots,k b u q⟩
 free:=λb u q n _=>by rw[zv (Nat.ne_of_lt (Nat.lt_of_lt_of_le (zae q) I))];exact n
 there:=λb u q _=>⟨u,k b u q⟩
 tups:=λb xs q=>by rw[zv (zp q j)];exact q
 frzs:=λb u xs q=>by rw[zv (zp q j)];exact q
 tbls:=λb ps q=>⟨#[],by rw[zv (zp q j),q];simp⟩
def Un.write(j:Mut (H x))(he:e=x\/H e=some (.own x))(k:∀ b u,b≠e->h.get? b=some u->h'.get? b=some u)(Z:∃ u,h'.get? e=some u):Un fs ex H (upd H x o) h h':=by
 have hx:∀b,H b=none->b≠x:=λb n z=>by subst z;rw[n]at j;exact j
 have hb:∀b,H b=none->b≠e:=λb n z=>by
  subst z;rcases he with r|r
  ·exact hx b n r
  rw[n]at r;cases r
 have I:∀b u,H b=some u->¬ Mut (some u)->b≠x:=λb u q nm z=>by subst z;rw[q]at j;exact nm j
 refine⟨λb u q n _ _=>k b u (hb b n) q,λb u q n _ _=>⟨u.slots,k b u (hb b n) q⟩,λb u q n _=>by rw[zv (hx b n)];exact n,λb u q _=>?_,
  λb xs q=>by rw[zv (I b _ q λz=>z)];exact q,λb u xs q=>by rw[zv (I b _ q λz=>z)];exact q,λb ps q=>⟨#[],by rw[zv (I b _ q λz=>z),q];simp⟩⟩
 by_cases hbe:b=e
 ·subst hbe;exact Z
 exact⟨u,k b u hbe q⟩
end
def trk(h:Heap)(H:Hp):List Addr:=(List.range h.objs.size).filter λa=>(H a).isSome
def hidT(h:Heap)(H:Hp):Heap:=W.hideAll h (trk h H)
def Mm(h:Heap)(H:Hp):(hidT h H).objs.size=h.objs.size:=W.hideAll_size _ _
def Hn{o:Obj}(e:h.get? b=some o)(n:H b=none):(hidT h H).get? b=some o :=
 W.hideAll_get _ e λj=>by
  have q:(H b).isSome=true:=(List.mem_filter.mp j).2;rw[n]at q;simp at q
def Cw{o:Obj}(e:(hidT h H).get? b=some o):h.get? b=some o/\H b=none:=by
 have j:h.get? b=some o:=W.of_hideAll (trk h H) e;refine⟨j,?_⟩;cases q:H b with
 |none=>rfl
 |some x =>
  have I:b∈trk h H:=List.mem_filter.mpr ⟨List.mem_range.mpr (zae j),by simp[q]⟩
  have z:(hidT h H).get? b=none:=W.hideAll_none (trk h H) I;rw[z]at e;cases e
structure Mod(K:W.Frag)(mg:Str->Option Value)(base:Heap):Prop where
 kin:K.In base
 glob:base.Ns mainGlobals mg
 blt:∃mb,base.Ns builtinsNs mb/\∀x:Str,x≠"__name__"->mb x=bootBuiltins x
 nolimit:base.NoLimit
structure Cx where
 prog:Program
 w:World
 K:W.Frag
 mg:Str->Option Value
 base:Heap
 A:Around
 N:List Str
 s₀:Shared
 H_:Hp
 env:Env
 outer:List Env
 stack:List Env
 ex:List Addr
 fn:Str->Bool
 calm:Bool
 pn:List (Addr×Obj)
 xe:Value->Shared->Prop
def frs(l:List Env):List Addr:=l.filterMap (·.frame)
abbrev Cx.fs(X:Cx):List Addr:=frs X.outer
def Vis(j:Scope)(x:Str):Prop:=j.names.lookup x=some .local\/j.names.lookup x=some .cell\/j.names.lookup x=some .free
def Loc(j:Scope)(x:Str):Prop:=j.names.lookup x=some .local\/j.names.lookup x=some .cell
def Look(env:Env)(h:Heap)(m:Str->Option Value)(x:Str)(u:Value):Prop :=
 (env.kindOf x=some .local/\m x=some u)\/((env.kindOf x=some .cell\/env.kindOf x=some .free)/\∃c,env.cells.lookup x=some c/\h.IsCell c (some u))
structure Cx.Ok(X:Cx):Prop where
 mod:Mod X.K X.mg X.base
 kind:X.env.scope.kind=.function
 glob:X.env.globals=mainGlobals
 blt:X.env.builtins=builtinsNs
 above:X.s₀.heap.objs.size<=X.env.locals
 inj:∀x y c,X.env.cells.lookup x=some c->X.env.cells.lookup y=some c->x=y
 has:∀x,(X.env.kindOf x=some .cell\/X.env.kindOf x=some .free)->∃c,X.env.cells.lookup x=some c
 cab:∀x c,X.fn x=true->X.env.cells.lookup x=some c->X.s₀.heap.objs.size<=c
 hd:X.calm=true->X.A.handled=none
 frames:X.A.frames=some X.stack
 stk:X.stack=X.outer\/(X.stack=X.env::X.outer/\X.env.frame=some X.env.locals)
 exf:∀b∈X.ex,b≠X.env.locals/\∀x c,X.env.cells.lookup x=some c->c≠b
 bs:∀b o,X.base.get? b=some o->X.s₀.heap.get? b=some o/\X.H_ b=none
 bsz:X.base.objs.size<=X.s₀.heap.objs.size
 noex:∀b o,X.base.get? b=some o->b∉X.ex
 exfs:∀b∈X.ex,b∉X.fs
 funs:X.s₀.heap.FunFrames X.base X.outer
 frf:∀b∈X.fs,X.H_ b=none
structure Inv(X:Cx)(pn:List (Addr×Obj))(σ:List (Option V))(H:Hp)(s:Shared):Prop where
 ok:X.Ok
 os:s.os=X.s₀.os
 bare:AllBare s.gens
 base:Un X.fs X.ex X.H_ H X.s₀.heap s.heap
 loc:∃m,s.heap.Ns X.env.locals m/\∀(i:Nat)(x:Str)(v:V),X.N[i]?=some x->σ[i]?=some (some v)->Vis X.env.scope x->∃u,RelV v u/\Look X.env s.heap m x u
 cell:∀x c,X.env.cells.lookup x=some c->∃v,s.heap.IsCell c v
 free:H X.env.locals=none
 freeC:∀x c,X.env.cells.lookup x=some c->H c=none
 pin:∀p∈X.pn++pn,s.heap.get? p.1=some p.2/\H p.1=none/\p.1≠X.env.locals/\p.1∉X.fs/\∀v,p.2.data≠.cell v
 hok:HOk X.prog X.w H s.heap
 len:σ.length=X.N.length
variable{X:Cx}{pn:List (Addr×Obj)}{σ:List (Option V)}{s:Shared}
def Cx.Ok.nofr(ok:X.Ok){o:Obj}(e:X.base.get? b=some o):b∉X.fs:=λj=>by
 have:=(ok.funs.mem j).1;rw[e]at this;cases this
def Inv.bs(I:Inv X pn σ H s):∀b o,X.base.get? b=some o->s.heap.get? b=some o/\H b=none:=λb o e =>
 ⟨I.base.keep b o (I.ok.bs b o e).1 (I.ok.bs b o e).2 (I.ok.nofr e) (I.ok.noex b o e),I.base.free b o (I.ok.bs b o e).1 (I.ok.bs b o e).2 (I.ok.noex b o e)⟩
def Inv.bk(I:Inv X pn σ H s):∀b o,X.base.get? b=some o->s.heap.get? b=some o:=λb o e=>(I.bs b o e).1
def Inv.mod(I:Inv X pn σ H s):Mod X.K X.mg X.base:=I.ok.mod
def Inv.kIn(I:Inv X pn σ H s):X.K.In s.heap:=I.ok.mod.kin.keeps I.bk
def Inv.fr(I:Inv X pn σ H s):∃m,Fr X.base X.env.locals s.heap m :=
 let ⟨m,hn,_⟩:=I.loc
 ⟨m,hn,I.bk,zak I.ok.bsz I.ok.above⟩
def Inv.lt(I:Inv X pn σ H s):X.env.locals<s.heap.objs.size:=let ⟨_,hn,_⟩:=I.loc;hn.lt
def Inv.sz(I:Inv X pn σ H s):X.s₀.heap.objs.size<=s.heap.objs.size:=zak I.ok.above (Nat.le_of_lt I.lt)
def Inv.nofs(I:Inv X pn σ H s)(h:s.heap.objs.size<=a):a∉X.fs:=λj=>by
 obtain⟨_,o,ho,_⟩:=I.ok.funs.mem j;exact absurd (Nat.lt_of_lt_of_le (zae ho) (zak I.sz h)) (Nat.lt_irrefl _)
def Inv.cne(I:Inv X pn σ H s):∀x c,X.env.cells.lookup x=some c->c≠X.env.locals:=λx c e z=>by
 obtain⟨v,o,ho,Z⟩:=I.cell x c e;obtain⟨m,⟨o',es,ep,j,q,_⟩,_⟩:=I.loc;rw[z,j]at ho;cases ho;rw[q]at Z;cases Z
def Inv.funs(I:Inv X pn σ H s):s.heap.FunFrames X.base X.outer:=by
 have all:∀(l:List Env),(∀b∈frs l,b∈X.fs)->X.s₀.heap.FunFrames X.base l->s.heap.FunFrames X.base l:=by
  intro l
  induction l with
  |nil=>intro _ _;trivial
  |cons env r ih =>
   intro hs hl;obtain⟨hk,⟨L,o,j,hn,ho,hd⟩,hr⟩:=hl;have Z:L∈X.fs:=hs L (by unfold frs;rw[List.filterMap_cons,j];exact zao)
   obtain⟨sl,e⟩:=I.base.slot L o ho (I.ok.frf L Z) Z λz=>I.ok.exfs L z Z;exact⟨hk,⟨L,_,j,hn,e,hd⟩,ih (λb q=>hs b (by unfold frs;rw[List.filterMap_cons,j];exact zal _ q)) hr⟩
 exact all X.outer (λ_ q=>q) I.ok.funs
def Inv.stack(I:Inv X pn σ H s):s.heap.FunFrames X.base X.stack:=by
 rcases I.ok.stk with e|⟨e,hf⟩
 ·rw[e];exact I.funs
 rw[e];obtain⟨m,j,_⟩:=I.loc;refine .cons (by rw[I.ok.kind];decide) hf j ?_ I.funs
 exact Heap.get?_none_of_le (zak I.ok.bsz I.ok.above)
def Inv.stkSub(I:Inv X pn σ H s):∀b∈frs X.stack,b∈X.env.locals::X.fs:=λb j=>by
 rcases I.ok.stk with e|⟨e,hf⟩
 ·rw[e]at j;exact zal _ j
 rw[e]at j;unfold frs at j;rw[List.filterMap_cons,hf]at j;exact j
def Inv.stkFree(I:Inv X pn σ H s):∀b∈frs X.stack,H b=none:=λb j=>by
 rcases zam.mp (I.stkSub b j) with e|j
 ·rw[e];exact I.free
 obtain⟨_,o,ho,_⟩:=I.ok.funs.mem j;exact I.base.free b o ho (I.ok.frf b j) λz=>I.ok.exfs b z j
def Inv.step{t':Nat}{d':Drawn}{ch:List Addr}(I:Inv X pn σ H s)(a0:∀ b∈ch,(b∈X.ex\/X.s₀.heap.objs.size<=b)/\b≠X.env.locals/\(∀ x c,X.env.cells.lookup x=some c->c≠b)/\∀ p∈X.pn++pn,p.1≠b)(keep:∀ b o,b≠X.env.locals->b∉X.fs->b∉ch->s.heap.get? b=some o->H b=none->h'.get? b=some o)(slot:∀ b o,b≠X.env.locals->b∈X.fs->b∉ch->s.heap.get? b=some o->H b=none->∃ sl,h'.get? b=some {o with slots:=sl})(free:∀ b o,b∉ch->s.heap.get? b=some o->H b=none->H' b=none)(there:∀ b o,b∉ch->s.heap.get? b=some o->∃ o',h'.get? b=some o')(tups:∀ b xs,H b=some (.tup xs)->H' b=some (.tup xs))(frzs:∀ b o u,H b=some (.frz o u)->H' b=some (.frz o u))(tbls:∀ b ps,H b=some (.tbl ps)->∃ more,H' b=some (.tbl (ps++more)))(ns:∀ m,s.heap.Ns X.env.locals m->h'.Ns X.env.locals m)(a6:HOk X.prog X.w H' h')(hg:AllBare g') :
  Inv X pn σ H' {s with heap:=h',gens:=g',drawn:=d',toks:=t'}:=by
 have a4:∀b o,X.s₀.heap.get? b=some o->b≠X.env.locals:=λb o e=>Nat.ne_of_lt (Nat.lt_of_lt_of_le (zae e) I.ok.above);have a2:∀b o,X.s₀.heap.get? b=some o->b∉X.ex->b∉ch:=λb o e j hb=>by
  rcases(a0 b hb).1 with z|z
  ·exact j z
  exact absurd (Nat.lt_of_lt_of_le (zae e) z) (Nat.lt_irrefl _)
 have a1:∀x c,X.env.cells.lookup x=some c->∀v,s.heap.IsCell c v->h'.IsCell c v:=λx c e v ⟨o,ho,hd⟩=>by
  have Z:c∉ch:=λz=>(a0 c z).2.2.1 x c e rfl;by_cases hc:c∈X.fs
  ·obtain⟨sl,q⟩:=slot c o (I.cne x c e) hc Z ho (I.freeC x c e);exact⟨_,q,hd⟩
  exact⟨o,keep c o (I.cne x c e) hc Z ho (I.freeC x c e),hd⟩
 refine⟨I.ok,I.os,hg,⟨λb o e n hb j=>?_,λb o e n hb j=>?_,λb o e n j=>?_,λb o e j=>?_,λb xs e=>tups b xs (I.base.tups b xs e),λb o xs e=>frzs b o xs (I.base.frzs b o xs e),λb ps e=>?_⟩,?_,λx c e=>?_,?_,λx c e=>?_,λp hp=>?_,a6,I.len⟩
 ·exact keep b o (a4 b o e) hb (a2 b o e j) (I.base.keep b o e n hb j) (I.base.free b o e n j)
 ·obtain⟨sl,e1⟩:=I.base.slot b o e n hb j;obtain⟨a5,e2⟩:=slot b _ (a4 b o e) hb (a2 b o e j) e1 (I.base.free b o e n j);exact⟨a5,e2⟩
 ·obtain⟨o',e1⟩:=I.base.there b o e j;exact free b o' (a2 b o e j) e1 (I.base.free b o e n j)
 ·obtain⟨o',e1⟩:=I.base.there b o e j;exact there b o' (a2 b o e j) e1
 ·obtain⟨m1,e1⟩:=I.base.tbls b ps e;obtain⟨m2,e2⟩:=tbls b _ e1;exact⟨m1++m2,by rw[e2,Array.append_assoc]⟩
 ·obtain⟨m,hn,hl⟩:=I.loc;refine⟨m,ns m hn,λi x v e1 e2 e3=>?_⟩;obtain⟨u,r,l⟩:=hl i x v e1 e2 e3;refine⟨u,r,?_⟩;rcases l with l|⟨k,c,e,z⟩
  ·exact .inl l
  exact .inr ⟨k,c,e,a1 x c e _ z⟩
 ·obtain⟨v,z⟩:=I.cell x c e;exact⟨v,a1 x c e v z⟩
 ·obtain⟨m,⟨o,_,_,ho,_⟩,_⟩:=I.loc;exact free _ o (λz=>(a0 _ z).2.1 rfl) ho I.free
 ·obtain⟨v,o,ho,hd⟩:=I.cell x c e;exact free c o (λz=>(a0 c z).2.2.1 x c e rfl) ho (I.freeC x c e)
 obtain⟨e,n,ne,nf,d⟩:=I.pin p hp;have Z:p.1∉ch:=λz=>(a0 p.1 z).2.2.2 p hp rfl;exact⟨keep p.1 p.2 ne nf Z e n,free p.1 p.2 Z e n,ne,nf,d⟩
def Inv.un{t':Nat}(I:Inv X pn σ H s)(u:Un X.fs [] H H' s.heap h')(q:HOk X.prog X.w H' h'):Inv X pn σ H' {s with heap:=h',toks:=t'}:=by
 obtain⟨m,⟨o,es,ep,ho,r⟩,_⟩:=id I.loc;obtain⟨sl,hL⟩:=u.any ho I.free (by simp)
 exact I.step (g':=s.gens) (d':=s.drawn) (ch:=[]) (λ_ z=>nomatch z) (λb o _ Z _ e n=>u.keep b o e n Z (by simp)) (λb o _ Z _ e n=>u.slot b o e n Z (by simp)) (λb o _ e n=>u.free b o e n (by simp)) (λb o _ e=>u.there b o e (by simp)) u.tups u.frzs u.tbls (λm' hm=>by
  obtain⟨o',a0,a1,j,r'⟩:=hm;rw[ho]at j;cases j;exact⟨_,a0,a1,hL,r'⟩) q I.bare
def Inv.call{t':Nat}{d':Drawn}(I:Inv X pn σ H s)(u:Un (frs X.stack) ch H H' s.heap h')(a0:HOk X.prog X.w H' h')(hg:AllBare g')(Z:∀ b∈ch,(b∈X.ex\/X.s₀.heap.objs.size<=b)/\b≠X.env.locals/\(∀ x c,X.env.cells.lookup x=some c->c≠b)/\∀ p∈X.pn++pn,p.1≠b) :
  Inv X pn σ H' {s with heap:=h',gens:=g',drawn:=d',toks:=t'}:=by
 obtain⟨m,⟨o,es,ep,ho,r⟩,_⟩:=id I.loc;obtain⟨sl,hL⟩:=u.any ho I.free λz=>(Z _ z).2.1 rfl;exact I.step (ch:=ch) Z (λb o hL hb j e n=>u.keep b o e n (λz=>(zam.mp (I.stkSub b z)).elim hL hb) j) (λb o _ _ j e n=>u.any e n j) (λb o j e n=>u.free b o e n j) (λb o j e=>u.there b o e j) u.tups u.frzs u.tbls (λm' hm=>by
  obtain⟨o',a1,a2,q,r'⟩:=hm;rw[ho]at q;cases q;exact⟨_,a1,a2,hL,r'⟩) a0 hg
def Inv.turned{t':Nat}{it:Addr}(I:Inv X pn σ H s)(k:∀ b o,b≠it->s.heap.get? b=some o->h'.get? b=some o)(hn:H it=none)(hL:it≠X.env.locals)(h1:it∈X.ex\/X.s₀.heap.objs.size<=it)(h2:∀ x c,X.env.cells.lookup x=some c->c≠it)(h3:∀ p∈X.pn++pn,p.1≠it):Inv X pn σ H {s with heap:=h',toks:=t'}:=by
 have Z:∀b u,H b=some u->b≠it:=λb u e z=>by rw[z,hn]at e;cases e
 refine I.step (g':=s.gens) (d':=s.drawn) (ch:=[it]) (λb hb=>?_) (λb o _ _ j e _=>k b o (λz=>j (by simp[z])) e) (λb o _ _ j e _=>⟨o.slots,k b o (λz=>j (by simp[z])) e⟩) (λ_ _ _ _ n=>n)
  (λb o j e=>⟨o,k b o (λz=>j (by simp[z])) e⟩) (λ_ _ e=>e) (λ_ _ _ e=>e) (λb ps e=>⟨#[],by rw[e];simp⟩) (λm hm=>?_) (λb u e=>?_) I.bare
 ·have e:b=it:=by simpa using hb
  subst e;exact⟨h1,hL,h2,h3⟩
 ·obtain⟨o,es,ep,ho,r⟩:=hm;exact⟨o,es,ep,k _ o (Ne.symm hL) ho,r⟩
 refine(I.hok b u e).stay (λc v j q=>k c v ?_ q) (λ_ q=>q) λ_ _ q=>q;rcases j with z|z
 ·rw[z];exact Z b u e
 exact Z c _ z
def Inv.tok(I:Inv X pn σ H s)(t:Nat):Inv X pn σ H {s with toks:=t}:=I.un (h':=s.heap) (t':=t) Un.refl I.hok
def Inv.kept(I:Inv X pn σ H s)(k:∀ b u,s.heap.get? b=some u->h'.get? b=some u):Inv X pn σ H {s with heap:=h',toks:=t'}:=I.un (Un.kept k) (I.hok.kept k)
def Inv.laid(I:Inv X pn σ H s)(k:∀ b u,s.heap.get? b=some u->h'.get? b=some u)(q:s.heap.objs.size<=a)(j:wf X.prog X.w (upd H a o) h' a o) :
  Inv X pn σ (upd H a o) {s with heap:=h',toks:=t'}:=I.un (Un.laid k q (I.hok.fresh q)) (I.hok.laid k q j)
def Inv.write(I:Inv X pn σ H s)(Z:Mut (H x))(he:e=x\/H e=some (.own x))(k:∀ b u,b≠e->s.heap.get? b=some u->h'.get? b=some u)(j:∃ u,h'.get? e=some u)(q:wf X.prog X.w (upd H x o) h' x o):Inv X pn σ (upd H x o) {s with heap:=h',toks:=t'}:=I.un (Un.write Z he k j) (I.hok.write Z he k j q)
def Inv.weak(I:Inv X pn σ H s)(hl:σ'.length=σ.length)(w:∀ (i:Nat) v,σ'[i]?=some (some v)->σ[i]?=some (some v)):Inv X pn σ' H s :=
 ⟨I.ok,I.os,I.bare,I.base,let ⟨m,hn,hl'⟩:=I.loc;⟨m,hn,λi x v Z q j=>hl' i x v Z (w i v q) j⟩,I.cell,I.free,I.freeC,I.pin,I.hok,hl.trans I.len⟩
def Inv.pins_of(I:Inv X pn σ H s)(h:∀ p∈pins',s.heap.get? p.1=some p.2/\H p.1=none/\p.1≠X.env.locals/\p.1∉X.fs/\∀ v,p.2.data≠.cell v):Inv X pins' σ H s :=
 ⟨I.ok,I.os,I.bare,I.base,I.loc,I.cell,I.free,I.freeC,λp j=>(zas.mp j).elim (λz=>I.pin p (List.mem_append_left _ z)) (h p),I.hok,I.len⟩
def Yv{N:List Str}(q:N.Nodup){i j:Nat}{x:Str}(a:N[i]?=some x)(b:N[j]?=some x):i=j:=by
 obtain⟨h1,Z⟩:=zag.mp a;obtain⟨h2,I⟩:=zag.mp b;exact(List.getElem_inj q).mp (Z.trans I.symm)
def Wb(I:Inv X pn σ H s)(hN:X.N.Nodup)(hi:X.N[i]?=some x)(hx:Loc X.env.scope x)(r:RelV v u)(h:∀ s',Inv X pn (σ.set i (some v)) H s'->(∃ a,Heap.SameBut a s.heap s'.heap/\(a=X.env.locals\/X.env.cells.lookup x=some a))->Q () s')(hf:X.fn x=true\/X.env.scope.names.lookup x=some .local:=by first|exact .inl rfl|exact .inr rfl|assumption):wpAny M A (storeName X.env x u) Q E s:=by
 obtain⟨m,hn,hl⟩:=id I.loc;have a7:(X.env.scope.kind==.class || (X.env.scope.kind==.module&&X.env.locals != X.env.globals))=false:=by rw[I.ok.kind];rfl
 have a2:i<σ.length:=by rw[I.len];exact(zag.mp hi).1
 have cne:=I.cne;have a0:∀{a:Addr}{h':Heap},(∃o,s.heap.get? a=some o/\H a=none)->Heap.SameBut a s.heap h'->HOk X.prog X.w H h':=λ{a h'} ha Z b ob e=>by
  obtain⟨_,_,a1⟩:=ha;refine(I.hok b ob e).stay (λc w' hc q=>(Z.2 c ?_).trans q) (λ_ q=>q) λ_ _ q=>q;rintro rfl;rcases hc with rfl|hc
  ·rw[a1]at e;cases e
  rw[a1]at hc;cases hc
 rcases hx with hk|hk
 ·refine wpAny_storeName_local hk hn (λh' b0 Z=>?_) a7;obtain⟨oL,_,_,a9,_⟩:=id hn;refine h _ ⟨I.ok,I.os,I.bare,⟨λb o e n hb hx=>?_,λb o e n hb hx=>?_,I.base.free,λb o e hx=>?_,I.base.tups,I.base.frzs,I.base.tbls⟩,⟨_,b0,λj y v' e1 e2 e3=>?_⟩,λy c e=>?_,I.free,I.freeC,λp hp=>?_,a0 ⟨oL,a9,I.free⟩ Z,by simpa using I.len⟩ ⟨_,Z,.inl rfl⟩
  ·exact(Z.2 b (Nat.ne_of_lt (Nat.lt_of_lt_of_le (zae e) I.ok.above))).trans (I.base.keep b o e n hb hx)
  ·obtain⟨sl,e1⟩:=I.base.slot b o e n hb hx;exact⟨sl,(Z.2 b (Nat.ne_of_lt (Nat.lt_of_lt_of_le (zae e) I.ok.above))).trans e1⟩
  ·obtain⟨o',e1⟩:=I.base.there b o e hx;exact⟨o',(Z.2 b (Nat.ne_of_lt (Nat.lt_of_lt_of_le (zae e) I.ok.above))).trans e1⟩
  ·by_cases hj:j=i
   ·subst hj;rw[hi]at e1;cases e1;rw[List.getElem?_set_self a2]at e2;cases e2;exact⟨u,r,.inl ⟨hk,by simp⟩⟩
   rw[List.getElem?_set_ne (Ne.symm hj)]at e2;obtain⟨u',r',q⟩:=hl j y v' e1 e2 e3;refine⟨u',r',?_⟩;rcases q with⟨k,e⟩|⟨k,c,e,z⟩
   ·refine .inl ⟨k,?_⟩;have:y≠x:=λe=>hj (Yv hN e1 (e▸hi));simp[this,e]
   exact .inr ⟨k,c,e,z.sameBut Z (cne y c e)⟩
  ·obtain⟨w',z⟩:=I.cell y c e;exact⟨w',z.sameBut Z (cne y c e)⟩
  obtain⟨e,n,ne,nf,d⟩:=I.pin p hp;exact⟨(Z.2 p.1 ne).trans e,n,ne,nf,d⟩
 have a4:X.fn x=true:=by
  rcases hf with z|z
  ·exact z
  rw[z]at hk;cases hk
 obtain⟨c,hc⟩:=I.ok.has x (.inl hk);obtain⟨w',z⟩:=I.cell x c hc;refine wpAny_storeName_cell I.ok.kind hk hc z (λh' a8 Z=>?_);obtain⟨oc,a6,a5⟩:=id z;refine h {s with heap:=h'} ⟨I.ok,I.os,I.bare,⟨λb o e n hb hx=>?_,λb o e n hb hx=>?_,I.base.free,λb o e hx=>?_,I.base.tups,I.base.frzs,I.base.tbls⟩,⟨m,hn.sameBut Z (Ne.symm (cne x c hc)),λj y v' e1 e2 e3=>?_⟩,λy c' e=>?_,I.free,I.freeC,λp hp=>?_,a0 ⟨oc,a6,I.freeC x c hc⟩ Z,by simpa using I.len⟩ ⟨c,Z,.inr hc⟩
 ·exact(Z.2 b (Nat.ne_of_lt (Nat.lt_of_lt_of_le (zae e) (I.ok.cab x c a4 hc)))).trans (I.base.keep b o e n hb hx)
 ·obtain⟨sl,e1⟩:=I.base.slot b o e n hb hx;exact⟨sl,(Z.2 b (Nat.ne_of_lt (Nat.lt_of_lt_of_le (zae e) (I.ok.cab x c a4 hc)))).trans e1⟩
 ·obtain⟨o',e1⟩:=I.base.there b o e hx;exact⟨o',(Z.2 b (Nat.ne_of_lt (Nat.lt_of_lt_of_le (zae e) (I.ok.cab x c a4 hc)))).trans e1⟩
 ·by_cases hj:j=i
  ·subst hj;rw[hi]at e1;cases e1;rw[List.getElem?_set_self a2]at e2;cases e2;exact⟨u,r,.inr ⟨.inl hk,c,hc,a8⟩⟩
  rw[List.getElem?_set_ne (Ne.symm hj)]at e2;obtain⟨u',r',q⟩:=hl j y v' e1 e2 e3;refine⟨u',r',?_⟩;rcases q with q|⟨k,c',e,z'⟩
  ·exact .inl q
  refine .inr ⟨k,c',e,z'.sameBut Z ?_⟩;rintro rfl;exact hj (Yv hN e1 (I.ok.inj _ _ _ e hc▸hi))
 ·by_cases hcc:c'=c
  ·subst hcc;exact⟨_,a8⟩
  obtain⟨w2,z2⟩:=I.cell y c' e;exact⟨w2,z2.sameBut Z hcc⟩
 obtain⟨e,n,ne,nf,d⟩:=I.pin p hp;refine⟨(Z.2 p.1 ?_).trans e,n,ne,nf,d⟩;intro q;rw[q,a6]at e;have q':oc=p.2:=Option.some.inj e;exact d w' (by rw[<- q'];exact a5)
def gj(I:Inv X pn σ H s)(Z:X.N.Nodup)(hi:X.N[i]?=some x)(j:Loc X.env.scope x)(r:RelV v u)(h:∀ s',Inv X pn (σ.set i (some v)) H s'->Q () s')(q:X.fn x=true\/X.env.scope.names.lookup x=some .local:=by first|exact .inl rfl|exact .inr rfl|assumption):wpAny M A (storeName X.env x u) Q E s :=
 Wb I Z hi j r (λs' I' _=>h s' I') q
def Inv.call'(I:Inv X pn σ H s)(ho:s'.os=s.os)(u:Un (frs X.stack) ch H H' s.heap s'.heap)(j:HOk X.prog X.w H' s'.heap)(Z:AllBare s'.gens)(q:∀ b∈ch,(b∈X.ex\/X.s₀.heap.objs.size<=b)/\b≠X.env.locals/\(∀ x c,X.env.cells.lookup x=some c->c≠b)/\∀ p∈X.pn++pn,p.1≠b):Inv X pn σ H' s':=by
 obtain⟨h',g',d',t',o'⟩:=s';have e:o'=s.os:=ho;subst e;exact I.call (g':=g') (t':=t') (d':=d') u j Z q
abbrev XK:=Value->Option Addr->Hp->Prop
abbrev St:=List (Option V)
abbrev VK:=V->Hp->Prop
abbrev TE:=St->Hp->VK->Prop
abbrev TT:=St->Hp->(Bool->Hp->Prop)->Prop
abbrev TA:=St->Hp->(List V->Hp->Prop)->Prop
structure Ends where
 nx:St->Hp->Prop
 rt:VK
 bk:St->Hp->Prop:=λ_ _=>False
 ct:St->Hp->Prop:=λ_ _=>False
abbrev TS:=Ends->St->Hp->Prop
def EP(X:Cx)(pn:List (Addr×Obj))(σ:St)(Q:VK)(u:Value)(s':Shared):Prop:=∃v H',Inv X pn σ H' s'/\RelV v u/\Q v H'
def TP(X:Cx)(pn:List (Addr×Obj))(σ:St)(Q:Bool->Hp->Prop)(b:Bool)(s':Shared):Prop:=∃H',Inv X pn σ H' s'/\Q b H'
def AP(X:Cx)(pn:List (Addr×Obj))(σ:St)(Q:List V->Hp->Prop)(us:List Value)(s':Shared):Prop:=∃vs H',Inv X pn σ H' s'/\Vals vs us/\Q vs H'
def SP(X:Cx)(pn:List (Addr×Obj))(D:Ends)(f:Flow)(s':Shared):Prop :=
 match f with
 |.next=>∃σ' H',Inv X pn σ' H' s'/\D.nx σ' H'
 |.brk=>∃σ' H',Inv X pn σ' H' s'/\D.bk σ' H'
 |.cont=>∃σ' H',Inv X pn σ' H' s'/\D.ct σ' H'
 |.ret u=>∃v σ' H',Inv X pn σ' H' s'/\RelV v u/\D.rt v H'
def PE(X:Cx)(e:Expr)(t:TE):Prop :=
 ∀(pn:List (Addr×Obj))(s:Shared)(σ:St)(H:Hp)(Q:VK),Inv X pn σ H s->t σ H Q->wpAny (model X.prog X.w) X.A (eval e X.env) (EP X pn σ Q) X.xe s
def PT(X:Cx)(e:Expr)(t:TT):Prop :=
 ∀(pn:List (Addr×Obj))(s:Shared)(σ:St)(H:Hp)(Q:Bool->Hp->Prop),Inv X pn σ H s->t σ H Q->wpAny (model X.prog X.w) X.A (isTrue e X.env (eval e X.env)) (TP X pn σ Q) X.xe s
def PW(X:Cx)(e:Expr)(t:TT):Prop :=
 ∀(whole:Sem Value)(pn:List (Addr×Obj))(s:Shared)(σ:St)(H:Hp)(Q:Bool->Hp->Prop),Inv X pn σ H s->t σ H Q->wpAny (model X.prog X.w) X.A (isTrue e X.env whole) (TP X pn σ Q) X.xe s
def PW.pt(h:PW X e t):PT X e t:=h _
def PA(X:Cx)(es:List Expr)(t:TA):Prop :=
 ∀(pos:Pos)(pn:List (Addr×Obj))(s:Shared)(σ:St)(H:Hp)(Q:List V->Hp->Prop),Inv X pn σ H s->t σ H Q->wpAny (model X.prog X.w) X.A (spliced (backTo pos (starEach es X.env))) (AP X pn σ Q) X.xe s
def PS(X:Cx)(st:Stmt)(t:TS):Prop :=
 ∀(pn:List (Addr×Obj))(s:Shared)(σ:St)(H:Hp)(D:Ends),Inv X pn σ H s->t D σ H->wpAny (model X.prog X.w) X.A (exec st X.env) (SP X pn D) X.xe s
def PSs(X:Cx)(st:List Stmt)(t:TS):Prop :=
 ∀(pn:List (Addr×Obj))(s:Shared)(σ:St)(H:Hp)(D:Ends),Inv X pn σ H s->t D σ H->wpAny (model X.prog X.w) X.A (execs st X.env) (SP X pn D) X.xe s
def thn{α:Type}{t:Sem α}{Q j:α->Shared->Prop}{E:Value->Shared->Prop}(h:wpAny M A t Q E s)(q:∀ a s,Q a s->j a s):wpAny M A t j E s:=wpAny_mono h q λ_ _ x=>x
def tVar(i:Nat):TE:=λσ H Q=>∃v,σ[i]?=some (some v)/\Q v H
def tC(v:V):TE:=λ_ H Q=>Q v H
abbrev D_(x:Str):Prop:=(x==("__debug__" : Str))=false
def rk(hN:X.N[i]?=some x)(hv:Vis X.env.scope x)(hd:D_ x:=by decide)(a0:(x==("__classdict__" : Str))=false:=by decide):PE X (.Name x pos) (tVar i):=by
 intro pn s σ H Q I h;obtain⟨v,e,h⟩:=h;obtain⟨m,hn,hl⟩:=I.loc;obtain⟨u,r,l⟩:=hl i x v hN e hv;have Z:EP X pn σ Q u s:=⟨v,H,I,r,h⟩;rcases l with⟨q,hm⟩|⟨q,c,hc,j⟩
 ·exact wpAny_Name (wpAny_loadName_local I.ok.kind q hn hm Z) hd
 rcases q with q|q
 ·exact wpAny_Name (wpAny_loadName_cell I.ok.kind q hc j Z) hd
 exact wpAny_Name (wpAny_loadName_free I.ok.kind q hc j Z a0) hd
def sr {i j pos}:PE X (.Constant (.int i) j pos) (tC (.int i)):=λ_ _ _ H _ I h=>wpAny_Constant_int ⟨.int i,H,I.tok _,⟨_,rfl⟩,h⟩
def z4z {b j pos}:PE X (.Constant (.bool b) j pos) (tC (.bl b)):=λ_ _ _ H _ I h=>Constant_bool ⟨.bl b,H,I,rfl,h⟩
def z1o {j pos}:PE X (.Constant .none j pos) (tC .non):=λ_ _ _ H _ I h=>Constant_none ⟨.non,H,I,rfl,h⟩
def Nq {x j pos}:PE X (.Constant (.str x) j pos) (tC (.str x)):=λ_ _ _ H _ I h=>Calls.Constant_str ⟨.str x,H,I.tok _,⟨_,rfl⟩,h⟩
def Gl(X:Cx)(x:Str):Prop:=X.env.kindOf x=some .globalImplicit
def j7{σ:St}(I:Inv X pn σ H s)(q:Gl X x)(j:X.mg x=some u)(h:Q u s)(Z:D_ x:=by decide):wpAny (model X.prog X.w) X.A (eval (.Name x pos) X.env) Q E s :=
 Calls.Name_function_global I.ok.kind q (Calls.loadGlobal_global (by rw[I.ok.glob];exact I.mod.glob.keeps I.bk) j h) Z
def qo{σ:St}(I:Inv X pn σ H s)(hg:Gl X x)(Z:X.mg x=none)(j:bootBuiltins x=some u)(h:Q u s)(q:x≠"__name__":=by decide)(hd:D_ x:=by decide):wpAny (model X.prog X.w) X.A (eval (.Name x pos) X.env) Q E s:=by
 obtain⟨mb,h1,h2⟩:=I.mod.blt;exact Calls.Name_function_global I.ok.kind hg (Calls.loadGlobal_builtin (by rw[I.ok.glob];exact I.mod.glob.keeps I.bk) Z (by rw[I.ok.blt];exact h1.keeps I.bk) ((h2 x q).trans j) h) hd
def Yt(q:Gl X x)(j:X.mg x=some u)(r:RelV v u)(Z:D_ x:=by decide):PE X (.Name x pos) (tC v) :=
 λ_ _ _ H _ I h=>j7 I q j ⟨v,H,I,r,h⟩ Z
def Ce(hg:Gl X x)(Z:X.mg x=none)(j:bootBuiltins x=some u)(r:RelV v u)(q:x≠"__name__":=by decide)(hd:D_ x:=by decide):PE X (.Name x pos) (tC v) :=
 λ_ _ _ H _ I h=>qo I hg Z j ⟨v,H,I,r,h⟩ q hd
variable{a b:Expr}{ta tb:TE}{pos:Pos}
def tB(t:TE):TT:=λσ H Q=>t σ H λx H1=>∃c,x=.bl c/\Q c H1
variable{tA tB':TT}{rest:List Expr}
def tAnd(t u:TT):TT:=λσ H Q=>t σ H λc H1=>if c=true then u σ H1 Q else Q false H1
def tOr(t u:TT):TT:=λσ H Q=>t σ H λc H1=>if c=true then Q true H1 else u σ H1 Q
def tNot(t:TT):TT:=λσ H Q=>t σ H λc H1=>Q (!c) H1
def Dv(j:PT X a tA):PW X (.BoolOp .And [a] pos) tA:=by
 intro q pn s σ H Q I h;refine isTrue_and (thn (j pn s σ H Q I h) λc s1 e=>?_);cases c with
 |true=>exact isTrue_and_nil e
 |false=>exact e
def z1b(j:PT X a tA):PW X (.BoolOp .Or [a] pos) tA:=by
 intro q pn s σ H Q I h;refine isTrue_or (thn (j pn s σ H Q I h) λc s1 e=>?_);cases c with
 |false=>exact isTrue_or_nil e
 |true=>exact e
def z1c(ha:PT X a tA)(hb:PW X (.BoolOp .And (b::rest) pos) tB'):PW X (.BoolOp .And (a::b::rest) pos) (tAnd tA tB'):=by
 intro Z pn s σ H Q I h;refine isTrue_and (thn (ha pn s σ H _ I h) λc s1 ⟨H1,q,j⟩=>?_);cases c with
 |true=>exact hb Z pn s1 σ H1 Q q j
 |false=>exact⟨H1,q,j⟩
def z4w(ha:PT X a tA)(hb:PW X (.BoolOp .Or (b::rest) pos) tB'):PW X (.BoolOp .Or (a::b::rest) pos) (tOr tA tB'):=by
 intro Z pn s σ H Q I h;refine isTrue_or (thn (ha pn s σ H _ I h) λc s1 ⟨H1,q,j⟩=>?_);cases c with
 |true=>exact⟨H1,q,j⟩
 |false=>exact hb Z pn s1 σ H1 Q q j
def z1f(j:PT X a tA):PT X (.UnaryOp .Not a pos) (tNot tA):=by
 intro pn s σ H Q I h;exact isTrue_not (j pn s σ H (λc H1=>Q (!c) H1) I h)
def z4q(ta tb:TE):TE:=λσ H Q=>ta σ H λx H1=>∃c,x=.bl c/\if c=true then tb σ H1 Q else Q (.bl false) H1
def tOrV(ta tb:TE):TE:=λσ H Q=>ta σ H λx H1=>∃c,x=.bl c/\if c=true then Q (.bl true) H1 else tb σ H1 Q
def z4o(ta:TE):TE:=λσ H Q=>ta σ H λx H1=>∃c,x=.bl c/\Q (.bl (!c)) H1
def z1m {op} (h:PE X a t):PE X (.BoolOp op [a] pos) t:=λpn s σ H Q I j=>BoolOp_one (h pn s σ H Q I j)
def z1r(ha:PE X a ta)(hb:PE X (.BoolOp .And (b::rest) pos) tb):PE X (.BoolOp .And (a::b::rest) pos) (z4q ta tb):=by
 intro pn s σ H Q I h;refine BoolOp_and (thn (ha pn s σ H _ I h) λv s1 ⟨x,H1,q,Z,j⟩=>?_);obtain⟨c,rfl,j⟩:=j;cases Z;refine wpAny_truthy_bool ?_;cases c with
 |true=>exact hb pn s1 σ H1 Q q j
 |false=>exact⟨.bl false,H1,q,rfl,j⟩
def z4y(ha:PE X a ta)(hb:PE X (.BoolOp .Or (b::rest) pos) tb):PE X (.BoolOp .Or (a::b::rest) pos) (tOrV ta tb):=by
 intro pn s σ H Q I h;refine BoolOp_or (thn (ha pn s σ H _ I h) λv s1 ⟨x,H1,q,Z,j⟩=>?_);obtain⟨c,rfl,j⟩:=j;cases Z;refine wpAny_truthy_bool ?_;cases c with
 |false=>exact hb pn s1 σ H1 Q q j
 |true=>exact⟨.bl true,H1,q,rfl,j⟩
def z1n(Z:PE X a ta):PE X (.UnaryOp .Not a pos) (z4o ta):=by
 intro pn s σ H Q I h;refine UnaryOp_ (thn (Z pn s σ H _ I h) λv s1 ⟨x,H1,I1,q,j⟩=>?_);obtain⟨c,rfl,j⟩:=j;cases q;exact not_of (wpAny_truthy_bool ⟨.bl (!c),H1,I1,rfl,j⟩)
def tIf(t:TT)(ta tb:TE):TE:=λσ H Q=>t σ H λc H1=>if c=true then ta σ H1 Q else tb σ H1 Q
def Je(Z:PT X c tA)(ha:PE X a ta)(hb:PE X b tb):PE X (.IfExp c a b pos) (tIf tA ta tb):=by
 intro pn s σ H Q I h;refine wpAny_IfExp (thn (Z pn s σ H _ I h) λd s1 ⟨H1,q,j⟩=>?_);cases d with
 |true=>exact ha pn s1 σ H1 Q q j
 |false=>exact hb pn s1 σ H1 Q q j
def SqL(K:W.Frag)(H:Hp)(a:Addr)(xs:List V):Prop :=
 Rd H a (.lst xs) \/
  ∃(o:Obj)(its:Array Value)(n:Nat),K.lookup a=some o/\o.cls=.type "list"/\o.dict=none/\o.data=.seq its n/\its.size<=sizeLine/\Vals xs its.toList
def SqT(K:W.Frag)(H:Hp)(a:Addr)(xs:List V):Prop :=
 Rd H a (.tup xs) \/
  ∃(o:Obj)(its:Array Value)(n:Nat),K.lookup a=some o/\o.cls=.type "tuple"/\o.data=.seq its n/\its.size<=sizeLine/\Vals xs its.toList
def absV:Value->Option V
 |.none=>some .non
 |.bool b=>some (.bl b)
 |.int i _=>some (.int i)
 |.str x _=>some (.str x)
 |.bytes b _=>some (.byt b)
 |.float b _=>some (.flt b)
 |.ref a=>some (.ref a)
 |.type n=>some (.ty n)
 |_=>none
def RelV.abs(r:RelV x u):absV u=some x:=by
 cases x with
 |non=>cases r;rfl
 |bl _=>cases r;rfl
 |int _=>obtain⟨t,rfl⟩:=r;rfl
 |str _=>obtain⟨t,rfl⟩:=r;rfl
 |byt _=>obtain⟨t,rfl⟩:=r;rfl
 |flt _=>obtain⟨t,rfl⟩:=r;rfl
 |ref _=>cases r;rfl
 |ty _=>cases r;rfl
def RelV.inj(r:RelV x u)(q:RelV y u):x=y:=Option.some.inj (r.abs.symm.trans q.abs)
def Vals.inj:∀{xs ys:List V}{us:List Value},Vals xs us->Vals ys us->xs=ys
 |_,_,_,.nil,.nil=>rfl
 |_,_,_,.cons r t,.cons r' t'=>by rw[r.inj r',Vals.inj t t']
variable{σ:St}{a:Addr}{xs ys:List V}
def SqL.of{K:W.Frag}(h:H a=some (.lst xs)):SqL K H a xs:=.inl (.inl h)
def SqT.of{K:W.Frag}(h:H a=some (.tup xs)):SqT K H a xs:=.inl (.inl h)
def Inv.list(I:Inv X pn σ H s)(h:SqL X.K H a xs):∃its:List Value,Vals xs its/\PlainL s.heap a its.toArray/\xs.length<=sizeLine:=by
 rcases h with h|⟨o,its,n,hk,hc,hd,hs,hz,r⟩
 ·obtain⟨z,its,n,r,e⟩:=h.ok I.hok;exact⟨its,r,⟨_,n,e,rfl,rfl,rfl⟩,z⟩
 refine⟨its.toList,r,⟨o,n,I.kIn a o hk,hc,hd,by simpa using hs⟩,?_⟩
 have e:=r.length;simp only[Array.length_toList]at e;omega
def Inv.tuple(I:Inv X pn σ H s)(h:SqT X.K H a xs):∃its:List Value,Vals xs its/\IsTup s.heap a its.toArray/\xs.length<=sizeLine:=by
 rcases h with h|⟨o,its,n,hk,hc,hs,hz,r⟩
 ·obtain⟨z,its,r,p⟩:=h.ok I.hok;exact⟨its,r,p.1,z⟩
 refine⟨its.toList,r,⟨o,I.kIn a o hk,hc,n,by simpa using hs⟩,?_⟩
 have e:=r.length;simp only[Array.length_toList]at e;omega
def Inv.list_inj(I:Inv X pn σ H s)(h:SqL X.K H a xs)(h':SqL X.K H a ys):xs=ys:=by
 obtain⟨its,r,⟨o,n,e,_,_,d⟩,_⟩:=I.list h;obtain⟨its',q,⟨o',Z,j,_,_,d'⟩,_⟩:=I.list h';rw[e]at j;cases j;rw[d]at d'
 injection d' with d1 _
 have:its=its':=by simpa using congrArg Array.toList d1
 subst this;exact r.inj q
def Inv.tuple_inj(I:Inv X pn σ H s)(h:SqT X.K H a xs)(h':SqT X.K H a ys):xs=ys:=by
 obtain⟨its,r,⟨o,e,_,n,d⟩,_⟩:=I.tuple h;obtain⟨its',q,⟨o',j,_,Z,d'⟩,_⟩:=I.tuple h';rw[e]at j;cases j;rw[d]at d'
 injection d' with d1 _
 have:its=its':=by simpa using congrArg Array.toList d1
 subst this;exact r.inj q
abbrev Cx.wish(X:Cx)(E:Value->Shared->Prop):Cx:={X with xe:=E}
abbrev Cx.nox(X:Cx):Cx:=X.wish λ_ _=>False
def Cx.Ok.wish{X:Cx}(ok:X.Ok)(E:Value->Shared->Prop):(X.wish E).Ok :=
 ⟨ok.mod,ok.kind,ok.glob,ok.blt,ok.above,ok.inj,ok.has,ok.cab,ok.hd,ok.frames,ok.stk,ok.exf,ok.bs,ok.bsz,ok.noex,ok.exfs,ok.funs,ok.frf⟩
def Cx.Ok.unwish{X:Cx}{E:Value->Shared->Prop}(ok:(X.wish E).Ok):X.Ok :=
 ⟨ok.mod,ok.kind,ok.glob,ok.blt,ok.above,ok.inj,ok.has,ok.cab,ok.hd,ok.frames,ok.stk,ok.exf,ok.bs,ok.bsz,ok.noex,ok.exfs,ok.funs,ok.frf⟩
variable{E:Value->Shared->Prop}
def Inv.wish(I:Inv X pn σ H s)(E:Value->Shared->Prop):Inv (X.wish E) pn σ H s:=⟨I.ok.wish E,I.os,I.bare,I.base,I.loc,I.cell,I.free,I.freeC,I.pin,I.hok,I.len⟩
def Inv.unwish(I:Inv (X.wish E) pn σ H s):Inv X pn σ H s:=⟨I.ok.unwish,I.os,I.bare,I.base,I.loc,I.cell,I.free,I.freeC,I.pin,I.hok,I.len⟩
def SP.unwish{D:Ends}(h:SP (X.wish E) pn D f s'):SP X pn D f s':=by
 cases f with
 |next=>obtain⟨j,H',I,q⟩:=h;exact⟨j,H',I.unwish,q⟩
 |brk=>obtain⟨j,H',I,q⟩:=h;exact⟨j,H',I.unwish,q⟩
 |cont=>obtain⟨j,H',I,q⟩:=h;exact⟨j,H',I.unwish,q⟩
 |ret u=>obtain⟨v,j,H',I,r,q⟩:=h;exact⟨v,j,H',I.unwish,r,q⟩
def PSs.nox{st:List Stmt}{t:TS}(h:PSs X.nox st t):PSs X st t:=λpn s σ H D I j =>
 wpAny_mono (h pn s σ H D (I.wish _) j) (λ_ _ q=>q.unwish) λ_ _ z=>False.elim z
section
variable{st:Stmt}{rest:List Stmt}{t u:TS}{e:Expr}{te:TE}
def z4p:TS:=λD σ H=>D.nx σ H
def tSeq(t u:TS):TS:=λD σ H=>t {D with nx:=u D} σ H
def d4:PSs X [] z4p:=λ_ _ σ H _ I h=>wpAny_execs_nil ⟨σ,H,I,h⟩
def uz(h1:PS X st t)(h2:PSs X rest u):PSs X (st::rest) (tSeq t u):=by
 intro pn s σ H D I h;refine wpAny_execs_cons (thn (h1 pn s σ H {D with nx:=u D} I h) λf s1 q=>?_);cases f with
 |next =>
  obtain⟨j,H',Z,q⟩:=q;exact h2 pn s1 j H' D Z q
 |ret v=>exact q
 |brk=>exact q
 |cont=>exact q
def ub(h1:PS X st t):PSs X [st] t:=by
 intro pn s σ H D I h;refine wpAny_execs_cons (thn (h1 pn s σ H D I h) λf s1 q=>?_);cases f with
 |next=>exact wpAny_execs_nil q
 |ret v=>exact q
 |brk=>exact q
 |cont=>exact q
def Inv.quiet(I:Inv X pn σ H s):interactive X.env=false:=by simp[interactive,I.ok.kind]
def D7(te:TE):TS:=λD σ H=>te σ H λ_ H1=>D.nx σ H1
def kz(Z:PE X e te)(q:swapsWith e none pos.line X.env=pure false:=by rfl):PS X (.Expr e pos) (D7 te):=by
 intro pn s σ H D I h;exact wpAny_Expr_any (thn (Z pn s σ H _ I h) λv s1 ⟨x,H1,I1,r1,j⟩=>⟨σ,H1,I1,j⟩) I.quiet q
def tRet(te:TE):TS:=λD σ H=>te σ H D.rt
def Zq(Z:PE X e te):PS X (.Return (some e) pos) (tRet te):=by
 intro pn s σ H D I h;exact wpAny_Return_some (thn (Z pn s σ H _ I h) λv s1 ⟨x,H1,I1,j,q⟩=>⟨x,σ,H1,I1,j,q⟩)
def tIfS(c:TT)(t u:TS):TS:=λD σ H=>c σ H λb H1=>if b=true then t D σ H1 else u D σ H1
def Ut{a b:List Stmt}{tc:TT}(Z:PT X c tc)(ha:PSs X a t)(hb:PSs X b u):PS X (.If c a b pos) (tIfS tc t u):=by
 intro pn s σ H D I h;refine wpAny_If (thn (Z pn s σ H _ I h) λd s1 ⟨H1,q,j⟩=>?_);cases d with
 |true=>exact ha pn s1 σ H1 D q j
 |false=>exact hb pn s1 σ H1 D q j
def Gy:TS:=λ_ _ _=>False
def J9:PS X st Gy:=λ_ _ _ _ _ _ h=>h.elim
def d5:PSs X sts Gy:=λ_ _ _ _ _ _ h=>h.elim
end
abbrev TG:=V->St->Hp->(St->Hp->Prop)->Prop
abbrev TGs:=List V->St->Hp->(St->Hp->Prop)->Prop
def PG(X:Cx)(j:Expr)(t:TG):Prop :=
 ∀(pn:List (Addr×Obj))(s:Shared)(σ:St)(H:Hp)(v:V)(u:Value)(Q:St->Hp->Prop),Inv X pn σ H s->RelV v u->t v σ H Q ->
  wpAny (model X.prog X.w) X.A (assign j X.env u) (λ_ s'=>∃σ' H',Inv X pn σ' H' s'/\Q σ' H') X.xe s
def PGs(X:Cx)(ts:List Expr)(t:TGs):Prop :=
 ∀(pn:List (Addr×Obj))(s:Shared)(σ:St)(H:Hp)(vs:List V)(us:List Value)(Q:St->Hp->Prop),Inv X pn σ H s->Vals vs us->t vs σ H Q ->
  wpAny (model X.prog X.w) X.A (assignInOrder ((assignEach ts X.env).map (·.2)) us) (λ_ s'=>∃σ' H',Inv X pn σ' H' s'/\Q σ' H') X.xe s
abbrev TSet:=V->V->V->Hp->(Hp->Prop)->Prop
def PSet(X:Cx)(t:TSet):Prop :=
 ∀(pn:List (Addr×Obj))(s:Shared)(σ:St)(H:Hp)(o i v:V)(ov iv u:Value)(Q:Hp->Prop),Inv X pn σ H s->RelV o ov->RelV i iv->RelV v u->t o i v H Q ->
  wpAny (model X.prog X.w) X.A (setItem ov iv u) (λ_ s'=>∃H',Inv X pn σ H' s'/\Q H') X.xe s
def j8(i:Nat):TG:=λv σ H Q=>Q (σ.set i (some v)) H
def zo(Z:X.N.Nodup)(hi:X.N[i]?=some x)(j:Loc X.env.scope x)(q:X.fn x=true\/X.env.scope.names.lookup x=some .local:=by first|exact .inl rfl|exact .inr rfl|assumption):PG X (.Name x pos) (j8 i):=by
 intro pn s σ H v u Q I r h;exact wpAny_assign_Name (gj I Z hi j r (λs' I'=>⟨_,H,I',h⟩) q)
def gNil:TGs:=λvs σ H Q=>vs=[]/\Q σ H
def bz(t:TG)(u:TGs):TGs:=λvs σ H Q=>∃v r,vs=v::r/\t v σ H λj H'=>u r j H' Q
def xu:PGs X [] gNil:=by
 intro pn s σ H vs us Q I r h;obtain⟨e,h⟩:=h;subst e;cases r;exact assignInOrder_nil ⟨σ,H,I,h⟩
def ye(h1:PG X e t)(h2:PGs X es u)(Z:(assignEach (e::es) X.env).map (·.2)=assign e X.env::(assignEach es X.env).map (·.2):=by rfl):PGs X (e::es) (bz t u):=by
 intro pn s σ H vs us Q I r h;obtain⟨v,vr,e1,h⟩:=h;subst e1;cases r with
 |cons r rr =>
  rw[Z];refine assignInOrder_cons (thn (h1 pn s σ H _ _ _ I r h) λ_ s1 ⟨j,H1,I1,q⟩=>?_);exact h2 pn s1 j H1 _ _ Q I1 rr q
def gTup(K:W.Frag)(n:Nat)(t:TGs):TG:=λv σ H Q=>∃a xs,v=.ref a/\SqT K H a xs/\xs.length=n/\t xs σ H Q
def z1j(hc:X.calm=true)(h:PGs X es t)(hn:(assignEach es X.env).length=n:=by rfl)(q:(assignEach es X.env).findIdx? (·.1)=none:=by rfl):PG X (.Tuple es k pos) (gTup X.K n t):=by
 intro pn s σ H v u Q I r j;obtain⟨a,xs,e1,hq,hl,j⟩:=j;subst e1;cases r;obtain⟨its,Z,ht,hz⟩:=I.tuple hq;refine assign_Tuple_tuple (I.ok.hd hc) ht (by simp[hn,<- hl,Z.length]) q λh' hx=>?_
 have I1:Inv X pn σ H {s with heap:=h'}:=I.kept (t':=s.toks) λb o e=>hx b o (Nat.ne_of_lt (zae e)) e;exact h pn _ σ H xs _ Q I1 (by simpa using Z) j
def gSub(to ti:TE)(t:TSet):TG:=λv σ H Q=>to σ H λo H1=>ti σ H1 λi H2=>t o i v H2 λj=>Q σ j
def Fq{o i:Expr}{to ti:TE}(ho:PE X o to)(hi:PE X i ti)(hs:PSet X t)(ha:∀ v,assign (.Subscript o i pos) X.env v=(do
   let j <- holding [v] (eval o X.env)
   let q <- holding [v,j] (eval i X.env)
   standAt pos
   holding [v,j,q] (setItem j q v)
   release [v,j,q] []):=by intro _;rfl):PG X (.Subscript o i pos) (gSub to ti t):=by
 intro pn s σ H v u Q I r h;rw[ha];refine zaa (wpAny_holding (thn (ho pn s σ H _ I h) λj s1 ⟨x,H1,I1,Z,q1⟩=>?_));refine zaa (wpAny_holding (thn (hi pn s1 σ H1 _ I1 q1) λq s2 ⟨y,H2,I2,r2,q2⟩=>?_));refine zaa (wpAny_standAt (zaa (wpAny_holding (thn (hs pn s2 σ H2 x y v j q u _ I2 Z r2 r q2) λ_ s3 ⟨H3,I3,q3⟩=>?_))));exact wpAny_release ⟨σ,H3,I3,q3⟩
def tAsg(te:TE)(g:TG):TS:=λD σ H=>te σ H λx H1=>g x σ H1 D.nx
def Fp{te:TE}(he:PE X e te)(hg:PG X tg g)(hs:swapsWithSole [tg] e pos.line X.env=pure false:=by rfl)(hw:swappedStores [tg] e X.env=pure none:=by rfl)(h1:(assignEach [tg] X.env).map (·.2)=[assign tg X.env]:=by rfl):PS X (.Assign [tg] e pos) (tAsg te g):=by
 intro pn s σ H D I h;refine wpAny_Assign_stores (thn (he pn s σ H _ I h) λv s1 ⟨x,H1,I1,j,Z⟩=>?_) hs hw;rw[h1];exact thn (hg pn s1 σ H1 x v _ I1 j Z) λ_ s2 q=>q
def Rk{i:Nat}{x:Str}{te:TE}(hN:X.N.Nodup)(hi:X.N[i]?=some x)(Z:Loc X.env.scope x)(he:PE X e te)(hs:swapsWith e (some (.Name x pos')) pos.line X.env=pure false:=by rfl)(hf:X.fn x=true\/X.env.scope.names.lookup x=some .local:=by first|exact .inl rfl|exact .inr rfl|assumption) :
  PS X (.Assign [.Name x pos'] e pos) (tAsg te (j8 i)):=by
 intro pn s σ H D I h;refine wpAny_Assign_Name (thn (he pn s σ H _ I h) λv s1 ⟨y,H1,I1,j,q⟩=>?_) hs;exact gj I1 hN hi Z j (λs2 I2=>⟨_,H1,I2,q⟩) hf
structure It where
 go:Nat->Hp->Prop
 yld:Nat->Hp->V->Hp->Prop
 stop:Nat->Hp->Prop
def FpOk(X:Cx)(pn:List (Addr×Obj))(H:Hp)(b:Addr):Prop :=
 H b=none/\b≠X.env.locals/\b∉X.fs/\(b∈X.ex\/X.s₀.heap.objs.size<=b)/\(∀x c,X.env.cells.lookup x=some c->c≠b)/\∀p∈X.pn++pn,p.1≠b
def Inv.fpOk{b:Addr}(I:Inv X pn σ H s)(j:s.heap.objs.size<=b)(hn:H' b=none):FpOk X pn H' b:=by
 refine⟨hn,Nat.ne_of_gt (Nat.lt_of_lt_of_le I.lt j),I.nofs j,.inr (zak I.sz j),λx c e z=>?_,λp Z z=>?_⟩
 ·obtain⟨v,q⟩:=I.cell x c e;exact absurd (Nat.lt_of_lt_of_le q.lt (by rw[z];exact j)) (Nat.lt_irrefl _)
 exact absurd (Nat.lt_of_lt_of_le (zae (I.pin p Z).1) (by rw[z];exact j)) (Nat.lt_irrefl _)
structure Turn(P:Program)(w:World)(K:W.Frag)(tg:Expr)(J:It)(fp:List Addr)(it:Addr)(tn:Nat->Heap->Prop):Prop where
 mem:it∈fp
 obj:∀i h,tn i h->∀b∈fp,∃o,h.get? b=some o/\∀v,o.data≠.cell v
 keep:∀i h h',tn i h->(∀b∈fp,∀o,h.get? b=some o->h'.get? b=some o)->tn i h'
 item:∀(X:Cx),X.prog=P->X.w=w->X.K=K->X.calm=true->∀(i:Nat)(pn:List (Addr×Obj))(s:Shared)(σ:St)(H:Hp)(E:Value->Shared->Prop),Inv X pn σ H s->(∀b∈fp,FpOk X pn H b)->tn i s.heap->J.go i H ->
  wpAny (model P w) X.A (pyNext (.ref it)) (λr s1=>∃u,r=some u /\
   wpAny (model P w) X.A (letOwnedTupleGo tg (.ref it) u) (λ_ s2=>∃x H',Inv X pn σ H' s2/\RelV x u/\J.yld i H x H'/\tn (i+1) s2.heap/\∀b∈fp,H' b=none) E s1) E s
 done:∀(X:Cx),X.prog=P->X.w=w->X.K=K->X.calm=true->∀(i:Nat)(pn:List (Addr×Obj))(s:Shared)(σ:St)(H:Hp)(E:Value->Shared->Prop),Inv X pn σ H s->(∀b∈fp,FpOk X pn H b)->tn i s.heap->J.stop i H ->
  wpAny (model P w) X.A (pyNext (.ref it)) (λr s1=>r=none/\Inv X pn σ H s1) E s
 self:∀(A:Around)(i:Nat)(s:Shared)(Q:Value->Shared->Prop)(E:Value->Shared->Prop),tn i s.heap->Q (.ref it) s->wpAny (model P w) A (pyIter (.ref it)) Q E s
abbrev TI:=St->Hp->(It->Hp->Prop)->Prop
def PIE(X:Cx)(pn:List (Addr×Obj))(σ:St)(tg:Expr)(R:It->Hp->Prop)(j:Value)(s2:Shared):Prop :=
 ∃(it:Addr)(fp:List Addr)(tn:Nat->Heap->Prop)(J:It)(H':Hp),j=.ref it/\Inv X pn σ H' s2/\Turn X.prog X.w X.K tg J fp it tn/\tn 0 s2.heap/\(∀b∈fp,FpOk X pn H' b)/\R J H'
def PI(X:Cx)(tg iter:Expr)(j:TI):Prop :=
 ∀(pn:List (Addr×Obj))(s:Shared)(σ:St)(H:Hp)(R:It->Hp->Prop),Inv X pn σ H s->j σ H R ->
  wpAny (model X.prog X.w) X.A (eval iter X.env) (λv s1=>wpAny (model X.prog X.w) X.A (pyIter v) (PIE X pn σ tg R) X.xe s1) X.xe s
def Ho{o:Obj}(ho:s.heap.get? it=some o)(Z:o.cls=.type n)(I:o.data=.fields vs)(q:["enumerate","zip","dict_itemiterator","dict_reverseitemiterator","odict_iterator","itertools.zip_longest","itertools.pairwise"].contains n=false)(j:Q () s):wpAny M A (letOwnedTupleGo tg (.ref it) u) Q E s:=by
 unfold letOwnedTupleGo;cases tg <;> first
  |exact zab j
  | (cases u <;> first
    |exact zab j
    | (refine zaa (wpAny_load ho ?_)
       rw[Z,I];show wpAny M A (if (["enumerate","zip","dict_itemiterator","dict_reverseitemiterator","odict_iterator","itertools.zip_longest","itertools.pairwise"].contains n&&vs[0]?==some (rawInt _))=true then _ else _) Q E s
       rw[if_neg (by intro h;rw[q,Bool.false_and]at h;cases h)]
       exact zab j))
def Itl(K:W.Frag)(a:Addr):It :=
 ⟨λi H=>∃xs x,SqL K H a xs/\xs[i]?=some x,λi H x H'=>H'=H/\∀xs,SqL K H a xs->xs[i]?=some x,λi H=>∃xs,SqL K H a xs/\xs.length<=i⟩
def Itt(K:W.Frag)(a:Addr):It :=
 ⟨λi H=>∃xs x,SqT K H a xs/\xs[i]?=some x,λi H x H'=>H'=H/\∀xs,SqT K H a xs->xs[i]?=some x,λi H=>∃xs,SqT K H a xs/\xs.length<=i⟩
def Itr(lo:Int)(n:Nat):It:=⟨λi _=>i<n,λi H x H'=>H'=H/\x=.int (lo+i),λi _=>n<=i⟩
def W6{P:Program}{w:World}{K:W.Frag}{tg:Expr}(a it:Addr):Turn P w K tg (Itl K a) [it] it (λi h=>h.IsListIter it a i) where
 mem:=by simp
 obj:=λi h st b j=>by
  have e:b=it:=by simpa using j
  subst e;obtain⟨o,e,c,d⟩:=st;exact⟨o,e,λv z=>by rw[d]at z;cases z⟩
 keep:=λi h h' st k=>st.at λo e=>k it (by simp) o e
 item:=by
  intro X hP hw hK hc i pn s σ H E I hf st hg;subst hP hw hK;obtain⟨xs,x,Z,hx⟩:=hg;obtain⟨its,rv,p,hz⟩:=I.list Z;obtain⟨u,hu,ru⟩:=rv.get hx;obtain⟨f0,f1,f2,f3,f4,f5⟩:=hf it (by simp)
  refine wpAny_pyNext_list_item st p.isList (x:=u) (by simpa using hu) λh' q sb=>?_
  have I1:Inv X pn σ H {s with heap:=h'}:=I.turned (t':=s.toks) (λb o j e=>(sb.2 b j).trans e) f0 f1 f3 f4 f5;obtain⟨o,e,c,d⟩:=id q;exact⟨u,rfl,Ho (s:={s with heap:=h'}) e c d (by decide) ⟨x,H,I1,ru,⟨rfl,λys hy=>by rw[I.list_inj hy Z];exact hx⟩,q,λb j=>(hf b j).1⟩⟩
 done:=by
  intro X hP hw hK hc i pn s σ H E I hf st hg;subst hP hw hK;obtain⟨xs,Z,hx⟩:=hg;obtain⟨its,rv,p,hz⟩:=I.list Z;obtain⟨f0,f1,f2,f3,f4,f5⟩:=hf it (by simp)
  have hl:=rv.length;exact wpAny_pyNext_list_end (I.ok.hd hc) st p.isList (by simp;omega) λh' eb=>⟨rfl,I.turned (t':=s.toks) (λb o j e=>eb b o j e) f0 f1 f3 f4 f5⟩
 self:=λ_ _ _ _ _ st h=>wpAny_pyIter_listiter st h
def Qn{P:Program}{w:World}{K:W.Frag}{tg:Expr}(a it:Addr):Turn P w K tg (Itt K a) [it] it (λi h=>h.IsTupleIter it a i) where
 mem:=by simp
 obj:=λi h st b j=>by
  have e:b=it:=by simpa using j
  subst e;obtain⟨o,e,c,d⟩:=st;exact⟨o,e,λv z=>by rw[d]at z;cases z⟩
 keep:=λi h h' st k=>st.at λo e=>k it (by simp) o e
 item:=by
  intro X hP hw hK hc i pn s σ H E I hf st hg;subst hP hw hK;obtain⟨xs,x,Z,hx⟩:=hg;obtain⟨its,rv,p,hz⟩:=I.tuple Z;obtain⟨u,hu,ru⟩:=rv.get hx;obtain⟨f0,f1,f2,f3,f4,f5⟩:=hf it (by simp)
  refine wpAny_pyNext_tuple_item st (show s.heap.IsTuple a its.toArray from p) (x:=u) (by simpa using hu) λh' q sb=>?_
  have I1:Inv X pn σ H {s with heap:=h'}:=I.turned (t':=s.toks) (λb o j e=>(sb.2 b j).trans e) f0 f1 f3 f4 f5;obtain⟨o,e,c,d⟩:=id q;exact⟨u,rfl,Ho (s:={s with heap:=h'}) e c d (by decide) ⟨x,H,I1,ru,⟨rfl,λys hy=>by rw[I.tuple_inj hy Z];exact hx⟩,q,λb j=>(hf b j).1⟩⟩
 done:=by
  intro X hP hw hK hc i pn s σ H E I hf st hg;subst hP hw hK;obtain⟨xs,Z,hx⟩:=hg;obtain⟨its,rv,p,hz⟩:=I.tuple Z;obtain⟨f0,f1,f2,f3,f4,f5⟩:=hf it (by simp)
  have hl:=rv.length;exact wpAny_pyNext_tuple_end (I.ok.hd hc) st (show s.heap.IsTuple a its.toArray from p) (by simp;omega) λh' eb=>⟨rfl,I.turned (t':=s.toks) (λb o j e=>eb b o j e) f0 f1 f3 f4 f5⟩
 self:=λ_ _ _ _ _ st h=>wpAny_pyIter_tupleiter st h
def Qo{P:Program}{w:World}{K:W.Frag}{tg:Expr}(it:Addr)(lo:Int)(n:Nat):Turn P w K tg (Itr lo n) [it] it (λi h=>IsRangeIter h it (lo+(i:Nat)*1) ((n:Int)-(i:Nat)) 1) where
 mem:=by simp
 obj:=λi h st b j=>by
  have e:b=it:=by simpa using j
  subst e;exact⟨_,st,λv z=>by
   have z':Data.fields _=Data.cell v:=z;cases z'⟩
 keep:=λi h h' st k=>k it (by simp) _ st
 item:=by
  intro X hP hw hK hc i pn s σ H E I Z st hg;subst hP hw hK;obtain⟨f0,f1,f2,f3,f4,f5⟩:=Z it (by simp)
  have W:=Walks.range (prog:=X.prog) (w:=X.w) (I.ok.hd hc) it lo 1 n;refine W.item i s _ _ hg st λv h' tk hv q kk=>?_;obtain⟨t,rfl⟩:=hv;have I1:Inv X pn σ H {s with heap:=h',toks:=tk}:=I.turned (λb o j e=>kk b o (by simpa using j) e) f0 f1 f3 f4 f5
  refine⟨_,rfl,Ho (s:={s with heap:=h',toks:=tk}) (n:="range_iterator") q rfl rfl (by decide) ⟨.int (lo+i),H,I1,⟨t,?_⟩,⟨rfl,rfl⟩,q,λb j=>(Z b j).1⟩⟩
  rw[Int.mul_one]
 done:=by
  intro X hP hw hK hc i pn s σ H E I Z st hg;subst hP hw hK;obtain⟨f0,f1,f2,f3,f4,f5⟩:=Z it (by simp)
  exact wpAny_pyNext_range_end (I.ok.hd hc) st (by have:n<=i:=hg;omega) λh' eb=>⟨rfl,I.turned (t':=s.toks) (λb o j e=>eb b o j e) f0 f1 f3 f4 f5⟩
 self:=λ_ _ _ _ _ st h=>wpAny_pyIter_rangeiter st h
variable{tg:Expr}
def z5q(K:W.Frag)(tl:TE):TI:=λσ H R=>tl σ H λx H1=>∃a,x=.ref a/\(∃xs,SqL K H1 a xs)/\R (Itl K a) H1
def Ca{l:Expr}{tl:TE}(hl:PE X l tl):PI X tg l (z5q X.K tl):=by
 intro pn s σ H R I h;refine thn (hl pn s σ H _ I h) λv s1 ⟨x,H1,j,Z,q1⟩=>?_;obtain⟨a,e,⟨xs,hq⟩,q⟩:=q1;subst e;cases Z;obtain⟨its,rv,p,hz⟩:=j.list hq;refine wpAny_pyIter_list p.isList ?_;refine⟨s1.heap.objs.size,[s1.heap.objs.size],_,_,H1,rfl,j.kept (t':=s1.toks) λb o e=>zac _ e,W6 a _,⟨_,zad _ rfl,rfl,rfl⟩,λb hb=>?_,q⟩;have e:b=s1.heap.objs.size:=by simpa using hb
 subst e;exact j.fpOk (zaj _) (j.hok.fresh (zaj _))
def Ri{H:Hp}{R:It->Hp->Prop}{E:Value->Shared->Prop}{lo hi:Int}{tk:Nat}(I:Inv X pn σ H s)(h1:-(2 ^ 62)<=lo)(h2:lo<2 ^ 62)(h3:-(2 ^ 62)<=hi)(h4:hi<2 ^ 62)(q:R (Itr lo (hi-lo).toNat) H):wpAny (model X.prog X.w) X.A (pyIter (.ref s.heap.objs.size)) (PIE X pn σ tg R) E {s with heap:=s.heap.push {cls:=.type "range",data:=.fields #[.int lo t,.int hi u,.int 1 v]},toks:=tk}:=by
 refine wpAny_pyIter_range (IsRange.new ..) (small_one h1 h2 h3 h4) ?_;have j:Inv X pn σ H {s with heap:=s.heap.push {cls:=.type "range",data:=.fields #[.int lo t,.int hi u,.int 1 v]},toks:=tk}:=I.kept λb o e=>zac _ e;refine⟨(s.heap.push {cls:=.type "range",data:=.fields #[.int lo t,.int hi u,.int 1 v]}).objs.size,[(s.heap.push {cls:=.type "range",data:=.fields #[.int lo t,.int hi u,.int 1 v]}).objs.size],_,_,H,rfl,
  j.kept (t':=tk) λb o e=>zac _ e,Qo _ lo (hi-lo).toNat,?_,λb Z=>?_,q⟩
 ·have e1:lo+((0:Nat):Int)*1=lo:=by simp
  have e2:(((hi-lo).toNat:Nat):Int)-((0:Nat):Int)=Builtin.Range.rangeSize lo hi 1:=by rw[rangeSize_one];split <;> omega
  show IsRangeIter _ _ (lo+((0:Nat):Int)*1) ((((hi-lo).toNat:Nat):Int)-((0:Nat):Int)) 1;rw[e1,e2];exact zad _ rfl
 have e:b=(s.heap.push {cls:=.type "range",data:=.fields #[.int lo t,.int hi u,.int 1 v]}).objs.size:=by simpa using Z
 subst e;exact j.fpOk (zaj _) (j.hok.fresh (zaj _))
def z5p(ta:TA):TI:=λσ H R=>ta σ H λvs H1=>∃j:Int,vs=[.int j]/\-(2 ^ 62)<=j/\j<2 ^ 62/\R (Itr 0 j.toNat) H1
def z5o(ta:TA):TI:=λσ H R=>ta σ H λvs H1=>∃i j:Int,vs=[.int i,.int j]/\(-(2 ^ 62)<=i/\i<2 ^ 62/\-(2 ^ 62)<=j/\j<2 ^ 62)/\R (Itr i (j-i).toNat) H1
def Nn{a:Expr}{ta:TA}{p pos:Pos}(hg:Gl X "range")(hm:X.mg "range" = none)(ha:PA X [a] ta)(hs:starEach [a] X.env=[(false,eval a X.env)]:=by rfl):PI X tg (.Call (.Name "range" p) [a] [] pos) (z5p ta):=by
 intro pn s σ H R I h;refine Call_ (qo I hg hm boot_range (PyProof.Rows.callWith_type1 (thn (ha pos pn s σ H _ I h) λus s1 ⟨vs,H1,I1,r1,Z⟩=>?_) hs rfl));obtain⟨j,e,Z,q2,q⟩:=Z;subst e;cases r1 with
 |cons r rr =>
  cases rr
  obtain⟨t,rfl⟩:=r;exact call_range_1 (Ri I1 (by omega) (by omega) Z q2 (by simpa using q))
def Nm{a b:Expr}{ta:TA}{p pos:Pos}(hg:Gl X "range")(hm:X.mg "range" = none)(ha:PA X [a,b] ta)(hs:starEach [a,b] X.env=[(false,eval a X.env),(false,eval b X.env)]:=by rfl)(Z:starEach [b] X.env=[(false,eval b X.env)]:=by rfl) :
  PI X tg (.Call (.Name "range" p) [a,b] [] pos) (z5o ta):=by
 intro pn s σ H R I h;refine Call_ (qo I hg hm boot_range (PyProof.Rows.callWith_type1 (thn (ha pos pn s σ H _ I h) λus s1 ⟨vs,H1,I1,r1,q1⟩=>?_) (by rw[hs,Z]) (by rw[Z];rfl)))
 obtain⟨i,j,e,⟨q1,q2,q3,q4⟩,q⟩:=q1;subst e;cases r1 with
 |cons r rr =>
  cases rr with
  |cons r' rr =>
   cases rr
   obtain⟨t,rfl⟩:=r;obtain⟨t',rfl⟩:=r';exact call_range_2 (Ri I1 q1 q2 q3 q4 q)
def tFor(q:TI)(g:TG)(tb:TS):TS:=λD σ H=>q σ H λJ H1=>∃W:Nat->Nat->St->Hp->Prop,(∃m,W 0 m σ H1)/\∀i m σ H,W i m σ H ->
 (J.stop i H/\D.nx σ H)\/(J.go i H/\∃N:St->Hp->Prop,(∀σ' H',N σ' H'->∃m',m'<m/\W (i+1) m' σ' H')/\∀x H',J.yld i H x H'->g x σ H' λj H2=>tb {D with nx:=N,ct:=N,bk:=D.nx} j H2)
def Wh(fp:List Addr)(h:Heap):List (Addr×Obj):=fp.filterMap λb=>(h.get? b).map λo=>(b,o)
def ra{b:Addr}{o:Obj}(j:b∈fp)(e:h.get? b=some o):(b,o)∈Wh fp h:=List.mem_filterMap.mpr ⟨b,j,by rw[e];rfl⟩
def Nx(j:p∈Wh fp h):p.1∈fp/\h.get? p.1=some p.2:=by
 obtain⟨b,I,e⟩:=List.mem_filterMap.mp j;cases q:h.get? b with
 |none=>rw[q]at e;cases e
 |some o =>
  rw[q]at e;have Z:(b,o)=p:=Option.some.inj e;subst Z;exact⟨I,q⟩
def Inv.pinned(I:Inv X pn σ H s)(hf:∀ b∈fp,FpOk X pn H b)(ho:∀ b∈fp,∃ o,s.heap.get? b=some o/\∀ v,o.data≠.cell v):Inv X (pn++Wh fp s.heap) σ H s :=
 I.pins_of λp Z=>(zas.mp Z).elim (λz=>I.pin p (List.mem_append_right _ z)) λz=>by
  obtain⟨j,e⟩:=Nx z;obtain⟨f0,f1,f2,_⟩:=hf p.1 j;obtain⟨o,q,d⟩:=ho p.1 j;rw[e]at q;cases q;exact⟨e,f0,f1,f2,d⟩
def Inv.unpinned(I:Inv X (pn++pl) σ H s):Inv X pn σ H s:=I.pins_of λp j=>I.pin p (List.mem_append_right _ (List.mem_append_left _ j))
def Fo{wi:TI}{tb:TS}(hp:PassesOwn (model X.prog X.w) X.A X.env X.xe)(hc:X.calm=true)(hi:PI X tg iter wi)(hg:PG X tg g)(hb:PSs X body tb)(hs:∀ x,foldedSetIterable iter X.env x=pure x:=by intro _;rfl):PS X (.For tg iter body [] pos) (tFor wi g tb):=by
 intro pn s σ H D I h;refine wpAny_For (thn (hi pn s σ H _ I h) λv s1 h1=>thn h1 λb3 s2 h2=>?_) hs;obtain⟨it,fp,tn,J,H2,e,I2,T,a8,f2,W,⟨m0,w0⟩,a2⟩:=h2;subst e;have Z:∀{H':Hp},(∀b∈fp,H' b=none)->∀b∈fp,FpOk X pn H' b:=λhn b hb=>⟨hn b hb,(f2 b hb).2⟩;refine codeAny_forLoop_any (λn s'=>∃i σ' H',Inv X pn σ' H' s'/\tn i s'.heap/\(∀b∈fp,H' b=none)/\W i n σ' H') ?_ m0 ⟨0,σ,H2,I2,a8,λb hb=>(f2 b hb).1,w0⟩;rintro n s3 ⟨i,q,H3,I3,a5,a6,w3⟩;rcases a2 i n q H3 w3 with⟨a4,qn⟩|⟨go,N,hN,step⟩
 ·refine wpAny_passesOwn hp (thn (T.done X rfl rfl rfl hc i pn s3 q H3 X.xe I3 (Z a6) a5 a4) λr s4 ⟨hr,I4⟩=>?_);subst hr;exact wpAny_execs_nil ⟨q,H3,I4,qn⟩
 refine wpAny_passesOwn hp (thn (T.item X rfl rfl rfl hc i pn s3 q H3 X.xe I3 (Z a6) a5 go) λr s4 ⟨u,hr,h4⟩=>?_);subst hr;refine wpAny_passesOwn hp (thn h4 λ_ s5 ⟨x,H5,I5,r5,y5,a1,a9⟩=>?_);have b0:=I5.pinned (Z a9) (T.obj _ _ a1);refine wpAny_passesOwn hp (thn (hg _ s5 q H5 x u _ b0 r5 (step x H5 y5)) λ_ s6 ⟨a7,H6,I6,q6⟩=>?_);refine wpAny_passesOwn hp (thn (hb _ s6 a7 H6 _ I6 q6) λf s7 q7=>?_);have a0:∀{j:St}{H7:Hp},Inv X (pn++Wh fp s5.heap) j H7 s7->N j H7->∃m,m<n/\∃i σ' H',Inv X pn σ' H' s7/\tn i s7.heap/\(∀b∈fp,H' b=none)/\W i m σ' H':=λ{j H7} I7 n7=>by
  obtain⟨m',hm,w7⟩:=hN j H7 n7;refine⟨m',hm,i+1,j,H7,I7.unpinned,T.keep _ _ _ a1 λb hb o e=>(I7.pin (b,o) (List.mem_append_right _ (List.mem_append_right _ (ra hb e)))).1,λb hb=>?_,w7⟩;obtain⟨o,e,d⟩:=T.obj _ _ a1 b hb;exact(I7.pin (b,o) (List.mem_append_right _ (List.mem_append_right _ (ra hb e)))).2.1
 cases f with
 |next=>obtain⟨j,H7,I7,n7⟩:=q7;exact a0 I7 n7
 |cont=>obtain⟨j,H7,I7,n7⟩:=q7;exact a0 I7 n7
 |brk=>obtain⟨j,H7,I7,q7⟩:=q7;exact⟨j,H7,I7.unpinned,q7⟩
 |ret v=>obtain⟨x7,j,H7,I7,r7,q7⟩:=q7;exact⟨x7,j,H7,I7.unpinned,r7,q7⟩
abbrev R2:=V->V->Hp->VK->Prop
def OpR(X:Cx)(f:Value->Value->Sem Value)(r:R2):Prop :=
 ∀(pn:List (Addr×Obj))(s:Shared)(σ:St)(H:Hp)(x y:V)(v u:Value)(Q:VK),Inv X pn σ H s->RelV x v->RelV y u->r x y H Q ->
  wpAny (model X.prog X.w) X.A (f v u) (EP X pn σ Q) X.xe s
def UnR(X:Cx)(f:Value->Sem Value)(r:V->Hp->VK->Prop):Prop :=
 ∀(pn:List (Addr×Obj))(s:Shared)(σ:St)(H:Hp)(x:V)(v:Value)(Q:VK),Inv X pn σ H s->RelV x v->r x H Q ->
  wpAny (model X.prog X.w) X.A (f v) (EP X pn σ Q) X.xe s
def ua(X:Cx)(f:Value)(r:List V->Hp->VK->Prop):Prop :=
 ∀(pn:List (Addr×Obj))(s:Shared)(σ:St)(H:Hp)(xs:List V)(us:List Value)(Q:VK),Inv X pn σ H s->Vals xs us->r xs H Q ->
  wpAny (model X.prog X.w) X.A (call f us) (EP X pn σ Q) X.xe s
def TruR(X:Cx)(r:V->Hp->(Bool->Hp->Prop)->Prop):Prop :=
 ∀(pn:List (Addr×Obj))(s:Shared)(σ:St)(H:Hp)(x:V)(v:Value)(Q:Bool->Hp->Prop),Inv X pn σ H s->RelV x v->r x H Q ->
  wpAny (model X.prog X.w) X.A (truthy v) (TP X pn σ Q) X.xe s
def tOp(r:R2)(ta tb:TE):TE:=λσ H Q=>ta σ H λx H1=>tb σ H1 λy H2=>r x y H2 Q
def tUn(r:V->Hp->VK->Prop)(ta:TE):TE:=λσ H Q=>ta σ H λx H1=>r x H1 Q
def rI(C:Int->Int->Prop)(g:Int->Int->V):R2:=λx y H Q=>∃i j,x=.int i/\y=.int j/\C i j/\Q (g i j) H
def rI0(g:Int->Int->V):R2:=λx y H Q=>∃i j,x=.int i/\y=.int j/\Q (g i j) H
def rU(g:Int->V):V->Hp->VK->Prop:=λx H Q=>∃i,x=.int i/\Q (g i) H
variable{a:Expr}
def binT(ha:PE X a ta)(hb:PE X b tb){H:Hp}{R:V->V->Hp->Prop}(I:Inv X pn σ H s)(h:ta σ H λx H1=>tb σ H1 λy H2=>R x y H2){Q:Value->Shared->Prop}{f:Value->Value->Sem Value}(hf:∀ v u s2 x y H2,Inv X pn σ H2 s2->RelV x v->RelV y u->R x y H2->wpAny (model X.prog X.w) X.A (f v u) Q X.xe s2) :
  wpAny (model X.prog X.w) X.A (eval a X.env) (λv q=>wpAny (model X.prog X.w) X.A (eval b X.env) (λu j=>wpAny (model X.prog X.w) X.A (f v u) Q X.xe j) X.xe q) X.xe s:=by
 refine thn (ha pn s σ H _ I h) λv s1 ⟨x,H1,I1,Z,q1⟩=>?_;refine thn (hb pn s1 σ H1 _ I1 q1) λu s2 ⟨y,H2,I2,r2,q2⟩=>?_;exact hf v u s2 x y H2 I2 Z r2 q2
def z1l(ho:OpR X (binaryOp op) r)(ha:PE X a ta)(hb:PE X b tb):PE X (.BinOp a op b pos) (tOp r ta tb):=by
 intro pn s σ H Q I h;exact wpAny_BinOp (binT ha hb I h λv u s2 x y H2 I2 Z j q=>ho pn s2 σ H2 x y v u Q I2 Z j q)
def Cb{r:V->Hp->VK->Prop}(ho:UnR X (unaryOp op) r)(Z:PE X a ta):PE X (.UnaryOp op a pos) (tUn r ta):=by
 intro pn s σ H Q I h;exact UnaryOp_ (thn (Z pn s σ H _ I h) λv s1 ⟨x,H1,I1,j,q⟩=>ho pn s1 σ H1 x v Q I1 j q)
def opI{f:Value->Value->Sem Value}{C:Int->Int->Prop}{g:Int->Int->Int}(Z:∀ (i j:Int) (t u:Tok) (s:Shared) (Q:Value->Shared->Prop) (E:Value->Shared->Prop),C i j->Q (.int (g i j) s.toks) {s with toks:=s.toks+1}->wpAny (model X.prog X.w) X.A (f (.int i t) (.int j u)) Q E s) :
  OpR X f (rI C λi j=>.int (g i j)):=by
 intro pn s σ H x y v u Q I rx ry h;obtain⟨i,j,rfl,rfl,hc,q⟩:=h;obtain⟨t,rfl⟩:=rx;obtain⟨t',rfl⟩:=ry;exact Z i j t t' s _ _ hc ⟨.int (g i j),H,I.tok _,⟨_,rfl⟩,q⟩
def opI0{f:Value->Value->Sem Value}{g:Int->Int->Int}(Z:∀ (i j:Int) (t u:Tok) (s:Shared) (Q:Value->Shared->Prop) (E:Value->Shared->Prop),Q (.int (g i j) s.toks) {s with toks:=s.toks+1}->wpAny (model X.prog X.w) X.A (f (.int i t) (.int j u)) Q E s) :
  OpR X f (rI0 λi j=>.int (g i j)):=by
 intro pn s σ H x y v u Q I rx ry h;obtain⟨i,j,rfl,rfl,q⟩:=h;obtain⟨t,rfl⟩:=rx;obtain⟨t',rfl⟩:=ry;exact Z i j t t' s _ _ ⟨.int (g i j),H,I.tok _,⟨_,rfl⟩,q⟩
def opB0{f:Value->Value->Sem Value}{g:Int->Int->Bool}(Z:∀ (i j:Int) (t u:Tok) (s:Shared) (Q:Value->Shared->Prop) (E:Value->Shared->Prop),Q (.bool (g i j)) s->wpAny (model X.prog X.w) X.A (f (.int i t) (.int j u)) Q E s) :
  OpR X f (rI0 λi j=>.bl (g i j)):=by
 intro pn s σ H x y v u Q I rx ry h;obtain⟨i,j,rfl,rfl,q⟩:=h;obtain⟨t,rfl⟩:=rx;obtain⟨t',rfl⟩:=ry;exact Z i j t t' s _ _ ⟨.bl (g i j),H,I,rfl,q⟩
def CPow(i j:Int):Prop:=0<=j/\j<=1000000/\i.natAbs<2 ^ 64
def z2a:OpR X (binaryOp .Add) (rI0 λi j=>.int (i+j)):=opI0 λ_ _ _ _ _ _ _ q=>add_int q
def z1s:OpR X (binaryOp .Sub) (rI0 λi j=>.int (i-j)):=opI0 λ_ _ _ _ _ _ _ q=>sub_int q
def Cq:OpR X (binaryOp .Mod) (rI (λ_ j=>j≠0) λi j=>.int (i.fmod j)):=opI λ_ _ _ _ _ _ _ I q=>mod_int' I q
def z1u:OpR X (binaryOp .Pow) (rI CPow λi j=>.int (i ^ j.toNat)):=opI λ_ _ _ _ _ _ _ I q=>pow_int_small I.1 I.2.1 I.2.2 q
def unI{f:Value->Sem Value}{g:Int->Int}(j:∀ (i:Int) (t:Tok) (s:Shared) (Q:Value->Shared->Prop) (E:Value->Shared->Prop),Q (.int (g i) s.toks) {s with toks:=s.toks+1}->wpAny (model X.prog X.w) X.A (f (.int i t)) Q E s) :
  UnR X f (rU λi=>.int (g i)):=by
 intro pn s σ H x v Q I Z h;obtain⟨i,rfl,q⟩:=h;obtain⟨t,rfl⟩:=Z;exact j i t s _ _ ⟨.int (g i),H,I.tok _,⟨_,rfl⟩,q⟩
def Ob:UnR X (unaryOp .USub) (rU λi=>.int (-i)):=unI λ_ _ _ _ _ q=>neg_int q
def scal:V->V->Bool
 |.non,.non=>true|.non,.int _=>true|.int _,.non=>true|.non,.bl _=>true|.bl _,.non=>true|.non,.str _=>true|.str _,.non=>true
 |.int _,.int _=>true|.bl _,.bl _=>true|.str _,.str _=>true|.byt _,.byt _=>true
 |.int _,.str _=>true|.str _,.int _=>true|.bl _,.str _=>true|.str _,.bl _=>true
 |_,_=>false
def rEq:R2:=λx y H Q=>scal x y=true/\Q (.bl (decide (x=y))) H
def rNe:R2:=λx y H Q=>scal x y=true/\Q (.bl (!decide (x=y))) H
def Ld:decide (V.int i=V.int j)=(i==j):=by
 rw[Bool.eq_iff_iff];simp
def Eg:decide (V.bl i=V.bl j)=(i==j):=by
 rw[Bool.eq_iff_iff];simp
def Lc:decide (V.str i=V.str j)=(i==j):=by
 rw[Bool.eq_iff_iff];simp
def Le:decide (V.byt i=V.byt j)=(i.toList==j.toList):=by
 rw[Bool.eq_iff_iff];cases i;cases j;simp
variable{c:Expr}{tc:TE}
def yx(I:Inv X pn σ H s)(q:Q (.bl k) H)(e:k=k'):EP X pn σ Q (.bool k') s:=by
 subst e;exact⟨.bl k,H,I,rfl,q⟩
def z1y:OpR X (compareOp .Eq) rEq:=by
 intro pn s σ H x y v u Q I rx Z h;obtain⟨hs,q⟩:=h;cases x with
 |non =>
  cases rx
  cases y with
  |non=>cases Z;exact PySem.EqNone.eq_none_none (yx I q (by simp))
  |bl j=>cases Z;exact PySem.EqNone.eq_none_bool (yx I q (by simp))
  |int j=>obtain⟨t',rfl⟩:=Z;exact PySem.EqNone.eq_none_int (yx I q (by simp))
  |str j=>obtain⟨t',rfl⟩:=Z;exact PySem.EqNone.eq_none_str (yx I q (by simp))
  |_=>exact absurd (show false=true from hs) Bool.false_ne_true
 |bl i =>
  cases rx
  cases y with
  |non=>cases Z;exact PySem.EqNone.eq_bool_none (yx I q (by simp))
  |bl j=>cases Z;exact eq_bool (yx I q Eg)
  |str j=>obtain⟨t',rfl⟩:=Z;exact PySem.EqMixed.eq_bool_str (yx I q (by simp))
  |_=>exact absurd (show false=true from hs) Bool.false_ne_true
 |int i =>
  obtain⟨t,rfl⟩:=rx;cases y with
  |non=>cases Z;exact PySem.EqNone.eq_int_none (yx I q (by simp))
  |int j=>obtain⟨t',rfl⟩:=Z;exact eq_int (yx I q Ld)
  |str j=>obtain⟨t',rfl⟩:=Z;exact PySem.EqMixed.eq_int_str (yx I q (by simp))
  |_=>exact absurd (show false=true from hs) Bool.false_ne_true
 |str i =>
  obtain⟨t,rfl⟩:=rx;cases y with
  |non=>cases Z;exact PySem.EqNone.eq_str_none (yx I q (by simp))
  |bl j=>cases Z;exact PySem.EqMixed.eq_str_bool (yx I q (by simp))
  |int j=>obtain⟨t',rfl⟩:=Z;exact PySem.EqMixed.eq_str_int (yx I q (by simp))
  |str j=>obtain⟨t',rfl⟩:=Z;exact eq_str (yx I q Lc)
  |_=>exact absurd (show false=true from hs) Bool.false_ne_true
 |byt i =>
  obtain⟨t,rfl⟩:=rx;cases y with
  |byt j=>obtain⟨t',rfl⟩:=Z;exact W.eq_bytes (yx I q Le)
  |_=>exact absurd (show false=true from hs) Bool.false_ne_true
 |_=>cases y <;> exact absurd (show false=true from hs) Bool.false_ne_true
def z5c:OpR X (compareOp .NotEq) rNe:=by
 intro pn s σ H x y v u Q I rx Z h;obtain⟨hs,q⟩:=h;cases x with
 |non =>
  cases rx
  cases y with
  |non=>cases Z;exact PySem.EqNone.ne_none_none (yx I q (by simp))
  |bl j=>cases Z;exact PySem.EqNone.ne_none_bool (yx I q (by simp))
  |int j=>obtain⟨t',rfl⟩:=Z;exact PySem.EqNone.ne_none_int (yx I q (by simp))
  |str j=>obtain⟨t',rfl⟩:=Z;exact PySem.EqNone.ne_none_str (yx I q (by simp))
  |_=>exact absurd (show false=true from hs) Bool.false_ne_true
 |bl i =>
  cases rx
  cases y with
  |non=>cases Z;exact PySem.EqNone.ne_bool_none (yx I q (by simp))
  |bl j=>cases Z;exact ne_bool (yx I q (congrArg not Eg))
  |str j=>obtain⟨t',rfl⟩:=Z;exact PySem.EqMixed.ne_bool_str (yx I q (by simp))
  |_=>exact absurd (show false=true from hs) Bool.false_ne_true
 |int i =>
  obtain⟨t,rfl⟩:=rx;cases y with
  |non=>cases Z;exact PySem.EqNone.ne_int_none (yx I q (by simp))
  |int j=>obtain⟨t',rfl⟩:=Z;exact ne_int (yx I q (congrArg not Ld))
  |str j=>obtain⟨t',rfl⟩:=Z;exact PySem.EqMixed.ne_int_str (yx I q (by simp))
  |_=>exact absurd (show false=true from hs) Bool.false_ne_true
 |str i =>
  obtain⟨t,rfl⟩:=rx;cases y with
  |non=>cases Z;exact PySem.EqNone.ne_str_none (yx I q (by simp))
  |bl j=>cases Z;exact PySem.EqMixed.ne_str_bool (yx I q (by simp))
  |int j=>obtain⟨t',rfl⟩:=Z;exact PySem.EqMixed.ne_str_int (yx I q (by simp))
  |str j=>obtain⟨t',rfl⟩:=Z;exact ne_str (yx I q (congrArg not Lc))
  |_=>exact absurd (show false=true from hs) Bool.false_ne_true
 |byt i =>
  obtain⟨t,rfl⟩:=rx;cases y with
  |byt j=>obtain⟨t',rfl⟩:=Z;exact W.ne_bytes (yx I q (congrArg not Le))
  |_=>exact absurd (show false=true from hs) Bool.false_ne_true
 |_=>cases y <;> exact absurd (show false=true from hs) Bool.false_ne_true
def z5d:OpR X (compareOp .Lt) (rI0 λi j=>.bl (decide (i<j))):=opB0 λ_ _ _ _ _ _ _ q=>lt_int q
def z1w:OpR X (compareOp .LtE) (rI0 λi j=>.bl (decide (i<=j))):=opB0 λ_ _ _ _ _ _ _ q=>le_int q
def Jh:OpR X (compareOp .Gt) (rI0 λi j=>.bl (decide (j<i))):=opB0 λ_ _ _ _ _ _ _ q=>gt_int q
def z5e:OpR X (compareOp .GtE) (rI0 λi j=>.bl (decide (j<=i))):=opB0 λ_ _ _ _ _ _ _ q=>ge_int q
def Wo:OpR X (compareOp .In) (λx y H Q=>∃i j,x=.str i/\y=.str j/\Q (.bl (!(Builtin.Str.occurrences j i 0 j.length 1).isEmpty)) H):=by
 intro pn s σ H x y v u Q I rx Z h;obtain⟨i,j,rfl,rfl,q⟩:=h;obtain⟨t,rfl⟩:=rx;obtain⟨t',rfl⟩:=Z;exact in_str (yx I q rfl)
def Cm:OpR X (compareOp .IsNot) (λx y H Q=>y=.non/\Q (.bl (!decide (x=.non))) H):=by
 intro pn s σ H x y v u Q I j Z h;obtain⟨rfl,q⟩:=h;cases Z;refine isnot_none_gen (yx I q ?_);cases x <;> first
  |(cases j;rfl)
  |(obtain⟨t,rfl⟩:=j;rfl)
def OpR.or(h:OpR X f r)(h':OpR X f r'):OpR X f (λx y H Q=>r x y H Q\/r' x y H Q):=by
 intro pn s σ H x y v u Q I Z j q;rcases q with q|q
 ·exact h pn s σ H x y v u Q I Z j q
 exact h' pn s σ H x y v u Q I Z j q
def rm(b:Expr)(h:op≠.In:=by decide)(h2:op≠.NotIn:=by decide):behindInMarks op b=false:=by
 have q:(op==CmpOp.In)=false:=by cases op <;> first|rfl|exact absurd rfl h
 have j:(op==CmpOp.NotIn)=false:=by cases op <;> first|rfl|exact absurd rfl h2
 cases b <;> simp[behindInMarks,q,j]
def Cd(ho:OpR X (compareOp op) r)(ha:PE X a ta)(hb:PE X b tb)(hm:behindInMarks op b=false):PE X (.Compare a [op] [b] pos) (tOp r ta tb):=by
 intro pn s σ H Q I h;exact wpAny_Compare1 (binT ha hb I h λv u s2 x y H2 I2 Z j q=>ho pn s2 σ H2 x y v u Q I2 Z j q) hm
def D2(t:TE):TT:=λσ H Q=>t σ H λx H'=>∃k,x=.bl k/\Q k H'
def qb(ho:OpR X (compareOp op) r)(ha:PE X a ta)(hb:PE X b tb)(hm:behindInMarks op b=false):PT X (.Compare a [op] [b] pos) (D2 (tOp r ta tb)):=by
 intro pn s σ H Q I h;refine wpAny_isTrue_Compare1 (thn (ha pn s σ H _ I h) λv s1 ⟨x,H1,I1,q,q1⟩=>thn (hb pn s1 σ H1 _ I1 q1) λu s2 ⟨y,H2,I2,r2,q2⟩ =>
  thn (ho pn s2 σ H2 x y v u _ I2 q r2 q2) λc s3 ⟨z,H3,I3,j,k,e,Z⟩=>?_) hm
 subst e;cases j;exact wpAny_truthy_bool ⟨H3,I3,Z⟩
def Fb(r I:R2)(ta tb tc:TE):TE:=λσ H Q=>ta σ H λx H1=>tb σ H1 λy H2=>r x y H2 λz j=>∃k,z=.bl k /\
 (if k=true then tc σ j λq Z=>I y q Z Q else Q (.bl false) j)
def J7(ho:OpR X (compareOp op) r)(j:OpR X (compareOp op') r')(ha:PE X a ta)(hb:PE X b tb)(hc:PE X c tc)(hm:lastMarks [op,op'] [b,c]=false:=by with_unfolding_all rfl):PT X (.Compare a [op,op'] [b,c] pos) (D2 (Fb r r' ta tb tc)):=by
 intro pn s σ H Q I h;refine isTrue_chain (thn (ha pn s σ H _ I h) λv s1 ⟨x,H1,I1,r1,q1⟩=>test_link (thn (hb pn s1 σ H1 _ I1 q1) λu s2 ⟨y,H2,I2,r2,q2⟩ =>
  thn (ho pn s2 σ H2 x y v u _ I2 r1 r2 q2) λd s3 ⟨z,H3,Z,r3,k,e,q⟩=>?_)) hm
 subst e;cases r3;refine wpAny_truthy_bool ?_;cases k with
 |false =>
  obtain⟨k',e',q'⟩:=q;cases e';exact ite_ff ⟨H3,Z,q'⟩
 |true =>
  refine ite_tt (test_last (thn (hc pn s3 σ H3 _ Z q) λw' s4 ⟨z',H4,I4,r4,q4⟩=>thn (j pn s4 σ H4 y z' u w' _ I4 r2 r4 q4) λd' s5 ⟨z2,H5,I5,r5,k2,e2,q5⟩=>?_));subst e2;cases r5;exact wpAny_truthy_bool ⟨H5,I5,q5⟩
def TruV(K:W.Frag)(x:V)(H:Hp)(k:Bool):Prop :=
 match x with
 |.non=>k=false
 |.bl b=>k=b
 |.int i=>k=(i != 0)
 |.str y=>y.length<=sizeLine/\k=((y.length:Int) != 0)
 |.byt y=>y.size<=sizeLine/\k=((y.size:Int) != 0)
 |.ref p=>(∃xs,SqL K H p xs/\k=!xs.isEmpty)\/(∃xs,SqT K H p xs/\k=!xs.isEmpty)\/∃kvs,H p=some (.dK kvs)/\k=!kvs.isEmpty
 |_=>False
def Pe{κ:Type}{j:List (κ×V)}{vs:List (κ×Value)}(r:KV j vs):(!vs.isEmpty)=!j.isEmpty:=by
 cases r <;> rfl
def Zv{xs:List V}{its:List Value}(r:Vals xs its):(!its.toArray.isEmpty)=!xs.isEmpty:=by
 cases r <;> simp
def dq:(sizeLine:Nat)<2 ^ 63:=by rw[sizeLine_eq];decide
def Au:TruR X (λx H Q=>∃k,TruV X.K x H k/\Q k H):=by
 intro pn s σ H x v Q I rx h;obtain⟨k,e,q⟩:=h;have hl:=dq;have hs:sizeLine=16777216:=sizeLine_eq;cases x with
 |non =>
  cases rx
  have j:k=false:=e;subst j;exact truthy_none ⟨H,I,q⟩
 |bl b =>
  cases rx
  have j:k=b:=e;subst j;exact wpAny_truthy_bool ⟨H,I,q⟩
 |int i =>
  obtain⟨t,rfl⟩:=rx;have j:k=(i != 0):=e;subst j;exact PySem.P.truthy_int ⟨H,I,q⟩
 |str y =>
  obtain⟨t,rfl⟩:=rx;obtain⟨hy,j⟩:y.length<=sizeLine/\k=((y.length:Int) != 0):=e;subst j;exact PySem.P.truthy_str (by omega) ⟨H,I.tok _,q⟩
 |byt y =>
  obtain⟨t,rfl⟩:=rx;obtain⟨hy,j⟩:y.size<=sizeLine/\k=((y.size:Int) != 0):=e;subst j;exact W.truthy_bytes (by omega) ⟨H,I.tok _,q⟩
 |ref p =>
  cases rx
  have j:(∃xs,SqL X.K H p xs/\k=!xs.isEmpty)\/(∃xs,SqT X.K H p xs/\k=!xs.isEmpty)\/∃Z,H p=some (.dK Z)/\k=!Z.isEmpty:=e;rcases j with⟨xs,hx,j⟩|⟨xs,hx,j⟩|⟨Z,hx,j⟩
  ·subst j;obtain⟨its,r,pl,hz⟩:=I.list hx;have a0:=r.length;exact wpAny_truthy_list pl.isList (by simp only[zap];omega) ⟨H,I.tok _,by rw[Zv r];exact q⟩
  ·subst j;obtain⟨its,r,pl,hz⟩:=I.tuple hx;have a0:=r.length;exact truthy_tuple pl (by simp only[zap];omega) ⟨H,I.tok _,by rw[Zv r];exact q⟩
  subst j;obtain⟨hz,hS,vs,r,m⟩:Z.length<=sizeLine/\(p==sysModules)=false/\∃vs,KV Z vs/\s.heap.DictOf (yy X.prog X.w) p vs:=I.hok p _ hx;have a0:Z.length=vs.length:=Paired.length r;exact wpAny_truthy_dict hS m (by omega) ⟨H,I.tok _,by rw[Pe r];exact q⟩
 |_=>exact(show False from e).elim
def J6(ha:PE X a ta)(Z:∀ whole,isTrue a X.env whole=(do let v <- whole;standAt a.pos;holding [v] (truthy v))) :
  PT X a (λσ H Q=>ta σ H λx H'=>∃k,TruV X.K x H' k/\Q k H'):=by
 intro pn s σ H Q I h;exact isTrue_plain (thn (ha pn s σ H _ I h) λv s1 ⟨x,H1,I1,j,q⟩=>Au pn s1 σ H1 x v Q I1 j q) (Z _)
def Qv:OpR X (binaryOp .Add) (λx y H Q=>∃i j,x=.str i/\y=.str j/\i.length+j.length<=sizeLine/\Q (.str (i++j)) H):=by
 intro pn s σ H x y v u Q I rx Z h;obtain⟨i,j,rfl,rfl,hz,q⟩:=h;obtain⟨t,rfl⟩:=rx;obtain⟨t',rfl⟩:=Z;exact add_str (λt' tk=>⟨.str (i++j),H,I.tok _,⟨_,rfl⟩,q⟩) hz
def sf{x:V}{us:List Value}(r:Vals [x] us):∃u,us=[u]/\RelV x u:=by
 cases r with
 |cons r1 r2=>cases r2;exact⟨_,rfl,r1⟩
def Ke(r:Vals [x,y] us):∃u w',us=[u,w']/\RelV x u/\RelV y w':=by
 cases r with
 |cons r1 r2 =>
  cases r2 with
  |cons r3 r4=>cases r4;exact⟨_,_,rfl,r1,r3⟩
def Lq:ua X (.type "int") (λxs H Q=>(∃i,xs=[.int i]/\Q (.int i) H)\/∃k,xs=[.bl k]/\Q (.int (if k then 1 else 0)) H):=by
 intro pn s σ H xs us Q I r h;rcases h with⟨i,rfl,q⟩|⟨k,rfl,q⟩
 ·obtain⟨u,rfl,t,rfl⟩:=sf r;exact call_int_int ⟨.int i,H,I,⟨_,rfl⟩,q⟩
 obtain⟨u,rfl,j⟩:=sf r;cases j;exact call_int_bool ⟨.int (if k then 1 else 0),H,I.tok _,⟨_,rfl⟩,q⟩
def Vw:ua X (.type "str") (λxs H Q=>∃i,xs=[.int i]/\i.natAbs.log2<1920/\Q (.str (toString i)) H):=by
 intro pn s σ H xs us Q I r h;obtain⟨i,rfl,hz,q⟩:=h;obtain⟨u,rfl,t,rfl⟩:=sf r;exact PySem.P.str_of_int hz ⟨.str _,H,I.tok _,⟨_,rfl⟩,q⟩
structure ObjM(h:Heap)(x dx C:Addr)(mA:Str->Option Value):Prop where
 obj:h.get? x=some (W.instObj C dx)
 ns:h.Ns1 dx mA
 ne:dx≠x
def M7{h:Heap}{I:Str->Option Value}(n:h.Ns1 dx I):∃od,h.get? dx=some od/\∀name,W.lookIn name od=some (I name):=by
 obtain⟨o,es,ep,ho,hd,hk,_,hm⟩:=n;refine⟨o,ho,λname=>?_⟩;have e:=hm name;unfold nsFind findBy at e;rw[<- Array.find?_toList]at e;unfold W.lookIn;rw[hd]
 dsimp only
 split
 ·rename_i y q;rw[q]at e;exact congrArg some e
 rename_i q;rw[q]at e;have a:es.toList.any (·.refKey)=false:=by
  rw[List.any_eq_false];intro y Z;obtain⟨z,t,j⟩:=hk y (Array.mem_toList_iff.mp Z);simp[DictEntry.refKey,j]
 have a':¬ es.toList.any (·.refKey)=true:=by rw[a];exact Bool.false_ne_true
 rw[if_neg a'];exact congrArg some e
def ObjM.look(I:ObjM h x dx C mA):∃od,W.InstAt h x (W.instObj C dx) C (some od)/\∀name,W.lookIn name od=some (mA name) :=
 let ⟨od,ho,hl⟩:=M7 I.ns
 ⟨od,⟨I.obj,rfl,rfl,ho⟩,hl⟩
def RelO.some_of{o:Option Value}(r:RelO (some v) o):∃u,o=some u/\RelV v u:=by
 cases o with
 |none=>exact(show False from r).elim
 |some u=>exact⟨u,rfl,r⟩
variable{a C dx:Addr}{fs:List (Str×V)}
def Bh(I:HOk P w H h)(e:H a=some (.ins C dx fs)):∃j,ObjM h a dx C j/\(∀f,RelO (fs.lookup f) (j f))/\PySem.Within j (fs.map (·.1))/\fs.length<=1000/\H dx=some (.own a):=by
 obtain⟨d,z,ne,Z,j,n,r,q⟩:=(show wf P w H h a (.ins C dx fs) from I a _ e);exact⟨j,⟨Z,n,ne⟩,r,q,z,d⟩
structure Cls(K:W.Frag)(C:Addr):Prop where
 pg:W.plainGet K C Str.empty=true
 hd:W.hasDictIn K C=true
 po:W.plainOver K C=true
 sa:W.findIn K (.ref C) "__setattr__" = some (some (.builtin "object.__setattr__"))
def Cls.get{K:W.Frag}{C:Addr}(c:Cls K C)(f:Str):W.plainGet K C f=true:=c.pg
structure Con(K:W.Frag)(C:Addr)(f:Str)(v:V)(u:Value):Prop where
 at_:W.findIn K (.ref C) f=some (some u)
 rel:RelV v u
 get:W.specialIn K u "__get__" = some none
 cp:W.copiedNames.contains f=false
variable{A:Around}{Q:Value->Shared->Prop}{c:Value}{b:Bool}
inductive TyOf(K:W.Frag)(H:Hp):V->Value->Prop where
 |non:TyOf K H .non (.type "NoneType")
 |bl (x:Bool):TyOf K H (.bl x) (.type "bool")
 |int (i:Int):TyOf K H (.int i) (.type "int")
 |str (x:Str):TyOf K H (.str x) (.type "str")
 |flt (x:UInt64):TyOf K H (.flt x) (.type "float")
 |lst {a:Addr} {xs:List V} (e:H a=some (.lst xs)):TyOf K H (.ref a) (.type "list")
 |frz {a:Addr} {o:Obj} {xs:List V} (e:H a=some (.frz o (.lst xs))):TyOf K H (.ref a) (.type "list")
 |tup {a:Addr} {xs:List V} (e:H a=some (.tup xs)):TyOf K H (.ref a) (.type "tuple")
 |dK {a:Addr} {kvs:List (Key×V)} (e:H a=some (.dK kvs)):TyOf K H (.ref a) (.type "dict")
 |dT {a:Addr} {kvs:List (List Key×V)} (e:H a=some (.dT kvs)):TyOf K H (.ref a) (.type "dict")
 |ins {a C dx:Addr} {fs:List (Str×V)} (e:H a=some (.ins C dx fs)) (cl:Cls K C) (ha:W.findIn K (.ref C) "__class__" = some (some (.builtin "object.__class__")))
   (hn:W.specialIn K (.builtin "object.__class__") "__get__" = some (some (.builtin "getset_descriptor.__get__"))) (htk:W.takesIn K (.builtin "object.__class__")=some true)
   (hm:W.mroIn K C (.type "object")=some true):TyOf K H (.ref a) (.ref C)
def ut(I:Inv X pn σ H s)(j:RelV x u)(ty:TyOf X.K H x t)(e:W.kitOne X.K t c=some b)(h:∀ tk,Q (.bool b) {s with toks:=tk}) :
  wpAny (model X.prog X.w) A (call (.builtin "isinstance") [u,c]) Q E s:=by
 cases ty with
 |non=>cases (show u=Value.none from j);exact W.kia_one W.kitx_none I.kIn True.intro e (λz=>nomatch z) h
 |bl y=>cases (show u=Value.bool y from j);exact W.kia_one W.kitx_bool I.kIn True.intro e (λz=>nomatch z) h
 |int i=>obtain⟨t,q⟩:=(show ∃t,u=Value.int i t from j);cases q;exact W.kia_one W.kitx_int I.kIn True.intro e (λz=>nomatch z) h
 |str y=>obtain⟨t,q⟩:=(show ∃t,u=Value.str y t from j);cases q;exact W.kia_one W.kitx_str I.kIn True.intro e (λz=>nomatch z) h
 |flt y=>obtain⟨t,q⟩:=(show ∃t,u=Value.float y t from j);cases q;exact W.kia_one W.kitx_float I.kIn True.intro e (λz=>nomatch z) h
 |@lst a xs ea =>
  cases (show u=Value.ref a from j)
  obtain⟨_,_,n,_,h1⟩:=(show wf X.prog X.w H s.heap a (.lst xs) from I.hok a _ ea);exact W.kia_one W.kitx_list I.kIn ⟨_,h1,rfl⟩ e (λz=>nomatch z) h
 |@frz a ob xs ea =>
  cases (show u=Value.ref a from j)
  obtain⟨_,_,_,n,_,h1⟩:=(show wf X.prog X.w H s.heap a (.frz ob (.lst xs)) from I.hok a _ ea);exact W.kia_one W.kitx_list I.kIn ⟨_,h1,rfl⟩ e (λz=>nomatch z) h
 |@tup a xs ea =>
  cases (show u=Value.ref a from j)
  obtain⟨_,_,_,p⟩:=(show wf X.prog X.w H s.heap a (.tup xs) from I.hok a _ ea);obtain⟨o,h1,h2,_⟩:=p.1;exact W.kia_one W.kitx_tuple I.kIn ⟨o,h1,h2⟩ e (λz=>nomatch z) h
 |@dK a kvs ea =>
  cases (show u=Value.ref a from j)
  obtain⟨_,_,vs,_,p⟩:=(show wf X.prog X.w H s.heap a (.dK kvs) from I.hok a _ ea);obtain⟨o,es,Z,h1,h2,_⟩:=p;exact W.kia_one W.kitx_dict I.kIn ⟨o,h1,h2.1⟩ e (λz=>nomatch z) h
 |@dT a kvs ea =>
  cases (show u=Value.ref a from j)
  obtain⟨_,_,xs,_,o,es,Z,h1,h2,_⟩:=(show wf X.prog X.w H s.heap a (.dT kvs) from I.hok a _ ea);exact W.kia_one W.kitx_dict I.kIn ⟨o,h1,h2.1⟩ e (λz=>nomatch z) h
 |@ins a C dx fs ea cl ha hn htk hm =>
  cases (show u=Value.ref a from j)
  obtain⟨mA,O,_⟩:=Bh I.hok ea;obtain⟨od,J,_⟩:=O.look;exact W.kia_one (W.kitx_own (cl.get _) cl.hd ha hn htk hm) I.kIn J e (λz=>nomatch z) h
structure Room(k:Nat)(A:Around):Prop where
 hd:A.handled=none
 dp:A.depth+3*k+5<recursionLimit
 un:A.units+16*k+200<cLine
def Room.mono{j k:Nat}{A:Around}(r:Room k A)(h:j<=k):Room j A:=⟨r.hd,by have:=r.dp;omega,by have:=r.un;omega⟩
theorem Room.d{k k2:Nat}{A:Around}(h:Room k2 A)(e:k<=k2:=by omega):Room k A:=h.mono e
theorem Room.e{k k2:Nat}{A:Around}(h:Room k2 A)(e:Nat.ble k k2=true):Room k A:=h.mono (Nat.le_of_ble_eq_true e)
def Room.deeper{k:Nat}{A:Around}(r:Room (k+1) A)(env:Env):Room k (A.deeper env) :=
 ⟨r.hd,by have:=r.dp;show A.depth+1+3*k+5<_;omega,by have:=r.un;show A.units+3+16*k+200<_;omega⟩
def Room.depth{k:Nat}{A:Around}(r:Room k A):A.depth<recursionLimit:=by have:=r.dp;omega
def Room.units{k:Nat}{A:Around}(r:Room k A):A.units+64<cLine:=by have:=r.un;omega
def tNil:TA:=λ_ H Q=>Q [] H
def D8(ta:TE)(j:TA):TA:=λσ H Q=>ta σ H λx H1=>j σ H1 λxs H2=>Q (x::xs) H2
section
variable{e:Expr}{es:List Expr}{te:TE}{t:TA}
def vh:PA X [] tNil:=λ_ _ _ _ H Q I h=>Calls.spliced_nil ⟨[],H,I,.nil,h⟩
abbrev S_(X:Cx)(e:Expr)(es:List Expr):Prop:=starEach (e::es) X.env=(false,eval e X.env)::starEach es X.env
abbrev B_(X:Cx)(es:List Expr)(p:Pos):Prop:=(backTo p (starEach es X.env)).any (·.1)=false
def xw(ha:PE X e te)(hr:PA X es t)(hs:S_ X e es:=by rfl):PA X (e::es) (D8 te t):=by
 intro pos pn s σ H Q I h;rw[hs];show wpAny _ _ (spliced ((false,eval e X.env)::backTo pos (starEach es X.env))) _ _ s;refine Calls.spliced_cons (thn (ha pn s σ H _ I h) λu s1 ⟨x,H1,I1,j,Z⟩=>?_);exact thn (hr pos pn s1 σ H1 _ I1 Z) λus s2 ⟨xs,H2,I2,r2,q⟩=>⟨x::xs,H2,I2,.cons j r2,q⟩
def tTup(t:TA):TE:=λσ H Q=>t σ H λxs H1=>xs.length<=sizeLine/\∀p,H1 p=none->Q (.ref p) (upd H1 p (.tup xs))
def tLst(t:TA):TE:=λσ H Q=>t σ H λxs H1=>xs.length<=sizeLine/\∀p,H1 p=none->Q (.ref p) (upd H1 p (.lst xs))
def Np {x1} (h:PA X es t):PE X (.Tuple es x1 pos) (tTup t):=by
 intro pn s σ H Q I Z;refine wpAny_Tuple_spliced (thn (h pos pn s σ H _ I Z) λus s1 ⟨xs,H1,j,r,z,q⟩=>⟨by rw[<- r.length];exact z,?_⟩)
 have hf:H1 s1.heap.objs.size=none:=j.hok.fresh (zaj _);refine⟨.ref s1.heap.objs.size,upd H1 s1.heap.objs.size (.tup xs),j.laid (t':=s1.toks) (λb u e=>zac _ e) (zaj _) ?_,rfl,q _ hf⟩;exact⟨z,us,r,⟨_,zad _ rfl,rfl,_,rfl⟩,_,zad _ rfl,rfl⟩
def Wi(h:PA X es t):PE X (.List es pos) (tLst t):=by
 intro pn s σ H Q I Z;refine wpAny_List_spliced (thn (h pos pn s σ H _ I Z) λus s1 ⟨xs,H1,j,r,z,q⟩=>⟨by rw[<- r.length];exact z,?_⟩)
 have hf:H1 s1.heap.objs.size=none:=j.hok.fresh (zaj _);refine⟨.ref s1.heap.objs.size,upd H1 s1.heap.objs.size (.lst xs),j.laid (t':=s1.toks) (λb u e=>zac _ e) (zaj _) ?_,rfl,q _ hf⟩;exact⟨z,us,0,r,zad _ rfl⟩
end
abbrev Sp:=List V->Hp->VK->XK->Prop
abbrev CXT:=List Env->Hp->Shared->XK->Value->Shared->Prop
structure Env0(P:Program)(w:World)(K:W.Frag)(mg:Str->Option Value)(base:Heap)(A:Around)(outer:List Env)(s:Shared)(H:Hp):Prop where
 frames:A.frames=some outer
 mod:Mod K mg base
 bs:∀b o,base.get? b=some o->s.heap.get? b=some o/\H b=none
 bsz:base.objs.size<=s.heap.objs.size
 funs:s.heap.FunFrames base outer
 frf:∀b∈frs outer,H b=none
 hok:HOk P w H s.heap
 bare:AllBare s.gens
def CE(outer:List Env)(P:Program)(w:World)(H:Hp)(s:Shared)(Q:VK)(u:Value)(s':Shared):Prop :=
 ∃v H',s'.os=s.os/\AllBare s'.gens/\Un (frs outer) [] H H' s.heap s'.heap/\HOk P w H' s'.heap/\RelV v u/\Q v H'
def CR(CX:CXT)(outer:List Env)(P:Program)(w:World)(H:Hp)(s:Shared)(Q:VK)(E:XK)(r:Result)(s':Shared):Prop :=
 match r with
 |.ok (.ret u)=>CE outer P w H s Q u s'
 |.ok _=>False
 |.error e=>CX outer H s E e s'
structure FnOk(P:Program)(w:World)(K:W.Frag)(mg:Str->Option Value)(base:Heap)(CX:CXT)(k:Nat)(f:Addr)(fd:FuncData)(ps:List Str)(sp:Sp):Prop where
 len:∀vs H Q E,sp vs H Q E->vs.length=ps.length
 run:∀(A:Around)(outer:List Env)(s:Shared)(H:Hp)(args:Args)(us:List Value)(vs:List V)(Q:VK)(E:XK),Room k A->Env0 P w K mg base A outer s H->BindsTo s fd args (ps.zip us)->Vals vs us->sp vs H Q E ->
  codeAny (model P w) A (.call (.ref f) args) (CR CX outer P w H s Q E) s
variable{s':Shared}
def Inv.env0(I:Inv X pn σ H s):Env0 X.prog X.w X.K X.mg X.base X.A X.stack s H :=
 ⟨I.ok.frames,I.ok.mod,I.bs,zak I.ok.bsz I.sz,I.stack,I.stkFree,I.hok,I.bare⟩
def Inv.after{Q:VK}(I:Inv X pn σ H s)(h:CE X.stack X.prog X.w H s Q u s'):EP X pn σ Q u s':=by
 obtain⟨v,H',os,j,un,a0,r,q⟩:=h;obtain⟨hh,g,d,t,Z⟩:=s';obtain rfl:Z=s.os:=os;exact⟨v,H',I.call (h':=hh) (g':=g) (d':=d) (t':=t) (ch:=[]) un a0 j (λb z=>absurd z (by simp)),r,q⟩
def z0c(sp:Sp)(dvs:List V)(E:XK)(t:TA):TE:=λσ H Q=>t σ H λvs H1=>sp (vs++dvs) H1 Q E
def k8(K:W.Frag)(fd:FuncData)(ps:List Str)(ds:List Value):Prop :=
 ∀(s:Shared)(us:List Value),K.In s.heap->(us++ds).length=ps.length->BindsTo s fd ⟨us,[]⟩ (ps.zip (us++ds))
def k8.all{K:W.Frag}{fd:FuncData}{ps:List Str}(h:∀ us:List Value,us.length=ps.length->bindArgs fd ⟨us,[]⟩=pure (ps.zip us)):k8 K fd ps []:=λs us _ hl=>by
 rw[List.append_nil]at hl ⊢;exact .of_eq (h us hl)
def K1(CX:CXT)(X:Cx)(E:XK):Prop:=∀(pn:List (Addr×Obj))(σ:St)(H:Hp)(s:Shared)(e:Value)(s':Shared),Inv X pn σ H s->CX X.stack H s E e s'->X.xe e s'
section
variable{CX:CXT}{k:Nat}{f:Addr}{fd:FuncData}{ps:List Str}{sp:Sp}{dvs:List V}{ds:List Value}{E:XK}{x:Str}{p:Pos}{e:Expr}{es:List Expr}{t:TA}
def z0u{Q:VK}(F:FnOk X.prog X.w X.K X.mg X.base CX k f fd ps sp)(hr:Room k X.A)(hb:k8 X.K fd ps ds)(Z:Vals dvs ds)(q:K1 CX X E)(I:Inv X pn σ H s)(r:Vals vs us)(h:sp (vs++dvs) H Q E):wpAny (model X.prog X.w) X.A (call (.ref f) us) (EP X pn σ Q) X.xe s:=by
 have r2:Vals (vs++dvs) (us++ds):=r.append Z;have hl:(us++ds).length=ps.length:=by rw[<- r2.length];exact F.len _ _ _ _ h
 refine wpAny_call (codeAny_mono (F.run X.A X.stack s H ⟨us,[]⟩ (us++ds) (vs++dvs) Q E hr I.env0 (hb s us I.kIn hl) r2 h) λr s' j=>?_);cases r with
 |error e=>exact q pn σ H s e s' I j
 |ok fl =>
  cases fl with
  |ret u=>exact I.after j
  |next=>exact False.elim j
  |brk=>exact False.elim j
  |cont=>exact False.elim j
def Uy(F:FnOk X.prog X.w X.K X.mg X.base CX k f fd ps sp)(hr:Room k X.A)(hg:Gl X x)(hm:X.mg x=some (.ref f))(hk:W.keepIn X.K (.ref f)=true)(hb:k8 X.K fd ps ds)(hd:Vals dvs ds)(hx:K1 CX X E)(ha:PA X (e::es) t)(Z:D_ x:=by decide)(he:S_ X e es:=by rfl)(j:B_ X es pos:=by rfl) :
  PE X (.Call (.Name x p) (e::es) [] pos) (z0c sp dvs E t):=by
 intro pn s σ H Q I h;refine wpAny_Call_Name_kw (j7 I hg hm ?_ Z);refine W.callWith_K (h₀:=X.base) I.ok.mod.kin hk (thn (ha pos pn s σ H _ I h) λus s1 ⟨vs,H1,I1,r,q⟩=>⟨I1.kIn,?_⟩) he j;exact z0u F hr hb hd hx I1 r q
end
structure zt(N P:List Str)(sc:Scope):Prop where
 kind:sc.kind=.function
 co:sc.isCoroutine=false
 gen:sc.isGenerator=false
 nd:N.Nodup
 pre:N.take P.length=P
 par:∀x∈P,sc.names.lookup x=some .local\/sc.names.lookup x=some .cell
 nofree:∀y∈sc.names,y.2≠.free
theorem U4{j:Str->Option NameKind}{x:Str}:∀{binds:List (Str×Value)}{m:Str->Option Value},(∀v,(x,v)∉binds)->bindL j binds m x=m x
 |[],_,_=>rfl
 |(n,v)::r,m,h=>by
  unfold bindL;rw[U4 λw q=>h w (zal _ q)];split
  ·have:x≠n:=by rintro rfl;exact h v zao
   simp[this]
  rfl
theorem U6{j:Str->Option NameKind}{x:Str}:∀{binds:List (Str×Value)}{m:Str->Option Value},(∀v,(x,v)∉binds)->bindC j binds m x=m x
 |[],_,_=>rfl
 |(n,v)::r,m,h=>by
  unfold bindC;rw[U6 λw q=>h w (zal _ q)];split
  ·rfl
  have:x≠n:=by rintro rfl;exact h v zao
  simp[this]
theorem U5{j:Str->Option NameKind}{x:Str}{v:Value}:∀{P:List Str}{vs:List Value}{i:Nat}{m:Str->Option Value},P.Nodup->P[i]?=some x->vs[i]?=some v->j x=some .local ->
  bindL j (P.zip vs) m x=some v
 |[],_,_,_,_,h,_,_=>by simp at h
 |_::_,[],_,_,_,_,h,_=>by simp at h
 |p::P,w::vs,0,m,nd,h1,h2,hk=>by
  simp at h1 h2;subst h1;subst h2;show bindL j ((p,w)::P.zip vs) m p=_;unfold bindL;rw[U4 λv q=>(List.nodup_cons.mp nd).1 (List.of_mem_zip q).1,if_pos hk];simp
 |p::P,w::vs,i+1,m,nd,h1,h2,hk=>by
  show bindL j ((p,w)::P.zip vs) m x=_;unfold bindL;exact U5 (i:=i) (List.nodup_cons.mp nd).2 (by simpa using h1) (by simpa using h2) hk
theorem U7{j:Str->Option NameKind}{x:Str}{v:Value}:∀{P:List Str}{vs:List Value}{i:Nat}{m:Str->Option Value},P.Nodup->P[i]?=some x->vs[i]?=some v->j x≠some .local ->
  bindC j (P.zip vs) m x=some v
 |[],_,_,_,_,h,_,_=>by simp at h
 |_::_,[],_,_,_,_,h,_=>by simp at h
 |p::P,w::vs,0,m,nd,h1,h2,hk=>by
  simp at h1 h2;subst h1;subst h2;show bindC j ((p,w)::P.zip vs) m p=_;unfold bindC;rw[U6 λv q=>(List.nodup_cons.mp nd).1 (List.of_mem_zip q).1,if_neg hk];simp
 |p::P,w::vs,i+1,m,nd,h1,h2,hk=>by
  show bindC j ((p,w)::P.zip vs) m x=_;unfold bindC;exact U7 (i:=i) (List.nodup_cons.mp nd).2 (by simpa using h1) (by simpa using h2) hk
def start(N:List Str)(vs:List V):St:=vs.map some++List.replicate (N.length-vs.length) none
def cxOf(CX:CXT)(P:Program)(w:World)(K:W.Frag)(mg:Str->Option Value)(base:Heap)(N:List Str)(qual:Str)(scope:Scope)(f:Addr)(cd:Value)(A:Around)(outer:List Env)(s:Shared)(H:Hp)(E:XK):Cx where
 prog:=P
 w:=w
 K:=K
 mg:=mg
 base:=base
 A:=A.deeper (envOfC qual scope s.heap.objs.size f cd)
 N:=N
 s₀:=s
 H_:=H
 env:=envOfC qual scope s.heap.objs.size f cd
 outer:=outer
 stack:=envOfC qual scope s.heap.objs.size f cd::outer
 ex:=[]
 calm:=true
 fn:=λ_=>true
 pn:=[]
 xe:=λe s'=>wpAny (model P w) (A.deeper (envOfC qual scope s.heap.objs.size f cd)) (leaving (envOfC qual scope s.heap.objs.size f cd) e) (λ_ j=>CX outer H s E e j) (λq j=>CX outer H s E q j) s'
def Qe{j:Scope}{n:Nat}(h:j.names.lookup x=some .cell):∃c,(cellsFrom n j.names []).lookup x=some c:=by
 have q:=W.cellsFrom_some j.names n [] (.inl h);exact Option.isSome_iff_exists.mp q
def Va{CX:CXT}{P:Program}{w:World}{K:W.Frag}{mg:Str->Option Value}{base:Heap}{N ps:List Str}{qual:Str}{scope:Scope}{f:Addr}{cd:Value}{A:Around}{outer:List Env}{s s1:Shared}{H:Hp}{E:XK}{us:List Value}{vs:List V}(S:zt N ps scope)(hd:A.handled=none)(j:Env0 P w K mg base A outer s H)(hl:vs.length=ps.length)(r:Vals vs us)(x:InCallC s s.heap.objs.size (bindL (envOfC qual scope s.heap.objs.size f cd).kindOf (ps.zip us) λ_=>none) (cellsFrom (s.heap.objs.size+1) scope.names []) (bindC (envOfC qual scope s.heap.objs.size f cd).kindOf (ps.zip us) λ_=>none) s1) :
  Inv (cxOf CX P w K mg base N qual scope f cd A outer s H E) [] (start N vs) H s1:=by
 have a1:ps.length<=N.length:=by have:=congrArg List.length S.pre;rw[List.length_take]at this;omega
 obtain⟨h1,tk,rfl,hk⟩:=x.done;have I:∀b:Addr,b∉(cxOf CX P w K mg base N qual scope f cd A outer s H E).ex:=λb z=>absurd (show b∈([]:List Addr) from z) (by simp)
 refine⟨⟨j.mod,S.kind,rfl,rfl,zaj _,λy z c h1 h2=>?_,λy Z=>?_,λy c _ h=>?_,λ_=>hd,Around.frames_deeper j.frames,.inr ⟨rfl,rfl⟩,λb z=>absurd z (I b),j.bs,j.bsz,λb _ _=>I b,λb z=>absurd z (I b),j.funs,j.frf⟩,
  rfl,j.bare,Un.kept hk,⟨_,x.toInCall.ns,λi y v h1 h2 h3=>?_⟩,λy c h=>⟨_,x.cell y c h⟩,j.hok.fresh (zaj _),λy c h=>?_,λp hp=>absurd (show p∈([]:List (Addr×Obj)) from hp) (by simp),j.hok.kept hk,?_⟩
 ·exact name_of_addr x.apart (PySem.mem_of_lookup h1) (PySem.mem_of_lookup h2)
 ·have Z:scope.names.lookup y=some .cell\/scope.names.lookup y=some .free:=Z;rcases Z with Z|Z
  ·exact Qe Z
  exact absurd rfl (S.nofree _ (PySem.mem_of_lookup Z))
 ·exact Nat.le_of_lt (x.above y c (PySem.mem_of_lookup h))
 ·have hi:i<vs.length:=by
   unfold start at h2;by_cases hi:i<vs.length
   ·exact hi
   rw[List.getElem?_append_right (by simpa using hi)]at h2
   rw[List.getElem?_replicate]at h2;split at h2 <;> cases h2
  have ha:vs[i]?=some v:=by
   unfold start at h2;rw[List.getElem?_append_left (by simpa using hi),zai]at h2
   cases e:vs[i]? with
   |none=>rw[e]at h2;cases h2
   |some a=>rw[e]at h2;cases h2;rfl
  obtain⟨u,hu,rv⟩:=r.get ha;have hp:ps[i]?=some y:=by
   rw[<- S.pre,List.getElem?_take_of_lt (by omega)];exact h1
  have a0:ps.Nodup:=by rw[<- S.pre];exact S.nd.sublist (List.take_sublist _ _)
  refine⟨u,rv,?_⟩;rcases S.par y (zan hp) with k|k
  ·exact .inl ⟨k,U5 a0 hp hu k⟩
  obtain⟨c,e⟩:=Qe (n:=s.heap.objs.size+1) k;refine .inr ⟨.inl k,c,e,?_⟩;have q:=x.cell y c e;rw[U7 a0 hp hu (by show scope.names.lookup y≠_;rw[k];decide)]at q
  exact q
 ·exact j.hok.fresh (Nat.le_of_lt (x.above y c (PySem.mem_of_lookup h)))
 unfold start;show _=N.length;rw[zLa,zLm,List.length_replicate];omega
def z3e{K:W.Frag}{mg:Str->Option Value}{k:Nat}{dV kV a2 pm qZ ct oc:Value}{an od:Option Addr}{a4:Array (Option Value)}{sp:Sp}(lk:K.lookup f=some ⟨oc,od,.func (W.fnOf name qual params body scope dV kV a2 pm an qZ ct),a4⟩)(a6:W.codeIn K qZ qual=true)(S:zt N ps scope)(len:∀ vs H Q E,sp vs H Q E->vs.length=ps.length)(qY:∀ (A:Around) (outer:List Env) (s:Shared) (H:Hp) (vs:List V) (Q:VK) (E:XK),Room k (A.deeper (envOfC qual scope s.heap.objs.size f qZ))->sp vs H Q E ->
   ∃ t,PSs (cxOf CX P w K mg base N qual scope f qZ A outer s H E) body t/\t {nx:=λ_ H'=>Q .non H',rt:=Q} (start N vs) H) :
  FnOk P w K mg base CX (k+1) f (W.fnOf name qual params body scope dV kV a2 pm an qZ ct) ps sp:=by
 refine⟨len,λA outer s H a7 us vs Q E hr e0 hb r a0=>?_⟩;have hl:=len _ _ _ _ a0;have KX:K.In s.heap:=e0.mod.kin.keeps λb o e=>(e0.bs b o e).1;have a5:s.heap.NoLimit:=e0.mod.nolimit.keeps λb o e=>(e0.bs b o e).1;have Z:∀y∈ps.zip us,scope.names.lookup y.1=some .local\/(scope.names.lookup y.1=some .cell/\((cellsFrom (s.heap.objs.size+1) scope.names []).lookup y.1).isSome=true):=λ⟨n,v⟩ hy=>by
  rcases S.par n (List.of_mem_zip hy).1 with q|q
  ·exact .inl q
  exact .inr ⟨q,W.cellsFrom_some _ _ _ (.inl q)⟩
 refine codeAny_call_function hr.depth (KX _ _ lk) rfl S.co S.gen rfl (W.codeRec_of KX a6) (hb _ _ _ _ ?_);refine wpAny_newFunctionEnv_cells S.kind Z λenv he s1 x=>?_;subst he;refine⟨a5.keeps x.toInCall.keep,codeAny_func ?_⟩;obtain⟨t,ht,hq⟩:=qY A outer s H vs Q E (hr.deeper _) a0;have I:Inv (cxOf CX P w K mg base N qual scope f qZ A outer s H E) [] (start N vs) H s1:=Va S hr.hd e0 hl r x;refine wpAny_mono (ht [] s1 (start N vs) H _ I hq) (λfl s' hs=>?_) λe s' hs=>hs;have a1:∀{j:St}{H':Hp}{v:V}{u:Value},Inv (cxOf CX P w K mg base N qual scope f qZ A outer s H E) [] j H' s'->RelV v u->Q v H'->CE outer P w H s Q u s' :=
  λ{j H' v u} J rv q=>⟨v,H',J.os,J.bare,J.base,J.hok,rv,q⟩
 cases fl with
 |ret u =>
  obtain⟨v,j,H',J,rv,q⟩:=hs;exact a1 J rv q
 |next =>
  obtain⟨j,H',J,q⟩:=hs;exact a1 (v:=V.non) (u:=Value.none) J rfl q
 |brk =>
  obtain⟨_,_,_,q⟩:=hs;exact False.elim q
 |cont =>
  obtain⟨_,_,_,q⟩:=hs;exact False.elim q
section
variable{x:Str}{p:Pos}{e:Expr}{es:List Expr}{t:TA}{id T:String}{r:List V->Hp->VK->Prop}
def tCB(r:List V->Hp->VK->Prop)(t:TA):TE:=λσ H Q=>t σ H λvs H1=>r vs H1 Q
def t6(hc:ua X (.builtin id) r)(hg:Gl X x)(hm:X.mg x=none)(hv:bootBuiltins x=some (.builtin id))(ha:PA X (e::es) t)(hn:x≠"__name__":=by decide)(q:D_ x:=by decide)(he:S_ X e es:=by rfl)(j:B_ X es pos:=by rfl):PE X (.Call (.Name x p) (e::es) [] pos) (tCB r t):=by
 intro pn s σ H Q I h;refine wpAny_Call_Name_kw (qo I hg hm hv ?_ hn q);exact PyProof.Rows.callWith_builtin1 (thn (ha pos pn s σ H _ I h) λus s1 ⟨vs,H1,I1,Z,q1⟩=>hc pn s1 σ H1 vs us Q I1 Z q1) he j
def Wk(hc:ua X (.type T) r)(hg:Gl X x)(hm:X.mg x=none)(hv:bootBuiltins x=some (.type T))(ha:PA X (e::es) t)(hn:x≠"__name__":=by decide)(q:D_ x:=by decide)(he:S_ X e es:=by rfl)(j:B_ X es pos:=by rfl):PE X (.Call (.Name x p) (e::es) [] pos) (tCB r t):=by
 intro pn s σ H Q I h;refine wpAny_Call_Name_kw (qo I hg hm hv ?_ hn q);exact PyProof.Rows.callWith_type1 (thn (ha pos pn s σ H _ I h) λus s1 ⟨vs,H1,I1,Z,q1⟩=>hc pn s1 σ H1 vs us Q I1 Z q1) he j
end
section
open PySem.SeqAt
open PySem.AutoSeq1 (wpAny_loadPart')
open PySem.MeetsSeq PySem.MeetsSeq2 PySem.MeetsSeq3
end
section
variable{prog:Program}
def cat_tup{t b:Addr}(ht:IsTup s.heap t vs.toArray)(hb:IsTup s.heap b ws.toArray)(hv:vs≠[])(h1:ws=[]->Q (.ref t) s)(h2:ws≠[]->Q (.ref s.heap.objs.size) {s with heap:=s.heap.push {cls:=.type "tuple",data:=.seq (vs++ws).toArray}})(hsz:vs.length+ws.length<=sizeLine):wpAny (model prog w) A (binaryOp .Add (.ref t) (.ref b)) Q E s:=by
 obtain⟨⟨cls,dd,data,sl⟩,ho,hc,n,hd⟩:=id ht;obtain⟨⟨a2,a0,a1,q⟩,j,Z,n2,I⟩:=id hb;simp only at hc hd Z I;subst hc hd Z I;have e:vs.toArray++ws.toArray=(vs++ws).toArray:=by simp
 by_cases hw:ws=[]
 ·exact concat_meets ⟨_,ho,rfl⟩ ⟨_,j,rfl⟩ noFill_tuple_add seq_tuple_add PySem.F.slot_tuple_add PySem.F.entry_tuple_add (PySem.F.args_tuple_add_2 _ _)
   (tuple_addW1 t b vs.toArray ws.toArray n n2 dd a0 sl q (by simpa using hv) (by simp[hw])) ⟨ho,j,h1 hw⟩
 refine concat_meets ⟨_,ho,rfl⟩ ⟨_,j,rfl⟩ noFill_tuple_add seq_tuple_add PySem.F.slot_tuple_add PySem.F.entry_tuple_add (PySem.F.args_tuple_add_2 _ _)
  (tuple_addW2 t b vs.toArray ws.toArray n n2 dd a0 sl q (by simpa using hv) (by simpa using hw) (by rw[zap,zap];exact hsz)) ⟨ho,j,?_⟩
 rw[e];exact h2 hw
def sIx(n d:Nat):Option Int->Nat
 |none=>d
 |some v=>if v<0 then(v+(n:Int)).toNat else min v.toNat n
def sIx_none(n d:Nat):sIx n d none=d:=rfl
def sIx_nat(n d k:Nat):sIx n d (some (k:Int))=min k n:=by
 show(if (k:Int)<0 then((k:Int)+(n:Int)).toNat else min (k:Int).toNat n)=min k n
 rw[if_neg (by omega),Int.toNat_natCast]
def Zk(n d:Nat)(j:d<=n)(o:Option Int):sIx n d o<=n:=by
 cases o with
 |none=>exact j
 |some v =>
  show(if v<0 then(v+(n:Int)).toNat else min v.toNat n)<=n
  by_cases hv:v<0
  ·rw[if_pos hv];omega
  rw[if_neg hv];exact Nat.min_le_right _ _
def Ll(v:Int)(n d:Nat):(if v<0 then max (v+(n:Int)) 0 else min v (n:Int))=((sIx n d (some v):Nat):Int):=by
 show(if v<0 then max (v+(n:Int)) 0 else min v (n:Int))=(((if v<0 then(v+(n:Int)).toNat else min v.toNat n):Nat):Int)
 by_cases hv:v<0
 ·simp only[if_pos hv];omega
 simp only[if_neg hv];omega
def Px(lo hi:Option Int)(n:Nat):Builtin.Slice.sliceAdjust lo hi 1 (n:Int)=(((sIx n 0 lo:Nat):Int),((sIx n n hi:Nat):Int)):=by
 have h1:¬ ((1:Int)<0):=by omega
 unfold Builtin.Slice.sliceAdjust;simp only[h1,if_false];refine Prod.ext ?_ ?_
 ·cases lo with
  |none=>rfl
  |some v=>exact Ll v n 0
 cases hi with
 |none=>rfl
 |some v=>exact Ll v n n
def Qq(i j:Nat):Builtin.Slice.slicePlaces (i:Int) (j:Int) 1=j-i:=by
 unfold Builtin.Slice.slicePlaces;have h1:(1:Int) > 0:=by omega
 simp only[h1,if_true,Int.ediv_one];split <;> omega
def Zh{o:Option Int}{Q:Option Int->Shared->Prop}(p:IsPart v o)(h:Q o s):wpAny (model prog w) A (Builtin.Slice.slicePartIndex v) Q E s:=by
 cases p with
 |none=>exact slicePart_none h
 |int i t=>exact slicePart_int h
def jv{sl:Addr}{Z I:Value}{lo hi:Option Int}{n:Nat}{Q:Int×Int×Nat->Shared->Prop}(hs:s.heap.IsSliceOf sl Z I .none)(pl:IsPart Z lo)(pu:IsPart I hi)(h:Q (((sIx n 0 lo:Nat):Int),1,sIx n n hi-sIx n 0 lo) s):wpAny (model prog w) A (Builtin.Slice.sliceApplied (.ref sl) (pure (n:Int))) Q E s:=by
 obtain⟨os,j,a0,q⟩:=id hs;unfold Builtin.Slice.sliceApplied Builtin.Slice.sliceFields;refine zaa (zaa (wpAny_field j q (x:=Z) rfl (zaa (wpAny_field j q (x:=I) rfl (zaa (wpAny_field j q (x:=.none) rfl (zab ?_)))))));refine zaa (slicePart_none ?_);show wpAny _ _ (if ((1:Int)==0)=true then _ else _) _ _ s
 rw[if_neg (by decide)]
 refine zaa (Zh pl (zaa (Zh pu (zaa (zab ?_)))));show wpAny _ _ (match Builtin.Slice.sliceAdjust lo hi 1 (n:Int) with|(lo,hi)=>pure (lo,(1:Int),Builtin.Slice.slicePlaces lo hi 1)) _ _ s
 rw[Px lo hi n];show wpAny _ _ (pure (((sIx n 0 lo:Nat):Int),(1:Int),Builtin.Slice.slicePlaces ((sIx n 0 lo:Nat):Int) ((sIx n n hi:Nat):Int) 1)) _ _ s;rw[Qq];exact zab h
def Jd(xs:Array Value)(i k:Nat):((List.range k).filterMap λ(m:Nat)=>xs[((i:Int)+(m:Int)*1).toNat]?).toArray=((xs.toList.drop i).take k).toArray:=by
 have e:(λ(m:Nat)=>xs[((i:Int)+(m:Int)*1).toNat]?)=λm=>xs[i+m]?:=by
  funext m
  have:((i:Int)+(m:Int)*1).toNat=i+m:=by omega
  rw[this]
 rw[e];have:=pick_run xs i k;rw[List.filterMap_map]at this;have j:((λx=>xs[x]?) ∘ λx=>i+x)=λm=>xs[i+m]?:=rfl;rw[j]at this;rw[this]
def getItem_tuple_cut{t sl:Addr}{j:Array Value}{vl vu:Value}{lo hi:Option Int}{Q:Value->Shared->Prop}(Z:IsTup s.heap t j)(hs:s.heap.IsSliceOf sl vl vu .none)(pl:IsPart vl lo)(pu:IsPart vu hi)(hw:¬ (sIx j.size 0 lo=0/\sIx j.size j.size hi=j.size))(h:Q (.ref s.heap.objs.size) {s with heap:=s.heap.push {cls:=.type "tuple",data:=.seq ((j.toList.drop (sIx j.size 0 lo)).take (sIx j.size j.size hi-sIx j.size 0 lo)).toArray}})(hsz:j.size<=sizeLine):wpAny (model prog w) A (getItem (.ref t) (.ref sl)) Q E s:=by
 have I:sizeOk (.seq ((j.toList.drop (sIx j.size 0 lo)).take (sIx j.size j.size hi-sIx j.size 0 lo)).toArray):=by
  show((j.toList.drop (sIx j.size 0 lo)).take (sIx j.size j.size hi-sIx j.size 0 lo)).toArray.size<=sizeLine;rw[zap,List.length_take,List.length_drop,Array.length_toList];omega
 have hj:sIx j.size j.size hi<=j.size:=Zk _ _ (zaj _) hi;obtain⟨os,a0,a2,a5⟩:=id hs;have a4:s.TypeIs (.ref sl) "slice":=⟨os,a0,a2⟩;unfold getItem
 try with_reducible refine wpAny_holding ?_
 first|refine zaa (zab ?_)|skip
 refine zaa (wpAny_sequenceKey Z.typeIs (by decide) ?_)
 refine zaa (wpAny_callSpecial?_slot (name:=Str.ofString "__getitem__") Z.typeIs PyProof.Rows.slot_tuple_getitem
  (wpAny_call_entry PyProof.Rows.slot_tuple_getitem Z.typeIs entry_tuple_getitem ?_ (args_tuple_getitem _ _)))
 show wpAny _ _ (Builtin.Tuple.tupleItemsOf (.ref t) >>= _) _ _ s;refine zaa (tupleItemsOf_ Z ?_);refine zaa (wpAny_typeOf a4 ?_);rw[if_pos (by decide)]
 refine zaa (jv hs pl pu ?_);have a1:¬ ((((sIx j.size 0 lo:Nat):Int)==0&&(1:Int)==1&&(sIx j.size j.size hi-sIx j.size 0 lo)==j.size)=true):=by
  intro q;rw[Bool.and_eq_true,Bool.and_eq_true]at q;have q1:((sIx j.size 0 lo:Nat):Int)=0:=eq_of_beq q.1.1;have q2:sIx j.size j.size hi-sIx j.size 0 lo=j.size:=eq_of_beq q.2;exact hw ⟨by omega,by omega⟩
 show wpAny _ _ (if (((sIx j.size 0 lo:Nat):Int)==0&&(1:Int)==1&&(sIx j.size j.size hi-sIx j.size 0 lo)==j.size)=true then _ else _) _ _ s
 rw[if_neg a1,Jd]
 first
  |exact zaa (m:=Builtin.Tuple.tupleExact _) (wpAny_newObj_type (zab ⟨_,rfl,zab h⟩) I)
  |exact zaa (m:=Builtin.Tuple.tupleExact _) (wpAny_newObj_type (zaa (zab (zab ⟨_,rfl,zab h⟩))) I)
  |exact zaa (zaa (m:=Builtin.Tuple.tupleExact _) (wpAny_newObj_type (zab (zab ⟨_,rfl,zab h⟩)) I))
  |exact zaa (zaa (m:=Builtin.Tuple.tupleExact _) (wpAny_newObj_type (zab ⟨_,rfl,zab h⟩) I))
end
abbrev TO:=St->Hp->(Option Int->Hp->Prop)->Prop
def PO(X:Cx)(e:Option Expr)(t:TO):Prop :=
 ∀(pn:List (Addr×Obj))(s:Shared)(σ:St)(H:Hp)(Q:Option Int->Hp->Prop),Inv X pn σ H s->t σ H Q ->
  wpAny (model X.prog X.w) X.A (evalPart e X.env) (λu s'=>∃o H',Inv X pn σ H' s'/\IsPart u o/\Q o H') X.xe s
def D4:TO:=λ_ H Q=>Q none H
def z4n(t:TE):TO:=λσ H Q=>t σ H λx H1=>∃i,x=.int i/\Q (some i) H1
section
variable{e:Expr}{te:TE}{lo hi:Option Expr}{tl th:TO}{p2:Pos}
def C2:PO X none D4:=by
 intro pn s σ H Q I h;rw[evalPart_none];exact zab ⟨none,H,I,.none,h⟩
def C1(h:PE X e te):PO X (some e) (z4n te):=by
 intro pn s σ H Q I hw;rw[evalPart_some];refine thn (h pn s σ H _ I hw) λu s1 ⟨x,H1,I1,j,Z⟩=>?_;obtain⟨i,rfl,q⟩:=Z;obtain⟨t,rfl⟩:=j;exact⟨some i,H1,I1,.int i t,q⟩
def SlR(X:Cx)(r:V->Option Int->Option Int->Hp->VK->Prop):Prop :=
 ∀(pn:List (Addr×Obj))(s:Shared)(σ:St)(H:Hp)(x:V)(v vl vu:Value)(lo hi:Option Int)(sl:Addr)(Q:VK),Inv X pn σ H s->RelV x v->s.heap.IsSliceOf sl vl vu .none->IsPart vl lo->IsPart vu hi->r x lo hi H Q ->
  ∃T id,typeLookup (.type T) "__getitem__" = pure (some (.builtin id))/\s.TypeIs v T/\wpAny (model X.prog X.w) X.A (getItem v (.ref sl)) (EP X pn σ Q) X.xe s
def SlR.or(h:SlR X r)(h':SlR X r'):SlR X (λx lo hi H Q=>r x lo hi H Q\/r' x lo hi H Q):=by
 intro pn s σ H x v Z j lo hi sl Q I rx hs pl pu q;rcases q with q|q
 ·exact h pn s σ H x v Z j lo hi sl Q I rx hs pl pu q
 exact h' pn s σ H x v Z j lo hi sl Q I rx hs pl pu q
def tSl(r:V->Option Int->Option Int->Hp->VK->Prop)(te:TE)(tl th:TO):TE:=λσ H Q=>te σ H λx H1=>tl σ H1 λl H2=>th σ H2 λu j=>r x l u j Q
def Rm{r:V->Option Int->Option Int->Hp->VK->Prop}(hr:SlR X r)(he:PE X e te)(hl:PO X lo tl)(hu:PO X hi th):PE X (.Subscript e (.Slice lo hi none p2) pos) (tSl r te tl th):=by
 intro pn s σ H Q I h;refine Subscript_ (thn (he pn s σ H _ I h) λv s1 ⟨x,H1,I1,r1,q1⟩=>?_);refine wpAny_Slice (thn (hl pn s1 σ H1 _ I1 q1) λvl s2 ⟨l,H2,I2,pl,q2⟩=>thn (hu pn s2 σ H2 _ I2 q2) λZ j ⟨u,H3,I3,pu,q3⟩=>?_);rw[evalPart_none];refine zab ?_;have I4:Inv X pn σ H3 {j with heap:=j.heap.push {cls:=.type "slice",data:=.fields #[vl,Z,.none]}}:=I3.kept (t':=j.toks) λb ob q=>zac _ q;obtain⟨T,id,hT,ht,hg⟩:=hr pn {j with heap:=j.heap.push {cls:=.type "slice",data:=.fields #[vl,Z,.none]}} σ H3 x v vl Z l u j.heap.objs.size Q I4 r1 (Heap.IsSliceOf.new ..) pl pu q3;show wpAny (model X.prog X.w) X.A (subscriptTail e (.Slice lo hi none p2) v (.ref j.heap.objs.size)) (EP X pn σ Q) X.xe {j with heap:=j.heap.push {cls:=.type "slice",data:=.fields #[vl,Z,.none]}};exact tail_any (ops:=[.ref j.heap.objs.size,v]) ht hT hg (by with_unfolding_all rfl)
def cutV(xs:List V)(lo hi:Option Int):List V:=(xs.drop (ZZ.sIx xs.length 0 lo)).take (ZZ.sIx xs.length xs.length hi-ZZ.sIx xs.length 0 lo)
def cx(xs:List V)(lo hi:Option Int):(cutV xs lo hi).length<=xs.length:=by
 unfold cutV;rw[List.length_take,List.length_drop];omega
def rSlT(K:W.Frag):V->Option Int->Option Int->Hp->VK->Prop:=λx lo hi H Q=>∃a xs,x=.ref a/\SqT K H a xs /\
 ¬ (ZZ.sIx xs.length 0 lo=0/\ZZ.sIx xs.length xs.length hi=xs.length)/\∀p,H p=none->Q (.ref p) (upd H p (.tup (cutV xs lo hi)))
def z0i:SlR X (rSlT X.K):=by
 intro pn s σ H x v vl vu lo hi sl Q I rx hs pl pu h;obtain⟨a,xs,rfl,hx,hw,q⟩:=h;cases rx;obtain⟨its,r,Z,hz⟩:=I.tuple hx;have j:its.toArray.size=xs.length:=by rw[zap];exact r.length.symm
 refine⟨"tuple",_,PyProof.Rows.slot_tuple_getitem.lookup,Z.typeIs,?_⟩;refine ZZ.getItem_tuple_cut Z hs pl pu (by rw[j];exact hw) ?_ (by rw[j];exact hz)
 rw[j];refine⟨.ref s.heap.objs.size,_,I.laid (t':=s.toks) (o:=.tup (cutV xs lo hi)) (λb ob q=>zac _ q) (zaj _) ?_,rfl,q _ (I.hok.fresh (zaj _))⟩;exact⟨zak (cx xs lo hi) hz,_,(r.drop (ZZ.sIx xs.length 0 lo)).take (ZZ.sIx xs.length xs.length hi-ZZ.sIx xs.length 0 lo),IsTup.new _ _,_,zad _ rfl,rfl⟩
def z1a(K:W.Frag):R2:=λx y H Q=>∃a b xs ys,x=.ref a/\y=.ref b/\SqT K H a xs/\SqT K H b ys/\xs≠[]/\xs.length+ys.length<=sizeLine /\
 (ys=[]->Q (.ref a) H)/\(ys≠[]->∀p,H p=none->Q (.ref p) (upd H p (.tup (xs++ys))))
def Vals.nil_iff(r:Vals xs us):us=[] ↔ xs=[]:=by
 cases r with
 |nil=>simp
 |cons _ _=>simp
def Nu:OpR X (binaryOp .Add) (z1a X.K):=by
 intro pn s σ H x y v u Q I rx ry h;obtain⟨a,b,xs,ys,rfl,rfl,ha,hb,hx,hz,q1,q2⟩:=h;cases rx;cases ry;obtain⟨its,j,p1,_⟩:=I.tuple ha;obtain⟨Z,r2,p2,_⟩:=I.tuple hb;refine ZZ.cat_tup p1 p2 (λz=>hx (j.nil_iff.mp z)) (λz=>⟨.ref a,H,I,rfl,q1 (r2.nil_iff.mp z)⟩) (λz=>?_) (by rw[<- j.length,<- r2.length];exact hz)
 refine⟨.ref s.heap.objs.size,_,I.laid (t':=s.toks) (o:=.tup (xs++ys)) (λb ob q=>zac _ q) (zaj _) ?_,rfl,q2 (λw=>z (r2.nil_iff.mpr w)) _ (I.hok.fresh (zaj _))⟩;exact⟨by rw[zLa];exact hz,_,j.append r2,IsTup.new _ _,_,zad _ rfl,rfl⟩
end
def ixN(n:Nat)(i:Int):Option Nat:=if 0<=i then(if i<n then some i.toNat else none) else if -(n:Int)<=i then some (i+n).toNat else none
def atI{α:Type}(xs:List α)(i:Int):Option α:=(ixN xs.length i).bind λj=>xs[j]?
def Ml(h:ixN n i=some j):seqIndex? i n=some j/\j<n/\-(n:Int)<=i/\i<n:=by
 unfold ixN at h;by_cases h0:0<=i
 ·rw[if_pos h0]at h;by_cases h1:i<n
  ·rw[if_pos h1]at h;have e:i.toNat=j:=Option.some.inj h;exact⟨by rw[seqIndex_of h0 h1,e],by omega,by omega,h1⟩
  rw[if_neg h1]at h;cases h
 rw[if_neg h0]at h;by_cases h1:-(n:Int)<=i
 ·rw[if_pos h1]at h;have e:(i+n).toNat=j:=Option.some.inj h;exact⟨by rw[seqIndex_neg (by omega) h1,e],by omega,h1,by omega⟩
 rw[if_neg h1]at h;cases h
def Sk{α:Type}{xs:List α}{i:Int}{v:α}(h:atI xs i=some v):∃j,seqIndex? i xs.length=some j/\xs[j]?=some v/\j<xs.length/\-(xs.length:Int)<=i/\i<xs.length:=by
 unfold atI at h;cases e:ixN xs.length i with
 |none=>rw[e]at h;cases h
 |some j =>
  rw[e]at h;obtain⟨h1,h2,I,q⟩:=Ml e;exact⟨j,h1,h,h2,I,q⟩
def xx{α:Type}{xs:List α}{j:Nat}{v:α}(h:xs[j]?=some v):atI xs (j:Int)=some v:=by
 have q:j<xs.length:=(zag.mp h).1;have e:ixN xs.length (j:Int)=some j:=by
  unfold ixN;rw[if_pos (by omega),if_pos (by omega)];simp
 unfold atI;rw[e];exact h
def jh(b:Expr):Prop:=∀o i,subscripted b false o i=operate [o,i] (getItem o i)
def IxR(X:Cx)(r:R2):Prop :=
 ∀(value slice:Expr)(pn:List (Addr×Obj))(s:Shared)(σ:St)(H:Hp)(x y:V)(v u:Value)(Q:VK),Inv X pn σ H s->RelV x v->RelV y u->r x y H Q ->
  subscripted slice false v u=operate [v,u] (getItem v u)->wpAny (model X.prog X.w) X.A (subscriptTail value slice v u) (EP X pn σ Q) X.xe s
def MtR(X:Cx)(id:String)(r:V->List V->Hp->VK->Prop):Prop :=
 ∀(pn:List (Addr×Obj))(s:Shared)(σ:St)(H:Hp)(x:V)(xs:List V)(v:Value)(us:List Value)(Q:VK),Inv X pn σ H s->RelV x v->Vals xs us->r x xs H Q ->
  wpAny (model X.prog X.w) X.A (call (.builtin id) (v::us)) (EP X pn σ Q) X.xe s
variable{a b:Expr}
def IxR.or(h:IxR X r)(h':IxR X r'):IxR X (λx y H Q=>r x y H Q\/r' x y H Q):=by
 intro j Z pn s σ H x y v u Q I rx ry q hs;rcases q with q|q
 ·exact h j Z pn s σ H x y v u Q I rx ry q hs
 exact h' j Z pn s σ H x y v u Q I rx ry q hs
def Wj(hr:IxR X r)(ha:PE X a ta)(hb:PE X b tb)(hs:jh b):PE X (.Subscript a b pos) (tOp r ta tb):=by
 intro pn s σ H Q I h;exact Subscript_ (binT ha hb I h λv u s2 x y H2 I2 Z j q=>hr a b pn s2 σ H2 x y v u Q I2 Z j q (hs _ _))
def rIxL(K:W.Frag):R2:=λx y H Q=>∃p xs i v,x=.ref p/\y=.int i/\SqL K H p xs/\atI xs i=some v/\Q v H
def rIxT(K:W.Frag):R2:=λx y H Q=>∃p xs i v,x=.ref p/\y=.int i/\SqT K H p xs/\atI xs i=some v/\Q v H
def rIxS:R2:=λx y H Q=>∃z i c,x=.str z/\y=.int i/\z.length<=sizeLine/\atI z.cps.toList i=some c/\Q (.str ⟨#[c]⟩) H
def c4:IxR X (rIxL X.K):=by
 intro a0 a1 pn s σ H x y v u Q I rx ry h hs;obtain⟨p,xs,i,z,rfl,rfl,hq,he,q⟩:=h;cases rx;obtain⟨t,rfl⟩:=ry;obtain⟨its,r,pl,hz⟩:=I.list hq;obtain⟨j,h1,h2,h3,h4,h5⟩:=Sk he;obtain⟨w,ew,a2⟩:=r.get h2;have hl:=r.length;have hn:=dq;have Z:EP X pn σ Q w s:=⟨z,H,I,a2,q⟩;by_cases h0:0<=i
 ·have hj:i.toNat=j:=by
   rw[seqIndex_of h0 h5]at h1;exact Option.some.inj h1
  exact item_listR pl.isList h0 (by omega) (by rw[hj];simpa using ew) Z hs
 have hj:(i+(its.toArray.size:Int)).toNat=j:=by
  rw[seqIndex_neg (by omega) h4]at h1
  rw[zap,<- hl];exact Option.some.inj h1
 exact subscriptTail_builtinR (x:=w) pl.isList.typeIs slot_list_getitem.lookup
  (wpAny_getItem_list_neg (Q:=λr s'=>r=w/\EP X pn σ Q r s') pl.isList (by omega) (by rw[zap] <;> omega) (by omega) (by rw[hj];simpa using ew) ⟨rfl,Z⟩) hs
def z2q:IxR X (rIxT X.K):=by
 intro Z a0 pn s σ H x y v u Q I rx ry h hs;obtain⟨p,xs,i,z,rfl,rfl,hq,he,q⟩:=h;cases rx;obtain⟨t,rfl⟩:=ry;obtain⟨its,r,pl,hz⟩:=I.tuple hq;obtain⟨j,h1,h2,h3,h4,h5⟩:=Sk he;obtain⟨w,ew,a1⟩:=r.get h2;have hl:=r.length;have hn:=dq;have a2:EP X pn σ Q w s:=⟨z,H,I,a1,q⟩;exact subscriptTail_builtinR (x:=w) pl.typeIs slot_tuple_getitem.lookup
  (getItem_tuple (j:=j) (Q:=λr s'=>r=w/\EP X pn σ Q r s') pl (by omega) (by omega) (by rw[zap,<- hl];exact h1) (by simpa using ew) ⟨rfl,a2⟩) hs
def z2r:IxR X rIxS:=by
 intro Z a0 pn s σ H x y v u Q I rx ry h hs;obtain⟨z,i,c,rfl,rfl,hz,he,q⟩:=h;obtain⟨t,rfl⟩:=rx;obtain⟨t',rfl⟩:=ry;obtain⟨j,h1,h2,h3,h4,h5⟩:=Sk he;have hl:z.cps.toList.length=z.length:=by simp[Str.length]
 rw[hl]at h1 h4 h5;have hn:=dq;exact tail_any (typeIs_str s z t) slot_str_getitem.lookup (getItem_str (c:=c) (by
  have e1:decide (i < -(2 ^ 63:Int))=false:=decide_eq_false (by omega)
  have e2:decide (i ≥ 2 ^ 63)=false:=decide_eq_false (by omega)
  rw[e1,e2,Bool.or_false]) (by rw[h1];simpa using h2) ⟨.str ⟨#[c]⟩,H,I.tok _,⟨_,rfl⟩,q⟩) hs
def rIx(K:W.Frag):R2:=λx y H Q=>rIxL K x y H Q\/rIxT K x y H Q\/rIxS x y H Q
def Mk:IxR X (rIx X.K):=c4.or (z2q.or z2r)
def P1(its:List Value)(n j:Nat)(u:Value):Obj.mapSeq (·.setIfInBounds j u) {cls:=.type "list",data:=.seq its.toArray n}={cls:=.type "list",data:=.seq (its.set j u).toArray n}:=by
 simp[Obj.mapSeq]
def Inv.lst(I:Inv X pn σ H s)(h:H p=some (.lst xs)) :
  ∃(its:List Value)(n:Nat),Vals xs its/\s.heap.get? p=some {cls:=.type "list",data:=.seq its.toArray n}/\xs.length<=sizeLine:=by
 obtain⟨z,its,n,r,e⟩:=I.hok p _ h;exact⟨its,n,r,e,z⟩
def Inv.lstUpd{H:Hp}{its its':List Value}{n j:Nat}{f:Obj->Obj}(I:Inv X pn σ H s)(h:H p=some (.lst xs))(ho:s.heap.get? p=some {cls:=.type "list",data:=.seq its.toArray n})(Z:f {cls:=.type "list",data:=.seq its.toArray n}={cls:=.type "list",data:=.seq its'.toArray j})(r:Vals ys its')(hz:ys.length<=sizeLine)(t:Nat) :
  Inv X pn σ (upd H p (.lst ys)) {s with heap:=s.heap.update p f,toks:=t}:=by
 have e:(s.heap.update p f).get? p=some {cls:=.type "list",data:=.seq its'.toArray j}:=by
  rw[Heap.get?_update_self f ho (by rw[Z] <;> rfl),Z]
 refine I.write (x:=p) (e:=p) (by rw[h];trivial) (.inl rfl) (λb u hb q=>(Heap.get?_update_other _ _ (Ne.symm hb)).trans q) ⟨_,e⟩ ?_
 exact⟨hz,its',j,r,e⟩
def z4v:V->V->V->Hp->(Hp->Prop)->Prop:=λo i v H Q=>∃p xs k j,o=.ref p/\i=.int k/\H p=some (.lst xs)/\ixN xs.length k=some j/\Q (upd H p (.lst (xs.set j v)))
def R8:PSet X z4v:=by
 intro pn s σ H o i v ov iv u Q I ro ri rv h;obtain⟨p,xs,k,j,rfl,rfl,hp,hj,q⟩:=h;cases ro;obtain⟨t,rfl⟩:=ri;obtain⟨its,n,r,ho,hz⟩:=I.lst hp;obtain⟨h1,h2,h3,h4⟩:=Ml hj;have hl:=r.length;have hn:=dq;have I':Inv X pn σ (upd H p (.lst (xs.set j v))) {s with heap:=s.heap.update p (Obj.mapSeq (·.setIfInBounds j u))} :=
  I.lstUpd hp ho (P1 its n j u) (r.set rv j) (by rw[List.length_set];exact hz) s.toks
 by_cases h0:0<=k
 ·have Z:k.toNat=j:=by
   rw[seqIndex_of h0 h4]at h1;exact Option.some.inj h1
  exact W.ki_setAt ho h0 (by omega) (by rw[zap,<- hl];exact h4) (by rw[Z];exact⟨_,I',q⟩)
 have Z:(k+(its.toArray.size:Int)).toNat=j:=by
  rw[seqIndex_neg (by omega) h3]at h1
  rw[zap,<- hl];exact Option.some.inj h1
 exact W.ki_setBack ho (by omega) (by rw[zap,<- hl];exact h3) (by omega) (by rw[Z];exact⟨_,I',q⟩)
def We(lo hi:Option Int)(n:Nat):(sliceBounds lo hi none n).1=((ZZ.sIx n 0 lo:Nat):Int)/\(sliceBounds lo hi none n).2.1=((ZZ.sIx n n hi:Nat):Int)/\(sliceBounds lo hi none n).2.2=1:=by
 refine⟨?_,?_,rfl⟩
 ·cases lo with
  |none=>simp[sliceBounds,ZZ.sIx]
  |some i =>
   simp only[sliceBounds,ZZ.sIx,Option.getD_none,show(1:Int) > 0 by decide,if_true]
   by_cases h:i<0
   ·simp only[h,if_true] <;> omega
   simp only[h,if_false] <;> omega
 cases hi with
 |none=>simp[sliceBounds,ZZ.sIx]
 |some i =>
  simp only[sliceBounds,ZZ.sIx,Option.getD_none,show(1:Int) > 0 by decide,if_true]
  by_cases h:i<0
  ·simp only[h,if_true] <;> omega
  simp only[h,if_false] <;> omega
def Yh(its:List Value)(lo hi:Option Int):slicePick its.toArray lo hi none=((its.drop (ZZ.sIx its.length 0 lo)).take (ZZ.sIx its.length its.length hi-ZZ.sIx its.length 0 lo)).toArray:=by
 obtain⟨h1,h2,j⟩:=We lo hi its.toArray.size;unfold slicePick;rw[h1,h2,j];simp only[sliceRange_one,pick_run,zap] <;> rfl
def rSlL(K:W.Frag):V->Option Int->Option Int->Hp->VK->Prop:=λx lo hi H Q=>∃a xs,x=.ref a/\SqL K H a xs/\∀p,H p=none->Q (.ref p) (upd H p (.lst (cutV xs lo hi)))
def Df:SlR X (rSlL X.K):=by
 intro pn s σ H x v vl vu lo hi sl Q I rx hs pl pu h;obtain⟨a,xs,rfl,hx,q⟩:=h;cases rx;obtain⟨its,r,Z,hz⟩:=I.list hx;have j:=r.length;refine⟨"list",_,slot_list_getitem.lookup,Z.isList.typeIs,?_⟩;refine wpAny_getItem_list_slice Z.isList hs pl pu .none (by simp) ?_ (by rw[zap] <;> omega)
 rw[Yh,<- j];refine⟨.ref s.heap.objs.size,_,I.laid (t':=s.toks) (o:=.lst (cutV xs lo hi)) (λb ob q=>zac _ q) (zaj _) ?_,rfl,q _ (I.hok.fresh (zaj _))⟩;exact⟨zak (cx xs lo hi) hz,_,0,(r.drop (ZZ.sIx xs.length 0 lo)).take (ZZ.sIx xs.length xs.length hi-ZZ.sIx xs.length 0 lo),zad _ rfl⟩
def Z0:V->Bool
 |.non=>true
 |.bl _=>true
 |.int _=>true
 |.str _=>true
 |_=>false
def eqV:V->V->Bool
 |.non,.non=>true
 |.bl a,.bl b=>a==b
 |.bl a,.int b=>(if a then 1 else 0)==b
 |.int a,.bl b=>a==(if b then 1 else 0)
 |.int a,.int b=>a==b
 |.str a,.str b=>a==b
 |_,_=>false
def z3n(q:RelV y u)(j:RelV x v)(Z:Z0 y=true)(I:Z0 x=true):SeqAt.EqAt A s u v (eqV y x):=by
 cases y with
 |non =>
  cases q
  cases x with
  |non=>cases j;exact SeqAt.EqAt.same _
  |bl b=>cases j;exact SeqAt.EqAt.none_bool b
  |int b=>obtain⟨t,rfl⟩:=j;exact SeqAt.EqAt.none_int b t
  |str b=>obtain⟨t,rfl⟩:=j;exact SeqAt.EqAt.none_str b t
  |_=>exact absurd (show false=true from I) Bool.false_ne_true
 |bl a =>
  cases q
  cases x with
  |non=>cases j;exact SeqAt.EqAt.bool_none a
  |bl b=>cases j;exact SeqAt.EqAt.bool_bool a b
  |int b=>obtain⟨t,rfl⟩:=j;exact SeqAt.EqAt.bool_int a b t
  |str b=>obtain⟨t,rfl⟩:=j;exact SeqAt.EqAt.bool_str a b t
  |_=>exact absurd (show false=true from I) Bool.false_ne_true
 |int a =>
  obtain⟨t',rfl⟩:=q;cases x with
  |non=>cases j;exact SeqAt.EqAt.int_none a t'
  |bl b=>cases j;exact SeqAt.EqAt.int_bool a t' b
  |int b=>obtain⟨t,rfl⟩:=j;exact SeqAt.EqAt.int_int a t' b t
  |str b=>obtain⟨t,rfl⟩:=j;exact SeqAt.EqAt.int_str a t' b t
  |_=>exact absurd (show false=true from I) Bool.false_ne_true
 |str a =>
  obtain⟨t',rfl⟩:=q;cases x with
  |non=>cases j;exact SeqAt.EqAt.str_none a t'
  |bl b=>cases j;exact SeqAt.EqAt.str_bool a t' b
  |int b=>obtain⟨t,rfl⟩:=j;exact SeqAt.EqAt.str_int a t' b t
  |str b=>obtain⟨t,rfl⟩:=j;exact SeqAt.EqAt.str_str a t' b t
  |_=>exact absurd (show false=true from I) Bool.false_ne_true
 |_=>exact absurd (show false=true from Z) Bool.false_ne_true
def eqU(x:V)(u:Value):Bool:=match u with
 |.none=>eqV .non x
 |.bool b=>eqV (.bl b) x
 |.int i _=>eqV (.int i) x
 |.str z _=>eqV (.str z) x
 |_=>false
def Ee(r:RelV y u)(f:Z0 y=true):eqU x u=eqV y x:=by
 cases y with
 |non=>cases r;rfl
 |bl b=>cases r;rfl
 |int i=>obtain⟨t,rfl⟩:=r;rfl
 |str z=>obtain⟨t,rfl⟩:=r;rfl
 |_=>exact absurd (show false=true from f) Bool.false_ne_true
theorem bn:∀{xs:List V}{us:List Value},Vals xs us->xs.all Z0=true->us.any (eqU x)=xs.any λy=>eqV y x
 |_,_,.nil,_=>rfl
 |y::xs,u::us,.cons r t,f=>by
  rw[List.all_cons,Bool.and_eq_true]at f;rw[List.any_cons,List.any_cons,Ee r f.1,bn t f.2]
theorem qm(j:RelV x v)(q:Z0 x=true):∀{xs:List V}{us:List Value},Vals xs us->xs.all Z0=true->∀u∈us,SeqAt.EqAt A s u v (eqU x u)
 |_,_,.nil,_=>λu hu=>by cases hu
 |y::xs,u::us,.cons r t,f=>λI hu=>by
  rw[List.all_cons,Bool.and_eq_true]at f;rcases zam.mp hu with rfl|hu
  ·rw[Ee r f.1];exact z3n r j f.1 q
  exact qm j q t f.2 I hu
def inV(x:V)(xs:List V):Bool:=xs.any λy=>eqV y x
def rIn(K:W.Frag)(j:Bool):R2:=λx y H Q=>∃p xs,y=.ref p/\(SqL K H p xs\/SqT K H p xs)/\Z0 x=true/\xs.all Z0=true/\Q (.bl (if j then !inV x xs else inV x xs)) H
def qk:OpR X (compareOp .In) (rIn X.K false):=by
 intro pn s σ H x y v u Q I rx ry h;obtain⟨p,xs,rfl,j,fx,fs,q⟩:=h;cases ry;rcases j with j|j
 ·obtain⟨its,r,Z,hz⟩:=I.list j;refine SeqAt.in_listAt (eqU x) Z.isList (λw hw=>qm rx fx r fs w (by simpa using hw)) ⟨.bl _,H,I,rfl,?_⟩
  rw[show its.toArray.any (eqU x)=its.any (eqU x) by simp,bn r fs]
  exact q
 obtain⟨its,r,Z,hz⟩:=I.tuple j;refine SeqAt.in_tupleAt (eqU x) Z (λw hw=>qm rx fx r fs w (by simpa using hw)) ⟨.bl _,H,I,rfl,?_⟩
 rw[show its.toArray.any (eqU x)=its.any (eqU x) by simp,bn r fs]
 exact q
def ss:OpR X (compareOp .NotIn) (rIn X.K true):=by
 intro pn s σ H x y v u Q I rx ry h;obtain⟨p,xs,rfl,j,fx,fs,q⟩:=h;cases ry;rcases j with j|j
 ·obtain⟨its,r,Z,hz⟩:=I.list j;refine SeqAt.notIn_listAt (eqU x) Z.isList (λw hw=>qm rx fx r fs w (by simpa using hw)) ⟨.bl _,H,I,rfl,?_⟩
  rw[show its.toArray.any (eqU x)=its.any (eqU x) by simp,bn r fs]
  exact q
 obtain⟨its,r,Z,hz⟩:=I.tuple j;refine SeqAt.notIn_tupleAt (eqU x) Z (λw hw=>qm rx fx r fs w (by simpa using hw)) ⟨.bl _,H,I,rfl,?_⟩
 rw[show its.toArray.any (eqU x)=its.any (eqU x) by simp,bn r fs]
 exact q
def jm:OpR X (compareOp .NotIn) (λx y H Q=>∃i j,x=.str i/\y=.str j/\Q (.bl (!(!(Builtin.Str.occurrences j i 0 j.length 1).isEmpty))) H):=by
 intro pn s σ H x y v u Q I rx Z h;obtain⟨i,j,rfl,rfl,q⟩:=h;obtain⟨t,rfl⟩:=rx;obtain⟨t',rfl⟩:=Z;exact notIn_str ⟨.bl _,H,I,rfl,q⟩
def ul:ua X (.builtin "len") (λxs H Q=>∃p ys,xs=[.ref p]/\(SqL X.K H p ys\/SqT X.K H p ys)/\Q (.int ys.length) H):=by
 intro pn s σ H xs us Q I r h;obtain⟨p,ys,rfl,Z,q⟩:=h;obtain⟨u,rfl,rx⟩:=sf r;cases rx;have hn:=dq;rcases Z with Z|Z
 ·obtain⟨its,r',pl,hz⟩:=I.list Z;have j:=r'.length;exact Calls.call_len_list pl.isList (by simp only[zap] <;> omega) ⟨.int ys.length,H,I.tok _,⟨s.toks+1,by rw[zap,j]⟩,q⟩
 obtain⟨its,r',pl,hz⟩:=I.tuple Z;have j:=r'.length;exact len_tuple pl (by simp only[zap] <;> omega) ⟨.int ys.length,H,I.tok _,⟨s.toks+1,by rw[zap,j]⟩,q⟩
def Vy:ua X (.builtin "len") (λxs H Q=>∃z,xs=[.str z]/\z.length<=sizeLine/\Q (.int z.length) H):=by
 intro pn s σ H xs us Q I r h;obtain⟨z,rfl,hz,q⟩:=h;obtain⟨u,rfl,t,rfl⟩:=sf r;have j:=dq;exact len_str (by omega) ⟨.int z.length,H,I.tok _,⟨_,rfl⟩,q⟩
def ua.or{f:Value}{r j:List V->Hp->VK->Prop}(h:ua X f r)(h':ua X f j):ua X f (λxs H Q=>r xs H Q\/j xs H Q):=by
 intro pn s σ H xs us Q I rs q;rcases q with q|q
 ·exact h pn s σ H xs us Q I rs q
 exact h' pn s σ H xs us Q I rs q
def Vx:ua X (.type "list") (λxs H Q=>∃p ys,xs=[.ref p]/\(SqL X.K H p ys\/SqT X.K H p ys)/\∀l,H l=none->Q (.ref l) (upd H l (.lst ys))):=by
 intro pn s σ H xs us Q I r h;obtain⟨p,ys,rfl,hq,q⟩:=h;obtain⟨u,rfl,rx⟩:=sf r;cases rx;have a1:∀(its:List Value),Vals ys its->ys.length<=sizeLine->∀(h':Heap)(Z:Nat),(∀b o',s.heap.get? b=some o'->h'.get? b=some o') ->
   h'.get? s.heap.objs.size=some {cls:=.type "list",dict:=none,data:=.seq its.toArray Z,slots:=#[]}->EP X pn σ Q (.ref s.heap.objs.size) {s with heap:=h'}:=λits j hz h' Z kp e =>
  ⟨.ref s.heap.objs.size,_,I.laid (t':=s.toks) kp (zaj _) (show wf X.prog X.w _ h' _ (.lst ys) from⟨hz,its,Z,j,e⟩),rfl,q _ (I.hok.fresh (zaj _))⟩
 rcases hq with hq|hq
 ·obtain⟨its,j,pl,hz⟩:=I.list hq;have a0:=j.length;obtain⟨o,ho,hc,n,hd⟩:=pl.isList;exact call_list_seq p (.inl rfl) ho hc hd (λh' Z kp e=>a1 its j hz h' Z kp e) (by simp only[zap] <;> omega)
 obtain⟨its,j,pl,hz⟩:=I.tuple hq;have a0:=j.length;obtain⟨o,ho,hc,n,hd⟩:=pl;exact call_list_seq p (.inr rfl) ho hc hd (λh' Z kp e=>a1 its j hz h' Z kp e) (by simp only[zap] <;> omega)
def Xw:ua X (.type "tuple") (λxs H Q=>∃p ys,xs=[.ref p]/\((SqL X.K H p ys/\∀l,H l=none->Q (.ref l) (upd H l (.tup ys)))\/(SqT X.K H p ys/\Q (.ref p) H))):=by
 intro pn s σ H xs us Q I r h;obtain⟨p,ys,rfl,h⟩:=h;obtain⟨u,rfl,rx⟩:=sf r;cases rx;rcases h with⟨hq,q⟩|⟨hq,q⟩
 ·obtain⟨its,j,Z,hz⟩:=I.list hq;have a0:=j.length;refine call_tuple_list Z.isList (λh' kp=>?_) (by simp only[zap] <;> omega)
  have I1:Inv X pn σ H {s with heap:=h'}:=I.kept (t':=s.toks) kp;have I2:Inv X pn σ (upd H h'.objs.size (.tup ys)) {s with heap:=h'.push {cls:=.type "tuple",data:=.seq its.toArray}} :=
   I1.laid (t':=s.toks) (λb o e=>zac _ e) (zaj _) (show wf X.prog X.w _ _ _ (.tup ys) from⟨hz,its,j,IsTup.new _ _,_,zad _ rfl,rfl⟩)
  exact⟨.ref h'.objs.size,_,I2,rfl,q _ (I1.hok.fresh (zaj _))⟩
 obtain⟨its,j,Z,hz⟩:=I.tuple hq;exact call_tuple_same Z ⟨.ref p,H,I,rfl,q⟩
def tyV(K:W.Frag)(T:String)(x:V)(H:Hp):Prop:=match x with
 |.str _=>T = "str"
 |.int _=>T = "int"
 |.ref p=>(T = "list"/\∃xs,SqL K H p xs)\/(T = "tuple"/\∃o,K.lookup p=some o/\o.cls=.type "tuple"/\o.dict=none) \/
   (T = "dict"/\((∃kvs,H p=some (.dK kvs))\/∃kvs,H p=some (.dT kvs)))\/(T = "set"/\∃S n,H p=some (.set S n))
 |_=>False
def Oc(I:Inv X pn σ H s)(r:RelV x v)(ty:tyV X.K T x H) :
  s.TypeIs v T/\∀a,v=.ref a->∃ob,s.heap.get? a=some ob/\ob.dict=none:=by
 cases x with
 |str z =>
  obtain⟨t,rfl⟩:=r;cases (show T = "str" from ty);exact⟨typeIs_str s z t,λ_ e=>nomatch e⟩
 |int i =>
  obtain⟨t,rfl⟩:=r;cases (show T = "int" from ty);exact⟨typeIs_int s i t,λ_ e=>nomatch e⟩
 |ref p =>
  cases r
  rcases ty with⟨rfl,xs,hq⟩|⟨rfl,o,j,hc,Z⟩|⟨rfl,j⟩|⟨rfl,S,n,j⟩
  ·obtain⟨its,_,pl,_⟩:=I.list hq;refine⟨pl.isList.typeIs,λa e=>?_⟩;cases e;obtain⟨o,n,e,c,Z,_⟩:=pl;exact⟨o,e,Z⟩
  ·refine⟨⟨o,I.kIn p o j,hc⟩,λa e=>?_⟩;cases e;exact⟨o,I.kIn _ o j,Z⟩
  ·have z:∃o,s.heap.get? p=some o/\o.ExactDict:=by
    rcases j with⟨q,j⟩|⟨q,j⟩
    ·obtain⟨_,_,_,_,o,_,_,e,ex,_⟩:=I.hok p _ j;exact⟨o,e,ex⟩
    obtain⟨_,_,_,_,o,_,_,e,ex,_⟩:=I.hok p _ j;exact⟨o,e,ex⟩
   obtain⟨o,e,ex⟩:=z;refine⟨⟨o,e,ex.1⟩,λa e2=>?_⟩;cases e2;exact⟨o,e,ex.2.1⟩
  obtain⟨o,_,_,_,e,ex,_⟩:=I.hok p _ j;refine⟨⟨o,e,ex.1⟩,λa e2=>?_⟩;cases e2;exact⟨o,e,ex.2.1⟩
 |_=>exact False.elim ty
def tBM0(K:W.Frag)(T:String)(r:V->List V->Hp->VK->Prop)(to:TE):TE:=λσ H Q=>to σ H λx H1=>tyV K T x H1/\r x [] H1 Q
def tBM(K:W.Frag)(T:String)(r:V->List V->Hp->VK->Prop)(to:TE)(t:TA):TE:=λσ H Q=>to σ H λx H1=>tyV K T x H1/\t σ H1 λxs H2=>r x xs H2 Q
section
variable{o e:Expr}{es:List Expr}{to:TE}{t:TA}{name:Str}{apos cpos:Pos}{T id:String}{r:V->List V->Hp->VK->Prop}
def z1q(pa:PlainAttrs T)(slot:Slot T name id)(Z:typeOf (.builtin id)=pure (.type "method_descriptor"))(hm:MtR X id r)(ho:PE X o to)(q:attributeBase o name X.env (eval o X.env)=eval o X.env:=by rfl)(j:(apos.endLine==cpos.line)=true:=by rfl):PE X (.Call (.Attribute o name apos) [] [] cpos) (tBM0 X.K T r to):=by
 intro pn s σ H Q I h;refine wpAny_Call_method0_late q j (thn (ho pn s σ H _ I h) λv s1 ⟨x,H1,I1,r1,ty,q1⟩=>?_);obtain⟨h1,h2⟩:=Oc I1 r1 ty;exact⟨T,id,pa,slot,Z,h1,h2,Calls.callWith_builtin rfl (PySem.evalArgs_none (hm pn s1 σ H1 x [] v [] Q I1 r1 .nil q1))⟩
def Uz(pa:PlainAttrs T)(slot:Slot T name id)(a1:typeOf (.builtin id)=pure (.type "method_descriptor"))(hm:MtR X id r)(ho:PE X o to)(ha:PA X (e::es) t)(Z:attributeBase o name X.env (eval o X.env)=eval o X.env:=by rfl)(a0:((backTo cpos (starEach (e::es) X.env)).all (λx=>!x.1)&&(backToKw cpos (keywordEach [] X.env)).all (λx=>x.1.isSome)
   && decide ((e::es).length+([]:List Keyword).length+(if ([]:List Keyword).isEmpty then 0 else 1)<30))=true:=by rfl)(q:(apos.endLine==cpos.line)=true:=by rfl)(hs:S_ X e es:=by rfl)(j:B_ X es cpos:=by rfl) :
  PE X (.Call (.Attribute o name apos) (e::es) [] cpos) (tBM X.K T r to t):=by
 intro pn s σ H Q I h;refine wpAny_Call_method_late Z a0 q rfl (thn (ho pn s σ H _ I h) λv s1 ⟨x,H1,I1,r1,ty,q1⟩=>?_);obtain⟨h1,h2⟩:=Oc I1 r1 ty;refine⟨T,id,pa,slot,a1,h1,h2,?_⟩;have hA:=ha cpos pn s1 σ H1 _ I1 q1;rw[hs]at hA ⊢;refine Calls.callWith_builtin (by show(false || (backTo cpos (starEach es X.env)).any (·.1))=false;rw[j] <;> rfl) (Calls.evalArgs_plain ?_)
 exact thn hA λus s2 ⟨vs,H2,I2,r2,q2⟩=>hm pn s2 σ H2 x vs v us Q I2 r1 r2 q2
end
def MtM(X:Cx)(id:String)(r:V->List V->Hp->VK->Prop):Prop :=
 ∀(pn:List (Addr×Obj))(s:Shared)(σ:St)(H:Hp)(x:V)(xs:List V)(v:Value)(us:List Value)(Q:VK),Inv X pn σ H s->RelV x v->Vals xs us->r x xs H Q ->
  wpAny (model X.prog X.w) X.A (call (.builtin id) (v::us)) (EP X pn σ Q) X.xe s
def Vals.one:∀{x:V}{us:List Value},Vals [x] us->∃u,us=[u]/\RelV x u
 |_,_,.cons r .nil=>⟨_,rfl,r⟩
def Vals.two:∀{x y:V}{us:List Value},Vals [x,y] us->∃u v,us=[u,v]/\RelV x u/\RelV y v
 |_,_,_,.cons r (.cons q .nil)=>⟨_,_,rfl,r,q⟩
def Vals.zero:∀{us:List Value},Vals [] us->us=[]
 |_,.nil=>rfl
def Vals.dropLast(h:Vals xs us):Vals xs.dropLast us.dropLast:=by
 induction h with
 |nil=>exact .nil
 |cons r t ih =>
  cases t with
  |nil=>exact .nil
  |cons q t'=>exact .cons r ih
def Vals.eraseIdx:∀{xs:List V}{us:List Value}(i:Nat),Vals xs us->Vals (xs.eraseIdx i) (us.eraseIdx i)
 |_,_,_,.nil=>.nil
 |_,_,0,.cons _ t=>t
 |_,_,i+1,.cons r t=>.cons r (Vals.eraseIdx i t)
theorem Vals.rep(h:Vals xs us):∀k:Nat,Vals (List.replicate k xs).flatten (List.replicate k us).flatten
 |0=>.nil
 |k+1=>by
  rw[List.replicate_succ,List.replicate_succ,List.flatten_cons,List.flatten_cons];exact Vals.append h (Vals.rep h k)
def Pj{α:Type}(l:List α):l.eraseIdx (l.length-1)=l.dropLast:=by
 induction l with
 |nil=>rfl
 |cons a r ih =>
  cases r with
  |nil=>rfl
  |cons b r =>
   have e:(a::b::r).length-1=((b::r).length-1)+1:=by
    have h1:(a::b::r).length=r.length+2:=rfl;have h2:(b::r).length=r.length+1:=rfl;omega
   rw[e,List.eraseIdx_cons_succ,ih]
   all_goals rfl
def Wv{α:Type}:∀(l:List α)(i:Nat),(l.eraseIdx i).length<=l.length
 |[],_=>zaj _
 |_::_,0=>Nat.le_succ _
 |_::r,i+1=>Nat.succ_le_succ (Wv r i)
theorem Ve(its:List Value):∀(k:Nat)(acc:List Value),
  List.foldl (λq j=>q++j) acc.toArray (List.replicate k its.toArray)=(acc++(List.replicate k its).flatten).toArray
 |0,acc=>by simp
 |k+1,acc=>by
  have e:acc.toArray++its.toArray=(acc++its).toArray:=by simp
  have I:(acc++its)++(List.replicate k its).flatten=acc++(List.replicate (k+1) its).flatten:=by
   rw[List.replicate_succ,List.flatten_cons,List.append_assoc]
  rw[<- I,<- Ve its k (acc++its),<- e,List.replicate_succ,List.foldl_cons]
variable{l:Addr}
def Inv.lset{its its':List Value}{n:Nat}{f:Array Value->Array Value}{t':Nat}(I:Inv X pn σ H s)(hH:H l=some (.lst xs))(e:s.heap.get? l=some {cls:=.type "list",data:=.seq its.toArray n})(Z:f its.toArray=its'.toArray)(j:Vals ys its')(hz:ys.length<=sizeLine) :
  Inv X pn σ (upd H l (.lst ys)) {s with heap:=s.heap.update l (Obj.mapSeq f),toks:=t'}:=by
 have q:=PySem.IsL.update e f;rw[Z]at q;refine I.write (x:=l) (e:=l) (by rw[hH];exact trivial) (.inl rfl) (λb' u hb hu=>(Heap.get?_update_other s.heap (Obj.mapSeq f) (Ne.symm hb)).trans hu) ⟨_,q⟩ ?_
 exact⟨hz,its',_,j,q⟩
def Inv.lnew(I:Inv X pn σ H s)(j:Vals ys its)(hz:ys.length<=sizeLine) :
  Inv X pn σ (upd H s.heap.objs.size (.lst ys)) {s with heap:=s.heap.push {cls:=.type "list",data:=.seq its.toArray},toks:=t'} :=
 I.laid (λ_ _ q=>zac _ q) (zaj _) ⟨hz,its,0,j,zad _ rfl⟩
def Inv.fresh(I:Inv X pn σ H s):H s.heap.objs.size=none:=I.hok.fresh (zaj _)
def Inv.lstM(I:Inv X pn σ H s)(j:H l=some (.lst xs)):xs.length<=sizeLine/\∃(its:List Value)(n:Nat),Vals xs its/\xs.length=its.length/\s.heap.get? l=some {cls:=.type "list",data:=.seq its.toArray n}:=by
 obtain⟨z,its,n,r,e⟩:=I.hok l _ j;exact⟨z,its,n,r,r.length,e⟩
def Jl(h:n<=sizeLine):Builtin.List.listTooLong n=false:=by
 unfold Builtin.List.listTooLong;exact decide_eq_false (by omega)
def Na:V->List V->Hp->VK->Prop:=λx vs H Q=>∃l xs y,x=.ref l/\vs=[y]/\H l=some (.lst xs)/\xs.length<sizeLine/\Q .non (upd H l (.lst (xs++[y])))
def sv:MtM X "list.append" Na:=by
 intro pn s σ H x vs v us Q I Z rv h;obtain⟨l,xs,y,rfl,rfl,j,hz,q⟩:=h;cases Z;obtain⟨u,rfl,ru⟩:=rv.one;obtain⟨z,its,n,r,hl,e⟩:=I.lstM j;refine call_meets F.slot_list_append ⟨_,e,rfl⟩ F.entry_list_append (F.args_list_append_2 _ _) (PySem.list_append l its.toArray n u (by rw[zap];omega)) ⟨e,?_⟩
 refine⟨.non,_,I.lset (its':=its++[u]) j e (by simp) (r.append (.cons ru .nil)) ?_,rfl,q⟩
 rw[zLa,List.length_singleton];omega
def rPop:V->List V->Hp->VK->Prop:=λx vs H Q=>∃l xs y,x=.ref l/\vs=[]/\H l=some (.lst xs)/\xs[xs.length-1]?=some y/\Q y (upd H l (.lst xs.dropLast))
def z2h:MtM X "list.pop" rPop:=by
 intro pn s σ H x vs v us Q I rx rv h;obtain⟨l,xs,y,rfl,rfl,hH,hy,q⟩:=h;cases rx;have Z:=rv.zero;subst Z;obtain⟨z,its,n,r,hl,e⟩:=I.lstM hH;obtain⟨u,hu,ru⟩:=r.get hy;have j:its.toArray[its.toArray.size-1]?=some u:=by
  show its.toArray[its.length-1]?=some u;rw[<- Array.getElem?_toList,<- hl];exact hu
 refine call_meets F.slot_list_pop ⟨_,e,rfl⟩ F.entry_list_pop (F.args_list_pop_1 _) (MeetsSeq.list_pop_last l its.toArray n u j (by rw[zap];omega)) ⟨e,?_⟩
 refine⟨y,_,I.lset (its':=its.dropLast) hH e ?_ r.dropLast ?_,ru,q⟩
 ·show its.toArray.eraseIdxIfInBounds (its.toArray.size-1)=its.dropLast.toArray;rw[zap,List.eraseIdxIfInBounds_toArray,Pj]
 rw[List.length_dropLast];omega
def Fl:V->List V->Hp->VK->Prop:=λx vs H Q=>∃l xs i k y,x=.ref l/\vs=[.int i]/\H l=some (.lst xs)/\-(2 ^ 63)<=i/\i<2 ^ 63/\seqIndex? i xs.length=some k/\xs[k]?=some y/\Q y (upd H l (.lst (xs.eraseIdx k)))
def Jn:MtM X "list.pop" Fl:=by
 intro pn s σ H x vs v us Q I rx rv h;obtain⟨l,xs,i,k,y,rfl,rfl,Z,h1,h2,hk,hy,q⟩:=h;cases rx;obtain⟨u,rfl,ru⟩:=rv.one;obtain⟨t,rfl⟩:=ru;obtain⟨z,its,n,r,hl,e⟩:=I.lstM Z;obtain⟨w,hw,j⟩:=r.get hy;refine call_meets F.slot_list_pop ⟨_,e,rfl⟩ F.entry_list_pop (F.args_list_pop_2 _ _)
  (MeetsSeq.list_pop_at l its.toArray n i t k w (fitsIndex_both h1 h2) (by rw[zap,<- hl];exact hk) (by rw[<- Array.getElem?_toList];exact hw) (by rw[zap];omega)) ⟨e,?_⟩
 refine⟨y,_,I.lset (its':=its.eraseIdx k) Z e ?_ (r.eraseIdx k) ?_,j,q⟩
 ·show its.toArray.eraseIdxIfInBounds k=(its.eraseIdx k).toArray;rw[List.eraseIdxIfInBounds_toArray]
 have:=Wv xs k;omega
def rCat:R2:=λx y H Q=>∃l b xs zs,x=.ref l/\y=.ref b/\H l=some (.lst xs)/\H b=some (.lst zs)/\xs.length+zs.length<=sizeLine/\∀p,H p=none->Q (.ref p) (upd H p (.lst (xs++zs)))
def z1z:OpR X (binaryOp .Add) rCat:=by
 intro pn s σ H x y v u Q I rx Z h;obtain⟨l,b,xs,zs,rfl,rfl,hH,hB,hz,q⟩:=h;cases rx;cases Z;obtain⟨z,its,n,r,hl,e⟩:=I.lstM hH;obtain⟨z2,j,n2,r2,a0,e2⟩:=I.lstM hB;refine PySem.P.add_list e e2 ?_ (by rw[zap,zap];omega)
 have ea:its.toArray++j.toArray=(its++j).toArray:=by simp
 rw[ea];exact⟨.ref _,_,I.lnew (t':=s.toks) (r.append r2) (by rw[zLa];omega),rfl,q _ I.fresh⟩
def rRep:R2:=λx y H Q=>∃l k xs,x=.ref l/\y=.int k/\H l=some (.lst xs)/\-(2 ^ 63)<=k/\k<2 ^ 63/\xs.length*k.toNat<=sizeLine /\
 ∀p,H p=none->Q (.ref p) (upd H p (.lst (List.replicate k.toNat xs).flatten))
def B4{α:Type}(xs:List α)(k:Nat):(List.replicate k xs).flatten.length=k*xs.length:=by
 induction k with
 |zero=>simp
 |succ k ih=>rw[List.replicate_succ,List.flatten_cons,zLa,ih,Nat.succ_mul,Nat.add_comm]
def z1t:OpR X (binaryOp .Mult) rRep:=by
 intro pn s σ H x y v u Q I rx ry h;obtain⟨l,k,xs,rfl,rfl,hH,h1,h2,hz,q⟩:=h;cases rx;obtain⟨t,rfl⟩:=ry;obtain⟨z,its,n,r,hl,e⟩:=I.lstM hH;have a0:its.toArray.size*k.toNat<=sizeLine:=by rw[zap,<- hl];exact hz
 have a2:¬ its.toArray.size*k.toNat > (2 ^ 63-1) / 8:=by
  have:(sizeLine:Nat)<=(2 ^ 63-1) / 8:=by decide
  omega
 have a1:¬ (!Builtin.List.listFitsIndex k)=true:=by
  rw[fitsIndex_both h1 h2];exact Bool.false_ne_true
 have j:¬ Builtin.List.listTooLong (its.toArray.size*k.toNat)=true:=by
  rw[Jl a0];exact Bool.false_ne_true
 have Z:List.foldl (λx1 x2=>x1++x2) #[] (List.replicate (if its.toArray.isEmpty=true then 0 else k.toNat) its.toArray)=(List.replicate k.toNat its).flatten.toArray:=by
  have f0:∀m:Nat,List.foldl (λx1 x2=>x1++x2) #[] (List.replicate m its.toArray)=(List.replicate m its).flatten.toArray:=λm=>by
   have:=Ve its m [];rw[List.nil_append]at this;exact this
  rw[f0];cases its with
  |nil=>simp
  |cons a r'=>rw[if_neg (by simp)]
 refine wpAny_binaryOp_repeat_ref (T:="list") (U:="int") (by decide) ⟨_,e,rfl⟩ (λs'=>typeIs_int s' k t) noFill_list_mul F.fills_int_mul F.slot_int_rmul repeat_list F.slot_int_index.lookup
  (call_meets F.slot_int_rmul (typeIs_int s k t) F.entry_int_rmul (F.args_int_rmul_2 _ _) (int___rmul___int_list k t l its.toArray n)
   ⟨e,rfl,⟨_,e,rfl⟩,call_meets F.slot_list_mul ⟨_,e,rfl⟩ F.entry_list_mul (F.args_list_mul_2 _ _) (AutoListH.list___mul___list_int_3 l its.toArray n k t a1 a2 j) ⟨e,?_⟩⟩)
 rw[Z];exact⟨.ref _,_,I.lnew (t':=s.toks) (r.rep k.toNat) (by rw[B4,Nat.mul_comm];exact hz),rfl,q _ I.fresh⟩
section
open PySem PySem.W PySem.Calls PyProof.Rows
def c5{P:Params}:∀(ns:List Int)(vs:List Value),WellAll P h vs (ns.map WData.int)->IntsAre vs ns:=by
 intro ns
 induction ns with
 |nil =>
  intro vs w;rw[List.map_nil]at w;cases w;exact .nil
 |cons n ns ih =>
  intro vs w;rw[List.map_cons]at w;cases w with
  |cons a b =>
   cases a
   exact .cons _ _ (ih _ b)
def N1{l:OpenLaw}{n:Nat}(hn:l.most=some n){P:Params}(j:l.row.toRowW.claim.pre args=true)(a0:WellAll P h vals args) :
  ∃a vs ns,vals=[Value.ref a]/\args=[WData.list (ns.map WData.int)]/\h.get? a=some {cls:=.type "list",data:=.seq vs.toArray}/\IntsAre vs ns/\ns.length<=n:=by
 have a1:WShape.hasAll [] args [.list .int]=true:=(pre_splitW j).1;have hc:l.pre.holds [] {args:=args}=true:=(pre_splitW j).2;obtain⟨d,r,rfl,h1,h2⟩:=hasAllW_cons a1;obtain rfl:=hasAllW_nil h2;obtain⟨xs,rfl,h3⟩:=hasW_list h1;obtain⟨ns,rfl⟩:=items_int h3;have I:ns.length<=n:=by
  unfold OpenLaw.pre at hc;have h4:(WTm.not (.lt (.lit (.int (n:Int))) (.len (.arg 0)))).holds [] {args:=[.list (ns.map .int)]}=true:=by
   have h4:=(holds_andW hc).1;rw[hn]at h4;exact h4
  have Z:=condW_of h4 (w_not (w_lt w_lit (w_len_list (w_arg rfl))));rw[zLm]at Z;refine Nat.le_of_not_lt λq=>?_;have q':(n:Int)<((ns.length:Nat):Int):=by omega
  first
   |(rw[decide_eq_true q']at Z;exact absurd Z (by decide))
   |(simp at Z;omega)
 cases a0 with
 |cons w1 w2 =>
  cases w2
  cases w1 with
  |list ho hall=>exact⟨_,_,ns,rfl,rfl,ho,c5 ns _ hall,I⟩
def Ng(l:OpenLaw)(args:List WData):l.row.toRowW.claim.post args (.bool true) args=true :=
 postW_of (r:=l.row.toRowW) (X:=(true==true))
  (show WShape.has [] (.bool true) .bool=true by first|rfl|decide|simp[WShape.has,WShape.arms,WShape.armsAll])
  (show(WTm.eq .res (.lit (.bool true))).value [] {args:=args,res:=some (.bool true),after:=args}=some (.bool (true==true)) from w_eq_bool (w_res rfl) w_lit) rfl
def attach_call{l:OpenLaw}{n:Nat}{XP:(Str->Option Value)->Heap->Prop}{YP:World->Heap->Prop}{d:DefRec}(hn:l.most=some n)(a6:d.params.defaults=[])(call:∀ (w:World) (s₀ j:Shared) (mg mb:Str->Option Value) (fa:Addr) (o:Obj) (pm cd Z:Value) (a:Addr) (vs:List Value) (ns:List Int),
   Ground q loose [] XP w s₀ mg mb j.heap->YP w j.heap ->
   j.heap.get? fa=some o->o.data=.func (docDef d.name d.params d.body d.scope pm cd Z)->j.heap.CodeRec cd d.name->mg d.name=some (.ref fa) ->
   j.heap.get? a=some {cls:=.type "list",data:=.seq vs.toArray}->IntsAre vs ns->ns.length<=n->j.gens=#[] ->
   codeAny (model l.prog w) callerA (.call (.ref fa) ⟨[.ref a],[]⟩) (λr s'=>r=.ok (.ret (.bool true))/\OldK j.heap s'.heap/\s'.os=j.os/\AllBare s'.gens) j) :
  WalkO q loose XP YP l.row.toRowW d [] (λf vs=>PySem.call f vs):=by
 intro w s₀ j mg mb G Y fa o pm cd Z dV kV ho hd a7 hD a5 hg b0 a8 as a0 a9 b3 a4 b4;obtain rfl:dV=.none:=Dflts.none hD a6;obtain rfl:kV=.none:=Dflts.noKw hD;obtain⟨a,vs,ns,rfl,rfl,a1,I,a2⟩:=N1 hn a0 a4;refine enter_call (codeAny_mono (call w s₀ j mg mb fa o pm cd Z a vs ns G Y ho (fd_plain hd) a7 a5 a1 I a2 hg) λr s' hq=>?_);obtain⟨rfl,h2,h3,h4⟩:=hq;exact⟨.inl ⟨.bool true,.bool true,[],rfl,λ_=>rfl,.bool true,Ng l _,λ_=>⟨List.Pairwise.nil,λ_ hm=>(nomatch hm)⟩⟩,h2,h3,h4⟩
end
def se:∀{vs:List Value}{ns:List Int},IntsAre vs ns->Vals (ns.map V.int) vs
 |_,_,.nil=>.nil
 |_,_,.cons n t h=>.cons ⟨t,rfl⟩ (se h)
def Only(H:Hp):Prop:=∀b,H b=none\/∃o xs,H b=some (.frz o (.lst xs))
def Hc{K:W.Frag}{mg mb:Str->Option Value}{k:Nat}{fa a:Addr}{x:Str}{sp:Sp}{s₁:Shared}{vs:List Value}(KX:K.In s₁.heap)(a6:s₁.heap.Ns mainGlobals mg)(I:s₁.heap.Ns builtinsNs mb)(b4:∀ x:Str,x≠"__name__"->mb x=bootBuiltins x)(a7:s₁.heap.NoLimit)(hg:s₁.gens=#[])(ha:s₁.heap.get? a=some {cls:=.type "list",data:=.seq vs.toArray})(hi:IntsAre vs ns)(hl:ns.length<=sizeLine)(hr:Room k callerA)(F:∀ base:Heap,K.In base->base.Ns mainGlobals mg->FnOk P w K mg base CX k fa fd [x] sp)(a1:∀ (s:Shared) (u:Value),BindsTo s fd ⟨[u],[]⟩ [(x,u)])(b3:∀ H:Hp,Only H->SqL K H a (ns.map V.int)->sp [.ref a] H (λv _=>v=.bl true) λ_ _ _=>False)(b9:∀ H e s',CX [] H s₁ (λ_ _ _=>False) e s'->False) :
  codeAny (model P w) callerA (.call (.ref fa) ⟨[.ref a],[]⟩) (λr s'=>r=.ok (.ret (.bool true))/\OldK s₁.heap s'.heap/\s'.os=s₁.os/\AllBare s'.gens) s₁:=by
 have rv:=se hi;have a2:=hi.length;have a0:∀H:Hp,Only H->SqL K H a (ns.map V.int)->HOk P w H s₁.heap->(∀b,H b≠none->b=a)->(H a≠none->K.lookup a=none) ->
   codeAny (model P w) callerA (.call (.ref fa) ⟨[.ref a],[]⟩) (λr s'=>r=.ok (.ret (.bool true))/\OldK s₁.heap s'.heap/\s'.os=s₁.os/\AllBare s'.gens) s₁:=by
  intro H hO hS a5 hA hK;have j:∀{b:Addr}{o:Obj},s₁.heap.get? b=some o->H b=none->(hidT s₁.heap H).get? b=some o:=λe n=>Hn e n;have b0:∀{b:Addr}{o:Obj}{es:Array DictEntry}{ep:Nat},s₁.heap.get? b=some o->o.data=.dict es ep->H b=none:=λ{b o es ep} e d=>by
   cases q:H b with
   |none=>rfl
   |some u =>
    have e':b=a:=hA b (by rw[q];simp)
    subst e';rw[ha]at e;cases e;have d':Data.seq vs.toArray _=Data.dict es ep:=d;cases d'
  have Z:∀{b:Addr}{m:Str->Option Value},s₁.heap.Ns b m->(hidT s₁.heap H).Ns b m:=λ{b m} ⟨o,es,ep,e,d,r⟩=>⟨o,es,ep,j e (b0 e d),d,r⟩;have a8:K.In (hidT s₁.heap H):=λb o e=>j (KX b o e) (by
   cases q:H b with
   |none=>rfl
   |some u =>
    have e':b=a:=hA b (by rw[q];simp)
    subst e';rw[hK (by rw[q];simp)]at e;cases e)
  have hM:Mod K mg (hidT s₁.heap H):=⟨a8,Z a6,⟨mb,Z I,b4⟩,let ⟨mc,h1,h2⟩:=a7;⟨mc,Z h1,h2⟩⟩
  have e0:Env0 P w K mg (hidT s₁.heap H) callerA [] s₁ H:=⟨rfl,hM,λb o e=>Cw e,Nat.le_of_eq (Mm _ _),trivial,λb I=>absurd (show b∈([]:List Addr) from I) (by simp),a5,.of_eq hg⟩
  refine codeAny_mono ((F _ a8 (Z a6)).run callerA [] s₁ H ⟨[.ref a],[]⟩ [.ref a] [.ref a] _ _ hr e0 (a1 s₁ (.ref a)) (.cons rfl .nil) (b3 H hO hS)) λr s' h=>?_;cases r with
  |error e=>exact(b9 H e s' h).elim
  |ok fl =>
   cases fl with
   |next=>exact False.elim h
   |brk=>exact False.elim h
   |cont=>exact False.elim h
   |ret u =>
    obtain⟨v,H',os,a9,un,a4,r',q⟩:=h;have q':v=.bl true:=q;subst q';obtain rfl:u=Value.bool true:=r';refine⟨rfl,OldK.of_keep λb o e=>?_,os,a9⟩;cases q:H b with
    |none=>exact un.keep b o e q (by intro z;exact absurd (show b∈([]:List Addr) from z) (by simp)) (by simp)
    |some u =>
     rcases hO b with z|⟨ob,xs,z⟩
     ·rw[q]at z;cases z
     have z2:=un.frzs b ob _ z;obtain⟨e1,_⟩:=a5 b _ z;obtain⟨e2,_⟩:=a4 b _ z2;rw[e]at e1;cases e1;exact e2
 cases hk:K.lookup a with
 |some o =>
  have e:=KX a o hk;rw[ha]at e;cases e;refine a0 (λ_=>none) (λ_=>.inl rfl) (.inr ⟨_,vs.toArray,_,hk,rfl,rfl,rfl,by rw[zap,a2];exact hl,by simpa using rv⟩) (λb u z=>by have z':(none:Option HO)=some u:=z;cases z') (λb z=>absurd rfl z) λz=>absurd rfl z
 |none =>
  refine a0 (λb=>if b=a then some (.frz {cls:=.type "list",data:=.seq vs.toArray} (.lst (ns.map V.int))) else none) (λb=>?_) (.inl (.inr ⟨{cls:=.type "list",data:=.seq vs.toArray},if_pos rfl⟩)) (λb u z=>?_) (λb z=>?_) λ_=>hk
  ·by_cases I:b=a
   ·exact .inr ⟨_,_,if_pos I⟩
   exact .inl (if_neg I)
  ·by_cases I:b=a
   ·have z':=(if_pos I).symm.trans z;cases z';subst I;exact⟨ha,by rw[zLm];exact hl,vs,_,rv,ha⟩
   have z':=(if_neg I).symm.trans z;cases z'
  by_cases I:b=a
  ·exact I
  exact absurd (if_neg I) z
abbrev KOf{K:W.Frag}(_:K.In h):W.Frag:=K
def walk_of{l:W.OpenLaw}{n k:Nat}{XP:(Str->Option Value)->Heap->Prop}{YP:World->Heap->Prop}{d:DefRec}{K:Params->W.Frag}{CX:World->CXT}{sp:World->Sp}{x:Str}(hn:l.most=some n)(a2:n<=sizeLine)(a5:d.params.defaults=[])(hr:Room k callerA)(hY:∀ (w:World) (h:Heap),YP w h->(K w.params).In h)(F:∀ (w:World) (mg:Str->Option Value) (fa:Addr) (h:Heap),(K w.params).In h->h.Ns mainGlobals mg->mg d.name=some (.ref fa) ->
   ∃ fd:FuncData,(∀ (s:Shared) (u:Value),BindsTo s fd ⟨[u],[]⟩ [(x,u)]) /\
    ∀ base:Heap,(K w.params).In base->base.Ns mainGlobals mg->FnOk l.prog w (K w.params) mg base (CX w) k fa fd [x] (sp w))(a1:∀ (w:World) (H:Hp) (a:Addr) (ns:List Int),ns.length<=n->Only H->SqL (K w.params) H a (ns.map V.int)->sp w [.ref a] H (λv _=>v=.bl true) λ_ _ _=>False)(a6:∀ (w:World) (H:Hp) (s:Shared) (e:Value) (s':Shared),CX w [] H s (λ_ _ _=>False) e s'->False) :
  W.WalkO q loose XP YP l.row.toRowW d [] (λf vs=>PySem.call f vs):=by
 refine ZZ.attach_call hn a5 λw s₀ Z mg mb fa o pm cd a8 a vs ns G Y ho hd a7 a4 a0 I j hg=>?_;have KX:=hY w _ Y;obtain⟨fd,hb,hF⟩:=F w mg fa _ KX G.T.g a4;exact Hc KX G.T.g G.T.b G.T.builtins G.T.nolimit hg a0 I (zak j a2) hr hF hb (λH hO hS=>a1 w H a ns j hO hS) λH e s'=>a6 w H Z e s'
abbrev CX0:CXT:=λ_ _ _ _ _ _=>False
abbrev E0:XK:=λ_ _ _=>False
def Cg:K1 CX0 X E0:=λ_ _ _ _ _ _ _ h=>h.elim
structure Fun(K:W.Frag)(x qual:Str)(st:Stmt)(f:Addr)(fd:FuncData):Prop where
 ex:∃(oc:Value)(od:Option Addr)(kV doc pm:Value)(an:Option Addr)(qZ ct:Value)(osl:Array (Option Value)),
  fd=W.fnOf x qual (tf st) (xp st) (zh st) .none kV doc pm an qZ ct/\K.lookup f=some ⟨oc,od,.func fd,osl⟩/\W.codeIn K qZ qual=true
 kp:W.keepIn K (.ref f)=true
variable{K:W.Frag}{mg:Str->Option Value}{base:Heap}
def Fun.ok{x qual:Str}{st:Stmt}{f:Addr}{fd:FuncData}{N ps:List Str}{k:Nat}{sp:Sp}(F:Fun K x qual st f fd)(S:zt N ps (zh st))(len:∀ vs H Q E,sp vs H Q E->vs.length=ps.length)(Z:∀ (qZ:Value) (A:Around) (outer:List Env) (s:Shared) (H:Hp) (vs:List V) (Q:VK) (E:XK),Room k (A.deeper (envOfC qual (zh st) s.heap.objs.size f qZ))->sp vs H Q E ->
   ∃ t,PSs (cxOf CX0 P w K mg base N qual (zh st) f qZ A outer s H E).nox (xp st) t/\t {nx:=λ_ H'=>Q .non H',rt:=Q} (start N vs) H):FnOk P w K mg base CX0 (k+1) f fd ps sp:=by
 obtain⟨oc,od,kV,a1,pm,an,qZ,ct,a0,rfl,lk,I⟩:=F.ex;refine z3e lk I S len λA outer s H vs Q E hr j=>?_;obtain⟨t,h,q⟩:=Z qZ A outer s H vs Q E hr j;exact⟨t,h.nox,q⟩
def Fun.binds{x qual:Str}{st:Stmt}{f:Addr}{fd:FuncData}{ps:List Str}(F:Fun K x qual st f fd)(h:∀ (kV j q:Value) (Z:Option Addr) (qZ I:Value) (us:List Value),us.length=ps.length->bindArgs (W.fnOf x qual (tf st) (xp st) (zh st) .none kV j q Z qZ I) ⟨us,[]⟩=pure (ps.zip us)):k8 K fd ps []:=by
 obtain⟨oc,od,kV,j,q,Z,qZ,I,a0,rfl,lk,a1⟩:=F.ex;exact .all (h kV j q Z qZ I)
def E7{x qual:Str}{st:Stmt}{f:Addr}{oc:Value}{od an:Option Addr}{q:Array (Option Value)}{kV j I qZ Z:Value}(l:K.lookup f=some ⟨oc,od,.func (W.fnOf x qual (tf st) (xp st) (zh st) .none kV j I an qZ Z),q⟩)(c:W.codeIn K qZ qual=true)(k:W.keepIn K (.ref f)=true):Fun K x qual st f (W.fnOf x qual (tf st) (xp st) (zh st) .none kV j I an qZ Z):=⟨⟨oc,od,kV,j,I,an,qZ,Z,q,rfl,l,c⟩,k⟩
def pv(i:Nat)(Z:X.N[i]?=some x:=by rfl)(q:Vis X.env.scope x:=by walk_at "o")(I:D_ x:=by decide)(j:(x==("__classdict__" : Str))=false:=by decide):PE X (.Name x pos) (tVar i):=rk Z q I j
def iteF{A B:Prop}(h:B):if false=true then A else B:=by
 rw[if_neg Bool.false_ne_true];exact h
def iteT{A B:Prop}(h:A):if true=true then A else B:=by
 rw[if_pos rfl];exact h
def ite2{c A B:Prop}[Decidable c](h1:c->A)(h2:¬ c->B):if c then A else B:=by
 by_cases h:c
 ·rw[if_pos h];exact h1 h
 rw[if_neg h];exact h2 h
def Same(H H':Hp):Prop:=∀b o,H b=some o->H' b=some o
def Same.refl(H:Hp):Same H H:=λ_ _ h=>h
def Same.trans(a:Same H H1)(b:Same H1 H2):Same H H2:=λc o h=>b c o (a c o h)
def Same.free(e:Same H H')(h:H' l=Option.none):H l=Option.none:=by
 cases q:H l with
 |none=>rfl
 |some o =>
  rw[e l o q]at h;cases h
theorem Mp{α j:Type}{f:α->j->Sem (ForInStep j)}(R:List α->j->Prop)(h:∀ x l c,R (x::l) c->∃ c',f x c=pure (.yield c')/\R l c') :
  ∀(l:List α)(c:j),R l c->∃c',forIn l c f=pure c'/\R [] c'
 |[],c,r=>⟨c,rfl,r⟩
 |x::l,c,r=>by
  obtain⟨c1,e,q⟩:=h x l c r;obtain⟨Z,I,r2⟩:=Mp R h l c1 q;exact⟨Z,by rw[List.forIn_cons,e,pure_bind];exact I,r2⟩
def Se{c:Addr}(h:env.cells.lookup x=some c):cellOf env x=pure c:=by
 unfold cellOf;rw[h]
def Y2(h:∀ y∈scope.names,y.2=.free->∃ c,env.cells.lookup y.1=some c) :
  ∃cl,closureFor scope env=pure cl/\(∀x c,cl.lookup x=some c->env.cells.lookup x=some c)/\∀y∈scope.names,y.2=.free->∃c,cl.lookup y.1=some c:=by
 let f:Str×NameKind->List (Str×Addr)->Sem (ForInStep (List (Str×Addr))):=λx r=>match x with
  |(name,kind)=>if (kind==.free)=true then(do let a <- cellOf env name;pure (.yield ((name,a)::r))) else pure (.yield r)
 have q:=Mp (f:=f) (λZ cs=>(∀x c,cs.lookup x=some c->env.cells.lookup x=some c)/\(∀y∈scope.names,y.2=.free->(∃c,cs.lookup y.1=some c)\/y∈Z)/\∀y∈Z,y∈scope.names) ?_ scope.names []
  ⟨λx c e=>(by cases e),λy j _=>.inr j,λ_ j=>j⟩
 ·obtain⟨cl,e,p1,p2,_⟩:=q;refine⟨cl,?_,p1,λy j I=>(p2 y j I).elim (λz=>z) λz=>(by cases z)⟩
  have e1:closureFor scope env=(forIn scope.names [] f >>= λr=>pure r):=rfl;rw[e1,e,pure_bind]
 rintro⟨n,k⟩ l cs ⟨p1,p2,p3⟩;have hm:=p3 _ (zao ..);by_cases hk:k=.free
 ·subst hk;obtain⟨c,hc⟩:=h _ hm rfl;refine⟨(n,c)::cs,?_,λx c' e=>?_,λy j I=>?_,λy j=>p3 y (zal _ j)⟩
  ·show(if ((NameKind.free==NameKind.free)=true) then _ else _)=_
   rw[if_pos (by decide),Se hc,pure_bind]
  ·rw[List.lookup_cons]at e;cases hx:x==n with
   |true =>
    rw[hx]at e;have ex:x=n:=eq_of_beq hx;subst ex;cases e;exact hc
   |false =>
    rw[hx]at e;exact p1 x c' e
  rcases p2 y j I with⟨c',e⟩|z
  ·refine .inl ?_;rw[List.lookup_cons];cases hx:y.1==n with
   |true=>exact⟨c,rfl⟩
   |false=>exact⟨c',e⟩
  rcases zam.mp z with rfl|z
  ·exact .inl ⟨c,by rw[List.lookup_cons];simp⟩
  exact .inr z
 refine⟨cs,?_,p1,λy j I=>?_,λy j=>p3 y (zal _ j)⟩
 ·show(if ((k==NameKind.free)=true) then _ else _)=_
  rw[if_neg (by simpa using hk)]
 rcases p2 y j I with z|z
 ·exact .inl z
 rcases zam.mp z with rfl|z
 ·exact absurd I hk
 exact .inr z
theorem ud{env:Env}:∀{names:List (Str×NameKind)}{x:Str},names.lookup x=some .free ->
  (names.map λ(n,k)=>if (k==NameKind.free&&env.scope.kind==.function&&env.kindOf n==some .cell) then(n,NameKind.cell) else(n,k)).lookup x=some .cell \/
  (names.map λ(n,k)=>if (k==NameKind.free&&env.scope.kind==.function&&env.kindOf n==some .cell) then(n,NameKind.cell) else(n,k)).lookup x=some .free
 |[],_,h=>by cases h
 |(n,k)::r,x,h=>by
  have j:=@ud env r x;rw[List.map_cons];cases hx:x==n with
  |true =>
   rw[List.lookup_cons,hx]at h;cases h;by_cases hc:(NameKind.free==NameKind.free&&env.scope.kind==.function&&env.kindOf n==some .cell)=true
   ·refine .inl ?_;show List.lookup x ((if (NameKind.free==NameKind.free&&env.scope.kind==.function&&env.kindOf n==some .cell)=true then(n,NameKind.cell) else(n,NameKind.free))::_)=_
    rw[if_pos hc,List.lookup_cons,hx]
   refine .inr ?_;show List.lookup x ((if (NameKind.free==NameKind.free&&env.scope.kind==.function&&env.kindOf n==some .cell)=true then(n,NameKind.cell) else(n,NameKind.free))::_)=_
   rw[if_neg hc,List.lookup_cons,hx]
  |false =>
   rw[List.lookup_cons,hx]at h;have e:∀(b:Bool)(l:List (Str×NameKind)),List.lookup x ((if b=true then(n,NameKind.cell) else(n,k))::l)=l.lookup x:=λb l=>by
    cases b with
    |true=>rw[if_pos rfl,List.lookup_cons,hx]
    |false=>rw[if_neg Bool.false_ne_true,List.lookup_cons,hx]
   rcases j h with q|q
   ·exact .inl ((e _ _).trans q)
   exact .inr ((e _ _).trans q)
def jk(q:∀ y∈scope.names,y.2≠.cell)(h:(relabel scope env).names.lookup x=some k)(hk:k=.cell\/k=.free) :
  ∃y∈scope.names,y.1=x/\y.2=.free:=by
 have Z:=PySem.mem_of_lookup h;obtain⟨⟨n,k0⟩,I,e⟩:=zah.mp Z;refine⟨(n,k0),I,?_⟩;have j:(if (k0==NameKind.free&&env.scope.kind==.function&&env.kindOf n==some .cell)=true then(n,NameKind.cell) else(n,k0))=(x,k):=e
 by_cases hc:(k0==NameKind.free&&env.scope.kind==.function&&env.kindOf n==some .cell)=true
 ·rw[if_pos hc]at j;cases j;refine⟨rfl,?_⟩;rw[Bool.and_eq_true,Bool.and_eq_true]at hc;exact eq_of_beq hc.1.1
 rw[if_neg hc]at j;cases j;rcases hk with rfl|rfl
 ·exact absurd rfl (q _ I)
 exact⟨rfl,rfl⟩
abbrev x8(X:Cx)(N':List Str)(scope:Scope)(cl:List (Str×Addr))(C:Addr)(fp:List Addr)(s₀:Shared)(H_:Hp):Cx :=
 {X with N:=N',s₀:=s₀,H_:=H_,env:=compEnvC scope cl C X.env,outer:=X.stack,ex:=fp,fn:=λ_=>false,pn:=[],xe:=λ_ _=>False}
structure xf(psc scope:Scope)(T F:List Str):Prop where
 kind:scope.kind=.function
 nocell:∀y∈scope.names,y.2≠.cell
 loc:∀y∈scope.names,y.2=.local->scope.names.lookup y.1=some .local
 fr:∀y∈scope.names,y.2=.free->psc.names.lookup y.1=some .cell\/psc.names.lookup y.1=some .free
 nd:(T++F).Nodup
 ffree:∀x∈F,scope.names.lookup x=some .free
section
variable{scope:Scope}{T F:List Str}{cl:List (Str×Addr)}{fp:List Addr}{js:List Nat}
def b6(I:Inv X pn σ H s)(S:xf X.env.scope scope T F):∀y∈scope.names,y.2=.free->∃c,X.env.cells.lookup y.1=some c:=λy j q=>I.ok.has y.1 (S.fr y j q)
def Cu(I:Inv X pn σ H s)(S:xf X.env.scope scope T F)(p1:∀ x c,cl.lookup x=some c->X.env.cells.lookup x=some c)(p2:∀ y∈scope.names,y.2=.free->∃ c,cl.lookup y.1=some c)(hC:s.heap.objs.size<=C)(hf:∀ b∈fp,FpOk X pn H b)(a0:∀ b∈fp,b<s.heap.objs.size) :
  (x8 X (T++F) scope cl C fp s H).Ok where
 mod:=I.ok.mod
 kind:=S.kind
 glob:=I.ok.glob
 blt:=I.ok.blt
 above:=hC
 inj:=λx y c j hy=>I.ok.inj x y c (p1 x c j) (p1 y c hy)
 has:=λx j=>by
  have q:∃y∈scope.names,y.1=x/\y.2=.free:=by
   rcases j with j|j
   ·exact jk (env:=X.env) S.nocell (show(relabel scope X.env).names.lookup x=some .cell from j) (.inl rfl)
   exact jk (env:=X.env) S.nocell (show(relabel scope X.env).names.lookup x=some .free from j) (.inr rfl)
  obtain⟨y,hy,rfl,hf⟩:=q;exact p2 y hy hf
 cab:=λx c h=>by cases h
 hd:=I.ok.hd
 frames:=I.ok.frames
 stk:=.inl rfl
 exf:=λb Z=>⟨Nat.ne_of_lt (Nat.lt_of_lt_of_le (a0 b Z) hC),λx c e=>(hf b Z).2.2.2.2.1 x c (p1 x c e)⟩
 bs:=I.bs
 bsz:=zak I.ok.bsz I.sz
 noex:=λb o e Z=>by
  rcases(hf b Z).2.2.2.1 with z|z
  ·exact I.ok.noex b o e z
  exact absurd (Nat.lt_of_lt_of_le (zae (I.ok.bs b o e).1) z) (Nat.lt_irrefl _)
 exfs:=λb Z z=>by
  rcases zam.mp (I.stkSub b z) with q|q
  ·exact(hf b Z).2.1 q
  exact(hf b Z).2.2.1 q
 funs:=I.stack
 frf:=I.stkFree
def st0(T:List Str)(js:List Nat)(σ:St):St:=List.replicate T.length none++js.map λj=>(σ[j]?).join
theorem j4{α j:Type}{R:α->j->Prop}:∀{l:List α}{r:List j}{i:Nat}{b:j},Paired R l r->r[i]?=some b->∃a,l[i]?=some a/\R a b
 |_,_,_,_,.nil,e=>by simp at e
 |_,_,0,_,.cons h _,e=>by simp at e;subst e;exact⟨_,rfl,h⟩
 |_,_,i+1,b,.cons _ t,e=>by
  obtain⟨a,I,q⟩:=j4 (i:=i) (b:=b) t (by simpa using e)
  exact⟨a,by simpa using I,q⟩
def Hj(I:Inv X pn σ H s)(S:xf X.env.scope scope T F)(p1:∀ x c,cl.lookup x=some c->X.env.cells.lookup x=some c)(p2:∀ y∈scope.names,y.2=.free->∃ c,cl.lookup y.1=some c)(a6:Paired (λx j=>X.N[j]?=some x) F js)(hC:s.heap.objs.size<=C)(hf:∀ b∈fp,FpOk X pn H b)(b0:∀ b∈fp,b<s.heap.objs.size)(hn:h₁.Ns C m)(hk:∀ b o,s.heap.get? b=some o->h₁.get? b=some o):Inv (x8 X (T++F) scope cl C fp s H) [] (st0 T js σ) H {s with heap:=h₁,toks:=t'}:=by
 refine⟨Cu I S p1 p2 hC hf b0,rfl,I.bare,Un.kept hk,⟨m,hn,λi x v h1 h2 h3=>?_⟩,λx c e=>?_,I.hok.fresh hC,λx c e=>I.freeC x c (p1 x c e),λp hp=>(by cases hp),I.hok.kept hk,?_⟩
 ·have hi:T.length<=i:=by
   rcases Nat.lt_or_ge i T.length with z|z
   ·exfalso;unfold st0 at h2;rw[List.getElem?_append_left (by simpa using z),List.getElem?_replicate]at h2
    split at h2 <;> cases h2
   exact z
  unfold st0 at h2;rw[List.getElem?_append_right (by simpa using hi),zai,List.length_replicate]at h2
  cases ej:js[i-T.length]? with
  |none=>rw[ej]at h2;cases h2
  |some j =>
   rw[ej]at h2;have a0:(σ[j]?).join=some v:=Option.some.inj h2;obtain⟨x',a5,hX⟩:=j4 a6 ej;have a8:(T++F)[i]?=some x:=h1;rw[List.getElem?_append_right hi,a5]at a8;cases a8;have a4:σ[j]?=some (some v):=by
    cases e:σ[j]? with
    |none=>rw[e]at a0;cases a0
    |some o=>rw[e]at a0;cases a0;rfl
   have a9:x∈F:=zan a5;have Z:=S.ffree x a9;have a1:=S.fr _ (PySem.mem_of_lookup Z) rfl;obtain⟨m0,_,look⟩:=I.loc;obtain⟨u,ru,lk⟩:=look j x v hX a4 (.inr a1);refine⟨u,ru,?_⟩;rcases lk with⟨k,_⟩|⟨_,c,hc,a2⟩
   ·exfalso;have k':X.env.scope.names.lookup x=some .local:=k;rcases a1 with z|z
    ·rw[k']at z;cases z
    rw[k']at z;cases z
   obtain⟨c',a7⟩:=p2 _ (PySem.mem_of_lookup Z) rfl;have e2:=p1 x c' a7;rw[hc]at e2;cases e2;refine .inr ⟨?_,c,a7,a2.keeps hk⟩;exact ud (env:=X.env) Z
 ·obtain⟨v,q⟩:=I.cell x c (p1 x c e);exact⟨v,q.keeps hk⟩
 show(st0 T js σ).length=(T++F).length;unfold st0;rw[zLa,zLa,List.length_replicate,zLm,(Paired.length a6)]
def Hk(I:Inv X pn σ H s)(J:Inv (x8 X N' scope cl C fp s H) [] σ' H' s')(j:∀ b∈fp,FpOk X pn H b):Inv X pn σ H' s' :=
 I.call' (ch:=fp) (show s'.os=s.os from J.os) J.base J.hok J.bare λb q=>⟨(j b q).2.2.2.1,(j b q).2.1,(j b q).2.2.2.2.1,(j b q).2.2.2.2.2⟩
end
section
variable{prog:Program}{R:Result->Shared->Prop}
def Pq(I:Nat->Shared->Prop)(a6:∀ n s,I n s->wpAny (model prog w) A (pyNext it) (λr q=>match r with
   |none=>R (.ok .next) q
   | some v=>wpAny (model prog w) A (letOwnedTupleGo target it v) (λ_ a2=>wpAny (model prog w) A (assign target env v) (λ_ a1 =>
     wpAny (model prog w) A (forIn ifs true λc r=>if r=true then do let ok <- isTrue c env (eval c env);pure (ForInStep.yield ok) else pure (ForInStep.yield r)) (λok j =>
      if ok=true then wpAny (model prog w) A (eval elt env) (λx a0=>wpAny (model prog w) A (call (.builtin "list.append") [acc,x]) (λ_ Z=>∃ m,m<n/\I m Z) (λ_ _=>False) a0) (λ_ _=>False) j
      else ∃ m,m<n/\I m j) (λ_ _=>False) a1) (λ_ _=>False) a2) (λ_ _=>False) q) (λ_ _=>False) s)(n:Nat)(h:I n s):codeAny (model prog w) A (.compLoop (.ListComp elt [⟨target,iter,ifs,0⟩] scope pos) 0 it acc env) R s:=by
 refine codeAny_loop rfl I (λn s hI=>?_) n h;show wpAny _ A ((compTurn (.ListComp elt [⟨target,iter,ifs,0⟩] scope pos) 0 it acc env).onRaise (λx=>do noteFrame x env;theTreesLotGoes x)) _ _ s
 refine wpAny_noted (wpAny_noRaise ?_);rw[compTurn_list];refine zaa (wpAny_standAt (zaa (thn (a6 n s hI) λr q a5=>?_)));cases r with
 |none=>exact zab a5
 |some v =>
  refine zaa (thn a5 λ_ a2 b0=>zaa (thn b0 λ_ a1 a9=>zaa (thn a9 λok j a4=>?_)));cases ok with
  |false=>exact zab ⟨rfl,a4⟩
  |true=>exact zaa (zaa (thn a4 λx a0 a8=>zaa (thn a8 λ_ Z a7=>zab (zab ⟨rfl,a7⟩))))
end
def PIf(X:Cx)(ifs:List Expr)(t:TT):Prop :=
 ∀(pn:List (Addr×Obj))(s:Shared)(σ:St)(H:Hp)(Q:Bool->Hp->Prop),Inv X pn σ H s->t σ H Q ->
  wpAny (model X.prog X.w) X.A (forIn ifs true λc r=>if r=true then do let ok <- isTrue c X.env (eval c X.env);pure (ForInStep.yield ok) else pure (ForInStep.yield r)) (TP X pn σ Q) X.xe s
def tYes:TT:=λ_ H Q=>Q true H
def C4:PIf X [] tYes:=λ_ _ _ H _ I h=>wpAny_tests_nil ⟨H,I,h⟩
def C3{c:Expr}{tc:TT}(h:PT X c tc):PIf X [c] tc:=λpn s σ H Q I q=>wpAny_tests_one (h pn s σ H Q I q)
def ww(n:Nat)(σ j:St):Prop:=j.length=σ.length/\∀i,n<=i->j[i]?=σ[i]?
def ww.refl(n:Nat)(σ:St):ww n σ σ:=⟨rfl,λ_ _=>rfl⟩
def ww.trans{n:Nat}{a b c:St}(x:ww n a b)(y:ww n b c):ww n a c:=⟨y.1.trans x.1,λi h=>(y.2 i h).trans (x.2 i h)⟩
def ww.set{n i:Nat}{σ:St}{v:V}(h:i<n):ww n σ (σ.set i (some v)):=⟨by simp,λj q=>by rw[List.getElem?_set_ne (by omega)]⟩
def Z8(n:Nat)(g:TG):Prop:=∀v σ H Q,g v σ H Q->g v σ H λj H'=>Q j H'/\ww n σ j
def Qk(n:Nat)(g:TGs):Prop:=∀vs σ H Q,g vs σ H Q->g vs σ H λj H'=>Q j H'/\ww n σ j
def zx(h:i<n:=by decide):Z8 n (j8 i):=λv σ H Q q=>⟨q,ww.set h⟩
def u5:Qk n gNil:=λvs σ H Q q=>⟨q.1,q.2,ww.refl n σ⟩
def ym(mono:∀ v σ H Q Q',(∀ j H',Q j H'->Q' j H')->t v σ H Q->t v σ H Q')(I:∀ v σ H Q Q',(∀ j H',Q j H'->Q' j H')->u v σ H Q->u v σ H Q')(h1:Z8 n t)(h2:Qk n u):Qk n (bz t u):=λvs σ H Q q=>by
 obtain⟨v,r,e,q⟩:=q;refine⟨v,r,e,mono _ _ _ _ _ (λj H' z=>?_) (h1 v σ H _ q)⟩;exact I _ _ _ _ _ (λZ H2 y=>⟨y.1,z.2.trans y.2⟩) (h2 r j H' Q z.1)
def u3{K:W.Frag}{n k:Nat}{t:TGs}(h:Qk n t):Z8 n (gTup K k t):=λv σ H Q q=>by
 obtain⟨a,xs,e,j,hl,q⟩:=q;exact⟨a,xs,e,j,hl,h xs σ H Q q⟩
def yc:∀v σ H (Q Q':St->Hp->Prop),(∀σ' H',Q σ' H'->Q' σ' H')->j8 i v σ H Q->j8 i v σ H Q':=λ_ _ _ _ _ f q=>f _ _ q
def yw:∀v σ H (Q Q':St->Hp->Prop),(∀σ' H',Q σ' H'->Q' σ' H')->gNil v σ H Q->gNil v σ H Q':=λ_ _ _ _ _ f q=>⟨q.1,f _ _ q.2⟩
def xg(mono:∀ v σ H Q Q',(∀ j H',Q j H'->Q' j H')->t v σ H Q->t v σ H Q')(I:∀ v σ H Q Q',(∀ j H',Q j H'->Q' j H')->u v σ H Q->u v σ H Q') :
  ∀v σ H (Q Q':St->Hp->Prop),(∀j H',Q j H'->Q' j H')->bz t u v σ H Q->bz t u v σ H Q':=λvs σ H Q Q' f q=>by
 obtain⟨v,r,e,q⟩:=q;exact⟨v,r,e,mono _ _ _ _ _ (λj H' z=>I _ _ _ _ _ f z) q⟩
def Ay(J:It)(g:TG)(tc:TT)(te:TE)(q:St)(D:Addr)(Z:Hp->Prop)(H:Hp):Prop :=
 ∃W:Nat->Nat->List V->Hp->Prop,(∃m,W 0 m [] H)/\∀i m ys H,W i m ys H->H D=some (.lst ys)/\((J.stop i H/\Z H)\/(J.go i H/\∃N:List V->Hp->Prop,(∀zs H',N zs H'->∃m',m'<m/\W (i+1) m' zs H')/\∀x H',J.yld i H x H' ->
  g x q H' λj H2=>tc j H2 λb H3=>if b=true then te j H3 λy I=>I D=some (.lst ys)/\ys.length<sizeLine/\N (ys++[y]) (upd I D (.lst (ys++[y]))) else N ys H3))
def Om(j:TI)(T:List Str)(js:List Nat)(g:TG)(tc:TT)(te:TE):TE:=λσ H Q=>j σ H λJ H1=>∀D,H1 D=none->Ay J g tc te (st0 T js σ) D (Q (.ref D)) (upd H1 D (.lst []))
section
variable{H2:Hp}{s2:Shared}{scope:Scope}{T F:List Str}{cl:List (Str×Addr)}{fp:List Addr}{js:List Nat}{iter elt:Expr}{ifs:List Expr}{g:TG}{tc:TT}{te:TE}{J:It}{it:Addr}{tn:Nat->Heap->Prop}{RR:Value->Addr->Result->Shared->Prop}
def Y1(hc:X.calm=true)(S:xf X.env.scope scope T F)(e6:Paired (λx j=>X.N[j]?=some x) F js)(hg:∀ cl C fp s H,PG (x8 X (T++F) scope cl C fp s H) tg g)(hk:Z8 T.length g)(ht:∀ cl C fp s H,PIf (x8 X (T++F) scope cl C fp s H) ifs tc)(he:∀ cl C fp s H,PE (x8 X (T++F) scope cl C fp s H) elt te)(p1:∀ x c,cl.lookup x=some c->X.env.cells.lookup x=some c)(p2:∀ y∈scope.names,y.2=.free->∃ c,cl.lookup y.1=some c)(I2:Inv X pn σ H2 s2)(Tn:Turn X.prog X.w X.K tg J fp it tn)(d3:tn 0 s2.heap)(f2:∀ b∈fp,FpOk X pn H2 b)(Z:Addr->Hp->Prop)(e0:∀ D,H2 D=none->Ay J g tc te (st0 T js σ) D (Z D) (upd H2 D (.lst [])))(e7:∀ D C H' s' m',s'.heap.Ns C m'->FpOk X pn H' C->Inv X pn σ H' s'->Z D H'->RR (.ref D) C (.ok .next) s') :
  wpAny (model X.prog X.w) X.A (newList []) (λe2 c0=>wpAny (model X.prog X.w) X.A (newFunctionEnv scope X.env.globals cl [] X.env.qual none .none (some X.env)) (λa8 b9 =>
   codeAny (model X.prog X.w) X.A (.compStart (.ListComp elt [⟨tg,iter,ifs,0⟩] scope pos) 0 (.ref it) e2 {a8 with scope:=relabel scope X.env}) (RR e2 a8.locals) b9) E c0) E s2:=by
 refine wpAny_newObj_type (wpAny_newFunctionEnv S.nocell (by intro y hy;cases hy) (λh₁ b3 b0=>?_) S.kind)
 dsimp only at b3 b0 ⊢
 have I3:Inv X pn σ (upd H2 s2.heap.objs.size (.lst [])) {s2 with heap:=s2.heap.push {cls:=.type "list",data:=.seq ([]:List Value).toArray}}:=I2.lnew (its:=[]) (t':=s2.toks) .nil (Nat.zero_le _);have a7:∀b∈fp,b<s2.heap.objs.size:=λb I=>by
  obtain⟨o,e,_⟩:=Tn.obj _ _ d3 b I;exact zae e
 have f3:∀b∈fp,FpOk X pn (upd H2 s2.heap.objs.size (.lst [])) b:=λb I=>⟨by rw[zv (Nat.ne_of_lt (a7 b I))];exact(f2 b I).1,(f2 b I).2⟩
 obtain⟨W,⟨m0,w0⟩,b4⟩:=e0 s2.heap.objs.size I2.fresh;generalize hs3:({s2 with heap:=s2.heap.push {cls:=.type "list",data:=.seq ([]:List Value).toArray}}:Shared)=q at I3;have e3:s2.heap.push {cls:=.type "list",dict:=none,data:=.seq ([]:List Value).toArray}=q.heap:=by rw[<- hs3]
 rw[e3]at b3 b0 ⊢;have c1:q.heap.objs.size=s2.heap.objs.size+1:=by rw[<- e3,Heap.size_push]
 have a6:∀b o,q.heap.get? b=some o->h₁.get? b=some o:=λb o e=>b0.extBut b o (Nat.ne_of_lt (zae e)) (zac _ e);have a1:∀b∈fp,b<q.heap.objs.size:=λb I=>by rw[c1];exact Nat.lt_succ_of_lt (a7 b I)
 have J0:Inv (x8 X (T++F) scope cl q.heap.objs.size fp q (upd H2 s2.heap.objs.size (.lst []))) [] (st0 T js σ) (upd H2 s2.heap.objs.size (.lst [])) {q with heap:=h₁,toks:=s2.toks+([]:List (Str×Value)).length} :=
  Hj I3 S p1 p2 e6 (zaj _) f3 a1 b3 a6
 have c3:tn 0 h₁:=Tn.keep _ _ _ d3 λb _ o e=>a6 b o (by rw[<- e3];exact zac _ e)
 have es:({s2 with heap:=h₁,toks:=s2.toks+([]:List (Str×Value)).length}:Shared)={q with heap:=h₁,toks:=s2.toks+([]:List (Str×Value)).length}:=by rw[<- hs3]
 have a5:codeAny (model X.prog X.w) X.A (.compLoop (.ListComp elt [⟨tg,iter,ifs,0⟩] scope pos) 0 (.ref it) (.ref s2.heap.objs.size) (compEnvC scope cl q.heap.objs.size X.env)) (RR (.ref s2.heap.objs.size) q.heap.objs.size)
   {q with heap:=h₁,toks:=s2.toks+([]:List (Str×Value)).length}:=by
  have a0:∀{H':Hp},(∀b∈fp,H' b=none)->∀b∈fp,FpOk (x8 X (T++F) scope cl q.heap.objs.size fp q (upd H2 s2.heap.objs.size (.lst []))) [] H' b:=λhn b I =>
   ⟨hn b I,Nat.ne_of_lt (a1 b I),J0.ok.exfs b I,.inl I,(J0.ok.exf b I).2,λp hp=>(by cases hp)⟩
  refine Pq (λn s'=>∃i ys H',Inv (x8 X (T++F) scope cl q.heap.objs.size fp q (upd H2 s2.heap.objs.size (.lst []))) [] (st0 T js σ) H' s'/\tn i s'.heap/\(∀b∈fp,H' b=none)/\W i n ys H') ?_ m0
   ⟨0,[],_,J0,c3,λb I=>(f3 b I).1,w0⟩
  rintro n s4 ⟨i,ys,H4,I4,d0,e1,w4⟩;obtain⟨hD,f1⟩:=b4 i n ys H4 w4;rcases f1 with⟨c2,z⟩|⟨go,N,hN,step⟩
  ·refine thn (Tn.done (x8 X (T++F) scope cl q.heap.objs.size fp q (upd H2 s2.heap.objs.size (.lst []))) rfl rfl rfl hc i [] s4 _ H4 (λ_ _=>False) I4 (a0 e1) d0 c2) λr s5 ⟨hr,I5⟩=>?_;subst hr;obtain⟨m5,n5,_⟩:=I5.loc;have fC:FpOk X pn H4 q.heap.objs.size:=I2.fpOk (by rw[c1];exact Nat.le_succ _) I5.free
   exact e7 _ _ H4 s5 m5 n5 fC ((Hk I3 I5 f3)) z
  refine thn (Tn.item (x8 X (T++F) scope cl q.heap.objs.size fp q (upd H2 s2.heap.objs.size (.lst []))) rfl rfl rfl hc i [] s4 _ H4 (λ_ _=>False) I4 (a0 e1) d0 go) λr s5 ⟨u,hr,h5⟩=>?_;subst hr;refine thn h5 λ_ s6 ⟨x,H6,I6,r6,y6,a9,e9⟩=>?_;have f5:=I6.pinned (a0 e9) (Tn.obj _ _ a9);refine thn (hg _ _ _ _ _ _ s6 _ H6 x u _ f5 r6 (hk x _ H6 _ (step x H6 y6))) λ_ s7 ⟨a4,H7,I7,q7,kp⟩=>?_;refine thn (ht _ _ _ _ _ _ s7 a4 H7 _ I7 q7) λok s8 ⟨H8,I8,q8⟩=>?_;have a2:∀{s9:Shared}{H9:Hp},Inv (x8 X (T++F) scope cl q.heap.objs.size fp q (upd H2 s2.heap.objs.size (.lst []))) ([]++Wh fp s6.heap) a4 H9 s9->∀{zs:List V},(∃m',m'<n/\W (i+1) m' zs H9) ->
    ∃m,m<n/\∃i ys H',Inv (x8 X (T++F) scope cl q.heap.objs.size fp q (upd H2 s2.heap.objs.size (.lst []))) [] (st0 T js σ) H' s9/\tn i s9.heap/\(∀b∈fp,H' b=none)/\W i m ys H':=λ{s9 H9} I9 {zs} q9=>by
   obtain⟨m',hm,w9⟩:=q9;have f4:=I9.unpinned;refine⟨m',hm,i+1,zs,H9,f4.weak kp.1.symm (λa v ea=>?_),Tn.keep _ _ _ a9 λb I o e=>(I9.pin (b,o) (List.mem_append_right _ (List.mem_append_right _ (ra I e)))).1,λb I=>?_,w9⟩
   ·have ha:T.length<=a:=by
     rcases Nat.lt_or_ge a T.length with z|z
     ·exfalso;unfold st0 at ea;rw[List.getElem?_append_left (by simpa using z),List.getElem?_replicate]at ea
      split at ea <;> cases ea
     exact z
    rw[kp.2 a ha];exact ea
   obtain⟨o,e,d⟩:=Tn.obj _ _ a9 b I;exact(I9.pin (b,o) (List.mem_append_right _ (List.mem_append_right _ (ra I e)))).2.1
  cases ok with
  |false =>
   rw[if_neg Bool.false_ne_true]at q8 ⊢;exact a2 I8 (hN _ _ q8)
  |true =>
   rw[if_pos rfl]at q8 ⊢;refine thn (he _ _ _ _ _ _ s8 a4 H8 _ I8 q8) λy s9 ⟨v9,H9,I9,r9,e8,e5,q9⟩=>?_;refine thn (sv _ s9 a4 H9 (.ref s2.heap.objs.size) [v9] (.ref s2.heap.objs.size) [y] (λ_ e4=>e4=upd H9 s2.heap.objs.size (.lst (ys++[v9]))) I9 rfl (.cons r9 .nil) ⟨_,_,_,rfl,rfl,e8,e5,rfl⟩) λ_ f8 ⟨_,e4,f6,_,f0⟩=>?_;subst f0;exact a2 f6 (hN _ _ q9)
 show codeAny _ _ _ _ ({s2 with heap:=h₁,toks:=s2.toks+([]:List (Str×Value)).length}:Shared);rw[es];exact codeAny_compStart_list a5 (Tn.self _ 0 _ _ _ c3 a5)
def Ux(hc:X.calm=true)(hi:PI X tg iter wi)(S:xf X.env.scope scope T F)(a0:Paired (λx j=>X.N[j]?=some x) F js)(hg:∀ cl C fp s H,PG (x8 X (T++F) scope cl C fp s H) tg g)(hk:Z8 T.length g)(ht:∀ cl C fp s H,PIf (x8 X (T++F) scope cl C fp s H) ifs tc)(he:∀ cl C fp s H,PE (x8 X (T++F) scope cl C fp s H) elt te)(hs:∀ x,foldedSetIterable iter X.env x=pure x:=by intro _;rfl):PE X (.ListComp elt [⟨tg,iter,ifs,0⟩] scope pos) (Om wi T js g tc te):=by
 intro pn s σ H Q I h;obtain⟨cl,a1,p1,p2⟩:=Y2 (b6 I S);rw[eval_ListComp];refine wpAny_comprehension_free (use:=none) rfl hs a1 S.kind S.loc (thn (hi pn s σ H _ I h) λv s1 h1=>thn h1 λa4 s2 h2=>?_);obtain⟨it,fp,tn,J,H2,e,I2,Tn,Z,f2,q⟩:=h2;subst e;refine Y1 (RR:=λa2 C=>compPost (model X.prog X.w) X.A X.xe none (EP X pn σ Q) a2 C) hc S a0 hg hk ht he p1 p2 I2 Tn Z f2 (λD H'=>Q (.ref D) H') q ?_;intro D C H' s' m' hn fC I' z;obtain⟨f0,f1,f2,f3,f4,f5⟩:=fC;exact⟨m',hn,λh' sb=>⟨.ref D,H',I'.turned (t':=s'.toks) (λb o hb e=>(sb.2 b hb).trans e) f0 f1 f3 f4 f5,rfl,z⟩⟩
def Qp(hc:X.calm=true)(hN:X.N.Nodup)(hy:X.N[i]?=some y)(hl:X.env.scope.names.lookup y=some .local\/X.env.scope.names.lookup y=some .cell)(hi:PI X tg iter wi)(S:xf X.env.scope scope T F)(a5:Paired (λx j=>X.N[j]?=some x) F js)(hg:∀ cl C fp s H,PG (x8 X (T++F) scope cl C fp s H) tg g)(hk:Z8 T.length g)(ht:∀ cl C fp s H,PIf (x8 X (T++F) scope cl C fp s H) ifs tc)(he:∀ cl C fp s H,PE (x8 X (T++F) scope cl C fp s H) elt te)(a4:swapsWith (.ListComp elt [⟨tg,iter,ifs,0⟩] scope pos) (some (.Name y py)) spos.line X.env=pure true:=by rfl)(hs:∀ x,foldedSetIterable iter X.env x=pure x:=by intro _;rfl)(a6:X.fn y=true\/X.env.scope.names.lookup y=some .local:=by first|exact .inl rfl|exact .inr rfl|assumption) :
  PS X (.Assign [.Name y py] (.ListComp elt [⟨tg,iter,ifs,0⟩] scope pos) spos) (λD σ H=>Om wi T js g tc te σ H λv H1=>D.nx (σ.set i (some v)) H1):=by
 intro pn s σ H D I h;obtain⟨cl,a7,p1,p2⟩:=Y2 (b6 I S);rw[exec_Assign_Name_used _ _ _ _ a4];refine zaa (wpAny_standAt (zaa ?_));show wpAny _ X.A (do let _ <- comprehension (.ListComp elt [⟨tg,iter,ifs,0⟩] scope pos) scope X.env _ (newList []) false (eval iter X.env) (some (assign (.Name y py) X.env))) _ _ s
 refine zaa (thn (wpAny_comprehension_free (use:=some (assign (.Name y py) X.env)) (Q:=λ_ s'=>SP X pn D .next s') rfl hs a7 S.kind S.loc (thn (hi pn s σ H _ I h) λv s1 h1=>thn h1 λb3 s2 h2=>?_)) λ_ s' hq=>zab (zab hq));obtain⟨it,fp,tn,J,H2,e,I2,Tn,a0,f2,q⟩:=h2;subst e;refine Y1 (RR:=λa9 C=>compPost (model X.prog X.w) X.A X.xe (some (assign (.Name y py) X.env)) (λ_ s'=>SP X pn D .next s') a9 C) hc S a5 hg hk ht he p1 p2 I2 Tn a0 f2 (λZ H'=>D.nx (σ.set i (some (.ref Z))) H') q ?_;intro Z C H' s' m' hn fC I' z;obtain⟨f0,f1,f2,f3,f4,f5⟩:=fC;show wpAny _ X.A (assign (.Name y py) X.env (.ref Z)) _ _ s';refine wpAny_assign_Name (Wb (v:=.ref Z) I' hN hy hl rfl (λa2 b0 ch=>?_) a6);obtain⟨a,sb,ha⟩:=ch;have a8:C≠a:=by
  rcases ha with rfl|ha
  ·exact f1
  exact λz=>f4 y a ha z.symm
 exact⟨m',hn.sameBut sb a8,λh' a1=>⟨_,H',b0.turned (t':=a2.toks) (λb o hb e=>(a1.2 b hb).trans e) f0 f1 f3 f4 f5,z⟩⟩
end
def Itv(n:Nat)(val:Nat->V->Prop):It:=⟨λi _=>i<n,λi H x H'=>H'=H/\val i x,λi _=>i=n⟩
def Ak(x:Str)(i:Nat)(v:V):Prop:=∃c,x.cps[i]?=some c/\v=.str ⟨#[c]⟩
def Kh{P:Program}{w:World}{K:W.Frag}{tg:Expr}{it:Addr}{x:Str}{t:Tok}{T:String}(W:∀ A:Around,A.handled=none->Walks P w A it [it] [it] x.cps.size (SignAt x) (λi h=>h.IsStrIter it T x t i))(hs:∀ (A:Around) (i:Nat) (s:Shared) (Q:Value->Shared->Prop) (E:Value->Shared->Prop),s.heap.IsStrIter it T x t i->Q (.ref it) s->wpAny (model P w) A (pyIter (.ref it)) Q E s)(hT:["enumerate","zip","dict_itemiterator","dict_reverseitemiterator","odict_iterator","itertools.zip_longest","itertools.pairwise"].contains T=false) :
  Turn P w K tg (Itv x.cps.size (Ak x)) [it] it (λi h=>h.IsStrIter it T x t i) where
 mem:=by simp
 obj:=λi h st b j=>by
  have e:b=it:=by simpa using j
  subst e;obtain⟨o,e,c,d⟩:=st;exact⟨o,e,λv z=>by rw[d]at z;cases z⟩
 keep:=λi h h' st k=>let ⟨o,e,r⟩:=st;⟨o,k it (by simp) o e,r⟩
 item:=by
  intro X hP hw hK hc i pn s σ H E I Z st hg;subst hP hw hK;obtain⟨f0,f1,f2,f3,f4,f5⟩:=Z it (by simp)
  refine(W X.A (I.ok.hd hc)).item i s _ _ hg st λv h' tk hv q kk=>?_;obtain⟨c,u,hx,rfl⟩:=hv;have I1:Inv X pn σ H {s with heap:=h',toks:=tk}:=I.turned (λb o j e=>kk b o (by simpa using j) e) f0 f1 f3 f4 f5
  obtain⟨o,e,c',d⟩:=id q;exact⟨_,rfl,Ho (s:={s with heap:=h',toks:=tk}) e c' d hT ⟨.str ⟨#[c]⟩,H,I1,⟨u,rfl⟩,⟨rfl,c,hx,rfl⟩,q,λb j=>(Z b j).1⟩⟩
 done:=by
  intro X hP hw hK hc i pn s σ H E I Z st hg;subst hP hw hK;obtain⟨f0,f1,f2,f3,f4,f5⟩:=Z it (by simp)
  have e:i=x.cps.size:=hg;subst e;exact(W X.A (I.ok.hd hc)).done s _ _ st λh' tk kk=>⟨rfl,I.turned (λb o j e=>kk b o (by simpa using j) e) f0 f1 f3 f4 f5⟩
 self:=λA i s Q E st h=>hs A i s Q E st h
def jt:V->Option Bool
 |.bl b=>some b
 |.int i=>some (i != 0)
 |.non=>some false
 |_=>none
def ju(ys:List V)(d:Bool)(i:Nat):Bool:=((ys[i]?).bind jt).getD d
def Ub(ys:List V)(h:∀ y∈ys,(jt y).isSome=true):(List.range ys.length).all (ju ys true)=ys.all λy=>jt y==some true:=by
 rw[Bool.eq_iff_iff,List.all_eq_true,List.all_eq_true];constructor
 ·intro q y I;obtain⟨i,hi,e⟩:=List.getElem_of_mem I;have z:=q i (List.mem_range.mpr hi);unfold ju at z;rw[zaf hi,Option.bind_some,e]at z;obtain⟨b,Z⟩:=Option.isSome_iff_exists.mp (h y I);rw[Z]at z ⊢;simpa using z
 intro q i hi;have j:=List.mem_range.mp hi;have z:=q _ (List.getElem_mem j);unfold ju;rw[zaf j,Option.bind_some,eq_of_beq z];rfl
def Ua(ys:List V)(h:∀ y∈ys,(jt y).isSome=true):(List.range ys.length).any (ju ys false)=ys.any λy=>jt y==some true:=by
 rw[Bool.eq_iff_iff,List.any_eq_true,List.any_eq_true];constructor
 ·rintro⟨i,hi,z⟩;have j:=List.mem_range.mp hi;refine⟨_,List.getElem_mem j,?_⟩;unfold ju at z;rw[zaf j,Option.bind_some]at z;obtain⟨b,I⟩:=Option.isSome_iff_exists.mp (h _ (List.getElem_mem j));rw[I]at z ⊢;simpa using z
 rintro⟨y,q,z⟩;obtain⟨i,hi,e⟩:=List.getElem_of_mem q;refine⟨i,List.mem_range.mpr hi,?_⟩;unfold ju;rw[zaf hi,Option.bind_some,e,eq_of_beq z];rfl
def gf(d:Bool)(r:Vals ys its)(h:∀ y∈ys,(jt y).isSome=true):TruthOf P w A (λi v=>its.toArray[i]?=some v) (ju ys d):=by
 intro i v s Q E hP j;obtain⟨y,I,q⟩:=j4 r (show its[i]?=some v by simpa using hP)
 unfold ju at j;rw[I,Option.bind_some]at j;have Z:=h y (zan I);cases y with
 |bl b=>cases q;exact wpAny_truthy_bool j
 |int k=>obtain⟨t,rfl⟩:=q;exact PySem.P.truthy_int j
 |non=>cases q;exact truthy_none j
 |_=>cases Z
def qp{s:Shared}{h':Heap}{o:Obj}(j:∀ b x,b∉[s.heap.objs.size]->(s.heap.push o).get? b=some x->h'.get? b=some x):∀b x,s.heap.get? b=some x->h'.get? b=some x :=
 λb x e=>j b x (by simpa using Nat.ne_of_lt (zae e)) (zac _ e)
def rAll(K:W.Frag)(f:List V->Bool):List V->Hp->VK->Prop:=λxs H Q=>∃p ys,xs=[.ref p]/\(SqL K H p ys\/SqT K H p ys)/\(∀y∈ys,(jt y).isSome=true)/\Q (.bl (f ys)) H
def U0(hc:X.calm=true):ua X (.builtin "all") (rAll X.K λys=>ys.all λy=>jt y==some true):=by
 intro pn s σ H xs us Q I r h;obtain⟨p,ys,rfl,hq,ht,q⟩:=h;obtain⟨u,rfl,rx⟩:=sf r;cases rx;rcases hq with hq|hq
 ·obtain⟨its,rv,Z,hz⟩:=I.list hq;have j:p<s.heap.objs.size:=by obtain⟨_,e,_⟩:=Z.isList;exact zae e
  refine call_all_walk (wpAny_pyIter_list Z.isList ⟨s.heap.objs.size,[s.heap.objs.size,p],[s.heap.objs.size],its.toArray.size,_,_,ju ys true,rfl,Walks.list (A:=X.A.in1) (I.ok.hd hc) _ p (Nat.ne_of_lt j) its.toArray,
   ⟨⟨_,zad _ rfl,rfl,rfl⟩,Z.isList.push _⟩,gf true rv ht,λh' tk hk=>?_⟩)
  rw[zap,<- rv.length,Ub ys ht];exact⟨.bl _,H,I.kept (qp hk),rfl,q⟩
 obtain⟨its,rv,Z,hz⟩:=I.tuple hq;have j:p<s.heap.objs.size:=by obtain⟨_,e,_⟩:=Z;exact zae e
 have a0:s.heap.IsTuple p its.toArray:=Z;refine call_all_walk (wpAny_pyIter_tuple a0 ⟨s.heap.objs.size,[s.heap.objs.size,p],[s.heap.objs.size],its.toArray.size,_,_,ju ys true,rfl,Walks.tuple (A:=X.A.in1) (I.ok.hd hc) _ p (Nat.ne_of_lt j) its.toArray,
  ⟨⟨_,zad _ rfl,rfl,rfl⟩,a0.at λo e=>zac _ e⟩,gf true rv ht,λh' tk hk=>?_⟩)
 rw[zap,<- rv.length,Ub ys ht];exact⟨.bl _,H,I.kept (qp hk),rfl,q⟩
def Vz(hc:X.calm=true):ua X (.builtin "any") (rAll X.K λys=>ys.any λy=>jt y==some true):=by
 intro pn s σ H xs us Q I r h;obtain⟨p,ys,rfl,hq,ht,q⟩:=h;obtain⟨u,rfl,rx⟩:=sf r;cases rx;rcases hq with hq|hq
 ·obtain⟨its,rv,Z,hz⟩:=I.list hq;have j:p<s.heap.objs.size:=by obtain⟨_,e,_⟩:=Z.isList;exact zae e
  refine call_any_walk (wpAny_pyIter_list Z.isList ⟨s.heap.objs.size,[s.heap.objs.size,p],[s.heap.objs.size],its.toArray.size,_,_,ju ys false,rfl,Walks.list (A:=X.A.in1) (I.ok.hd hc) _ p (Nat.ne_of_lt j) its.toArray,
   ⟨⟨_,zad _ rfl,rfl,rfl⟩,Z.isList.push _⟩,gf false rv ht,λh' tk hk=>?_⟩)
  rw[zap,<- rv.length,Ua ys ht];exact⟨.bl _,H,I.kept (qp hk),rfl,q⟩
 obtain⟨its,rv,Z,hz⟩:=I.tuple hq;have j:p<s.heap.objs.size:=by obtain⟨_,e,_⟩:=Z;exact zae e
 have a0:s.heap.IsTuple p its.toArray:=Z;refine call_any_walk (wpAny_pyIter_tuple a0 ⟨s.heap.objs.size,[s.heap.objs.size,p],[s.heap.objs.size],its.toArray.size,_,_,ju ys false,rfl,Walks.tuple (A:=X.A.in1) (I.ok.hd hc) _ p (Nat.ne_of_lt j) its.toArray,
  ⟨⟨_,zad _ rfl,rfl,rfl⟩,a0.at λo e=>zac _ e⟩,gf false rv ht,λh' tk hk=>?_⟩)
 rw[zap,<- rv.length,Ua ys ht];exact⟨.bl _,H,I.kept (qp hk),rfl,q⟩
theorem nd1(t:Str):([t]++[]).Nodup:=by simp
inductive Cst where
 |int (i:Int)|str (x:Str)|tup (cs:List Cst)
mutual
def CRep(K:W.Frag):Cst->V->Prop
 |.int i,v=>v=.int i
 |.str x,v=>v=.str x
 |.tup cs,v=>∃(a:Addr)(o:Obj)(its:Array Value)(n:Nat)(xs:List V),v=.ref a/\K.lookup a=some o/\o.cls=.type "tuple"/\o.data=.seq its n/\its.size<=sizeLine/\Vals xs its.toList/\Ug K cs xs
def Ug(K:W.Frag):List Cst->List V->Prop
 |[],xs=>xs=[]
 |c::cs,xs=>∃v r,xs=v::r/\CRep K c v/\Ug K cs r
end
inductive D where
 |non|bl (b:Bool)|int (i:Int)|str (x:Str)|ty (n:String)
 |tup (ds:List D)|lst (ds:List D)|dk (ks:List Key) (ds:List D)
  |scr (ns:List Int)
  |exc (C:Addr)
  |fd (m:Int)
  |cn (c:Cst)
 def Scr (K:W.Frag) (H:Hp) (a:Addr) (ns:List Int):Prop :=
 (∃o,H a=some (.frz o (.lst (ns.map V.int)))) \/
  ∃(o:Obj)(its:Array Value)(n:Nat),K.lookup a=some o/\o.cls=.type "list"/\o.dict=none/\o.data=.seq its n/\its.size<=sizeLine/\Vals (ns.map V.int) its.toList
def Scr.seq{K:W.Frag}{H:Hp}{a:Addr}{ns:List Int}(h:Scr K H a ns):SqL K H a (ns.map V.int):=by
 rcases h with⟨o,h⟩|h
 ·exact .inl (.inr ⟨o,h⟩)
 exact .inr h
def SqR(K:W.Frag)(H:Hp)(a:Addr)(xs:List V):Prop:=SqT K H a xs/\H a=some (.tup xs)
def ExcO(a C:Addr):HO:=.ext λh=>∃o,h.get? a=some o/\o.cls=.ref C/\W.notCls o=true
def tz(a:Addr)(m:Int):HO:=.ext λh=>(0<=m/\∃(its:Array Value)(n:Nat),h.get? a=some {cls:=.type "list",dict:=none,data:=.seq its n,slots:=#[]}/\its.size<=1000/\(m<=0->1<=its.size)/\∀v∈its,∃(i:Int)(t:Tok),v=.int i t/\(0<m->0<=i/\i<m)) \/
 (m<0/\(a==sysModules)=false/\∃(o:Obj)(es:Array DictEntry)(ep:Nat),h.get? a=some o/\o.ExactDict/\o.data=.dict es ep/\(es.size:Int) =-m-1)
mutual
def Rep(K:W.Frag)(H:Hp)(O:List Addr):D->V->Prop
 |.non,v=>v=.non
 |.bl b,v=>v=.bl b
 |.int i,v=>v=.int i
 |.str x,v=>v=.str x
 |.ty n,v=>v=.ty n
 |.cn c,v=>CRep K c v
 |.tup ds,v=>∃a xs,v=.ref a/\SqR K H a xs/\Reps K H O ds xs
 |.lst ds,v=>∃a xs,v=.ref a/\H a=some (.lst xs)/\a∉O/\Reps K H O ds xs
 |.scr ns,v=>∃a,v=.ref a/\Scr K H a ns
 |.exc C,v=>∃a,v=.ref a/\H a=some (ExcO a C)/\a∉O
 |.fd m,v=>∃a,v=.ref a/\H a=some (tz a m)/\a∉O
 |.dk ks ds,v=>∃a xs,v=.ref a/\H a=some (.dK (ks.zip xs))/\a∉O/\ks.length=ds.length/\ks.Nodup/\Reps K H O ds xs
def Reps(K:W.Frag)(H:Hp)(O:List Addr):List D->List V->Prop
 |[],xs=>xs=[]
 |d::ds,xs=>∃v r,xs=v::r/\Rep K H O d v/\Reps K H O ds r
end
structure Grow(O O':List Addr)(H H':Hp):Prop where
 keep:∀b u,H b=some u->b∉O->H' b=some u/\b∉O'
 tups:∀b xs,H b=some (.tup xs)->H' b=some (.tup xs)
 frzs:∀b o u,H b=some (.frz o u)->H' b=some (.frz o u)
def Grow.same(s:Same H H'):Grow O O H H':=⟨λb u h n=>⟨s b u h,n⟩,λb xs h=>s b _ h,λb o u h=>s b _ h⟩
def Grow.refl:Grow O O H H:=Grow.same (Same.refl H)
def Grow.trans(a:Grow O O' H H')(b:Grow O' O'' H' H''):Grow O O'' H H'' :=
 ⟨λc u h n=>let ⟨h',n'⟩:=a.keep c u h n;b.keep c u h' n',λc xs h=>b.tups c xs (a.tups c xs h),λc o u h=>b.frzs c o u (a.frzs c o u h)⟩
def Ye{K:W.Frag}{O O':List Addr}{H H':Hp}{a:Addr}{xs:List V}(g:Grow O O' H H')(h:SqT K H a xs):SqT K H' a xs:=by
 rcases h with(h|⟨o,h⟩)|h
 ·exact .inl (.inl (g.tups _ _ h))
 ·exact .inl (.inr ⟨o,g.frzs _ _ _ h⟩)
 exact .inr h
def R5{K:W.Frag}{O O':List Addr}{H H':Hp}{a:Addr}{xs:List V}(g:Grow O O' H H')(h:SqR K H a xs):SqR K H' a xs:=⟨Ye g h.1,g.tups _ _ h.2⟩
def gl{K:W.Frag}{O O':List Addr}{H H':Hp}{a:Addr}{ns:List Int}(g:Grow O O' H H')(h:Scr K H a ns):Scr K H' a ns:=by
 rcases h with⟨o,h⟩|h
 ·exact .inl ⟨o,g.frzs _ _ _ h⟩
 exact .inr h
mutual
theorem Rep.grow{K:W.Frag}{O O':List Addr}{H H':Hp}(g:Grow O O' H H'):∀(d:D)(v:V),Rep K H O d v->Rep K H' O' d v
 |.non,_,h=>h
 |.bl _,_,h=>h
 |.int _,_,h=>h
 |.str _,_,h=>h
 |.ty _,_,h=>h
 |.cn _,_,h=>h
 |.tup ds,v,h=>by
  obtain⟨a,xs,e,q,r⟩:=h;exact⟨a,xs,e,R5 g q,Reps.grow g ds xs r⟩
 |.lst ds,v,h=>by
  obtain⟨a,xs,e,q,n,r⟩:=h;exact⟨a,xs,e,(g.keep _ _ q n).1,(g.keep _ _ q n).2,Reps.grow g ds xs r⟩
 |.scr ns,v,h=>by
  obtain⟨a,e,q⟩:=h;exact⟨a,e,gl g q⟩
 |.exc C,v,h=>by
  obtain⟨a,e,q,n⟩:=h;exact⟨a,e,(g.keep _ _ q n).1,(g.keep _ _ q n).2⟩
 |.fd m,v,h=>by
  obtain⟨a,e,q,n⟩:=h;exact⟨a,e,(g.keep _ _ q n).1,(g.keep _ _ q n).2⟩
 |.dk ks ds,v,h=>by
  obtain⟨a,xs,e,q,n,l,j,r⟩:=h;exact⟨a,xs,e,(g.keep _ _ q n).1,(g.keep _ _ q n).2,l,j,Reps.grow g ds xs r⟩
theorem Reps.grow{K:W.Frag}{O O':List Addr}{H H':Hp}(g:Grow O O' H H'):∀(ds:List D)(xs:List V),Reps K H O ds xs->Reps K H' O' ds xs
 |[],_,h=>h
 |d::ds,xs,h=>by
  obtain⟨v,r,e,q,t⟩:=h;exact⟨v,r,e,Rep.grow g d v q,Reps.grow g ds r t⟩
end
mutual
theorem Rep.sub{K:W.Frag}{O O':List Addr}{H:Hp}(g:∀ a∈O',a∈O):∀(d:D)(v:V),Rep K H O d v->Rep K H O' d v
 |.non,_,h=>h
 |.bl _,_,h=>h
 |.int _,_,h=>h
 |.str _,_,h=>h
 |.ty _,_,h=>h
 |.cn _,_,h=>h
 |.tup ds,v,h=>by
  obtain⟨a,xs,e,q,r⟩:=h;exact⟨a,xs,e,q,Reps.sub g ds xs r⟩
 |.lst ds,v,h=>by
  obtain⟨a,xs,e,q,n,r⟩:=h;exact⟨a,xs,e,q,λz=>n (g a z),Reps.sub g ds xs r⟩
 |.scr _,_,h=>h
 |.exc _,_,h=>by
  obtain⟨a,e,q,n⟩:=h;exact⟨a,e,q,λz=>n (g a z)⟩
 |.fd _,_,h=>by
  obtain⟨a,e,q,n⟩:=h;exact⟨a,e,q,λz=>n (g a z)⟩
 |.dk ks ds,v,h=>by
  obtain⟨a,xs,e,q,n,l,j,r⟩:=h;exact⟨a,xs,e,q,λz=>n (g a z),l,j,Reps.sub g ds xs r⟩
theorem Reps.sub{K:W.Frag}{O O':List Addr}{H:Hp}(g:∀ a∈O',a∈O):∀(ds:List D)(xs:List V),Reps K H O ds xs->Reps K H O' ds xs
 |[],_,h=>h
 |d::ds,xs,h=>by
  obtain⟨v,r,e,q,t⟩:=h;exact⟨v,r,e,Rep.sub g d v q,Reps.sub g ds r t⟩
end
mutual
def re:D->Prop
 |.tup ds=>vg ds
 |.lst _=>False
 |.dk _ _=>False
 |.scr _=>True
 |.exc _=>False
 |.fd _=>False
 |.non=>True
 |.bl _=>True
 |.int _=>True
 |.str _=>True
 |.ty _=>True
 |.cn _=>True
def vg:List D->Prop
 |[]=>True
 |d::ds=>re d/\vg ds
end
def yu:∀{ds:List D},vg ds ↔ ∀d∈ds,re d
 |[]=>by simp[vg]
 |d::ds=>by
  rw[vg,yu];simp
mutual
theorem Rep.pure{K:W.Frag}{O O':List Addr}{H:Hp}:∀(d:D)(v:V),re d->Rep K H O d v->Rep K H O' d v
 |.non,_,_,h=>h
 |.bl _,_,_,h=>h
 |.int _,_,_,h=>h
 |.str _,_,_,h=>h
 |.ty _,_,_,h=>h
 |.cn _,_,_,h=>h
 |.tup ds,v,p,h=>by
  obtain⟨a,xs,e,q,r⟩:=h;exact⟨a,xs,e,q,Reps.pure ds xs p r⟩
 |.scr _,_,_,h=>h
 |.exc _,_,p,_=>p.elim
 |.fd _,_,p,_=>p.elim
 |.lst ds,v,p,h=>p.elim
 |.dk ks ds,v,p,h=>p.elim
theorem Reps.pure{K:W.Frag}{O O':List Addr}{H:Hp}:∀(ds:List D)(xs:List V),vg ds->Reps K H O ds xs->Reps K H O' ds xs
 |[],_,_,h=>h
 |d::ds,xs,p,h=>by
  obtain⟨v,r,e,q,t⟩:=h;exact⟨v,r,e,Rep.pure d v p.1 q,Reps.pure ds r p.2 t⟩
end
mutual
def RepN(K:W.Frag)(H:Hp)(P:Addr->Prop):D->V->Prop
 |.non,v=>v=.non
 |.bl b,v=>v=.bl b
 |.int i,v=>v=.int i
 |.str x,v=>v=.str x
 |.ty n,v=>v=.ty n
 |.cn c,v=>CRep K c v
 |.tup ds,v=>∃a xs,v=.ref a/\SqR K H a xs/\xa K H P ds xs
 |.lst ds,v=>∃a xs,v=.ref a/\H a=some (.lst xs)/\P a/\xa K H P ds xs
 |.scr ns,v=>∃a,v=.ref a/\Scr K H a ns
 |.exc C,v=>∃a,v=.ref a/\H a=some (ExcO a C)/\P a
 |.fd m,v=>∃a,v=.ref a/\H a=some (tz a m)/\P a
 |.dk ks ds,v=>∃a xs,v=.ref a/\H a=some (.dK (ks.zip xs))/\P a/\ks.length=ds.length/\ks.Nodup/\xa K H P ds xs
def xa(K:W.Frag)(H:Hp)(P:Addr->Prop):List D->List V->Prop
 |[],xs=>xs=[]
 |d::ds,xs=>∃v r,xs=v::r/\RepN K H P d v/\xa K H P ds r
end
mutual
theorem RepN.to{K:W.Frag}{P j:Addr->Prop}{H H':Hp}(s:Same H H')(g:∀ a,P a->j a):∀(d:D)(v:V),RepN K H P d v->RepN K H' j d v
 |.non,_,h=>h
 |.bl _,_,h=>h
 |.int _,_,h=>h
 |.str _,_,h=>h
 |.ty _,_,h=>h
 |.cn _,_,h=>h
 |.tup ds,v,h=>by
  obtain⟨a,xs,e,q,r⟩:=h;exact⟨a,xs,e,R5 (Grow.same (O:=[]) s) q,xa.to s g ds xs r⟩
 |.lst ds,v,h=>by
  obtain⟨a,xs,e,q,n,r⟩:=h;exact⟨a,xs,e,s _ _ q,g a n,xa.to s g ds xs r⟩
 |.scr ns,v,h=>by
  obtain⟨a,e,q⟩:=h;exact⟨a,e,gl (Grow.same (O:=[]) s) q⟩
 |.exc C,v,h=>by
  obtain⟨a,e,q,n⟩:=h;exact⟨a,e,s _ _ q,g a n⟩
 |.fd m,v,h=>by
  obtain⟨a,e,q,n⟩:=h;exact⟨a,e,s _ _ q,g a n⟩
 |.dk ks ds,v,h=>by
  obtain⟨a,xs,e,q,n,l,I,r⟩:=h;exact⟨a,xs,e,s _ _ q,g a n,l,I,xa.to s g ds xs r⟩
theorem xa.to{K:W.Frag}{P j:Addr->Prop}{H H':Hp}(s:Same H H')(g:∀ a,P a->j a):∀(ds:List D)(xs:List V),xa K H P ds xs->xa K H' j ds xs
 |[],_,h=>h
 |d::ds,xs,h=>by
  obtain⟨v,r,e,q,t⟩:=h;exact⟨v,r,e,RepN.to s g d v q,xa.to s g ds r t⟩
end
mutual
theorem RepN.rep{K:W.Frag}{P:Addr->Prop}{H:Hp}{O:List Addr}(g:∀ a,P a->a∉O):∀(d:D)(v:V),RepN K H P d v->Rep K H O d v
 |.non,_,h=>h
 |.bl _,_,h=>h
 |.int _,_,h=>h
 |.str _,_,h=>h
 |.ty _,_,h=>h
 |.cn _,_,h=>h
 |.tup ds,v,h=>by
  obtain⟨a,xs,e,q,r⟩:=h;exact⟨a,xs,e,q,xa.reps g ds xs r⟩
 |.lst ds,v,h=>by
  obtain⟨a,xs,e,q,n,r⟩:=h;exact⟨a,xs,e,q,g a n,xa.reps g ds xs r⟩
 |.scr _,_,h=>h
 |.exc C,v,h=>by
  obtain⟨a,e,q,n⟩:=h;exact⟨a,e,q,g a n⟩
 |.fd m,v,h=>by
  obtain⟨a,e,q,n⟩:=h;exact⟨a,e,q,g a n⟩
 |.dk ks ds,v,h=>by
  obtain⟨a,xs,e,q,n,l,j,r⟩:=h;exact⟨a,xs,e,q,g a n,l,j,xa.reps g ds xs r⟩
theorem xa.reps{K:W.Frag}{P:Addr->Prop}{H:Hp}{O:List Addr}(g:∀ a,P a->a∉O):∀(ds:List D)(xs:List V),xa K H P ds xs->Reps K H O ds xs
 |[],_,h=>h
 |d::ds,xs,h=>by
  obtain⟨v,r,e,q,t⟩:=h;exact⟨v,r,e,RepN.rep g d v q,xa.reps g ds r t⟩
end
mutual
theorem Rep.toN{K:W.Frag}{P:Addr->Prop}{O:List Addr}{H:Hp}:∀(d:D)(v:V),re d->Rep K H O d v->RepN K H P d v
 |.non,_,_,h=>h
 |.bl _,_,_,h=>h
 |.int _,_,_,h=>h
 |.str _,_,_,h=>h
 |.ty _,_,_,h=>h
 |.cn _,_,_,h=>h
 |.tup ds,v,p,h=>by
  obtain⟨a,xs,e,q,r⟩:=h;exact⟨a,xs,e,q,Reps.toN ds xs p r⟩
 |.scr _,_,_,h=>h
 |.exc _,_,p,_=>p.elim
 |.fd _,_,p,_=>p.elim
 |.lst ds,v,p,h=>p.elim
 |.dk ks ds,v,p,h=>p.elim
theorem Reps.toN{K:W.Frag}{P:Addr->Prop}{O:List Addr}{H:Hp}:∀(ds:List D)(xs:List V),vg ds->Reps K H O ds xs->xa K H P ds xs
 |[],_,_,h=>h
 |d::ds,xs,p,h=>by
  obtain⟨v,r,e,q,t⟩:=h;exact⟨v,r,e,Rep.toN d v p.1 q,Reps.toN ds r p.2 t⟩
end
theorem xa.append{K:W.Frag}{P:Addr->Prop}{H:Hp}:∀{ds es:List D}{xs ys:List V},xa K H P ds xs->xa K H P es ys->xa K H P (ds++es) (xs++ys)
 |[],es,xs,ys,h,h'=>by cases h;exact h'
 |d::ds,es,xs,ys,h,h'=>by
  obtain⟨v,r,rfl,q,t⟩:=h;exact⟨v,r++ys,rfl,q,xa.append t h'⟩
def xa.length{K:W.Frag}{P:Addr->Prop}{H:Hp}{ds:List D}{xs:List V}(h:xa K H P ds xs):xs.length=ds.length:=by
 induction ds generalizing xs with
 |nil=>cases (show xs=[] from h);rfl
 |cons d ds ih =>
  obtain⟨v,r,rfl,_,t⟩:=h;simp[ih t]
variable{O:List Addr}
def Reps.length:∀{ds:List D}{xs:List V},Reps K H O ds xs->xs.length=ds.length
 |[],_,h=>by cases h;rfl
 |d::ds,xs,h=>by
  obtain⟨v,r,e,_,t⟩:=h;subst e;simp[Reps.length t]
theorem Reps.get:∀{ds:List D}{xs:List V}{i:Nat}{d:D},Reps K H O ds xs->ds[i]?=some d->∃v,xs[i]?=some v/\Rep K H O d v
 |[],_,_,_,_,e=>by simp at e
 |d::ds,xs,0,d',h,e=>by
  obtain⟨v,r,rfl,q,_⟩:=h;simp at e;subst e;exact⟨v,rfl,q⟩
 |d::ds,xs,i+1,d',h,e=>by
  obtain⟨v,r,rfl,_,t⟩:=h;obtain⟨j,Z,I⟩:=Reps.get (i:=i) t (by simpa using e)
  exact⟨j,by simpa using Z,I⟩
theorem Reps.append:∀{ds es:List D}{xs ys:List V},Reps K H O ds xs->Reps K H O es ys->Reps K H O (ds++es) (xs++ys)
 |[],es,xs,ys,h,h'=>by cases h;exact h'
 |d::ds,es,xs,ys,h,h'=>by
  obtain⟨v,r,rfl,q,t⟩:=h;exact⟨v,r++ys,rfl,q,Reps.append t h'⟩
def Reps.one(h:Rep K H O d v):Reps K H O [d] [v]:=⟨v,[],rfl,h,rfl⟩
theorem Reps.take:∀{ds:List D}{xs:List V}(n:Nat),Reps K H O ds xs->Reps K H O (ds.take n) (xs.take n)
 |_,_,0,_=>rfl
 |[],_,n+1,h=>by cases h;rfl
 |d::ds,xs,n+1,h=>by
  obtain⟨v,r,rfl,q,t⟩:=h;exact⟨v,r.take n,rfl,q,Reps.take n t⟩
def Reps.drop:∀{ds:List D}{xs:List V}(n:Nat),Reps K H O ds xs->Reps K H O (ds.drop n) (xs.drop n)
 |_,_,0,h=>h
 |[],_,n+1,h=>by cases h;rfl
 |d::ds,xs,n+1,h=>by
  obtain⟨v,r,rfl,q,t⟩:=h;exact Reps.drop n t
theorem Reps.set:∀{ds:List D}{xs:List V}(n:Nat){d:D}{v:V},Rep K H O d v->Reps K H O ds xs->Reps K H O (ds.set n d) (xs.set n v)
 |[],_,_,_,_,_,h=>by cases h;rfl
 |d::ds,xs,0,d',v',q',h=>by
  obtain⟨v,r,rfl,q,t⟩:=h;exact⟨v',r,rfl,q',t⟩
 |d::ds,xs,n+1,d',v',q',h=>by
  obtain⟨v,r,rfl,q,t⟩:=h;exact⟨v,r.set n v',rfl,q,Reps.set n q' t⟩
def Reps.ints:∀(ns:List Int),Reps K H O (ns.map D.int) (ns.map V.int)
 |[]=>rfl
 |n::ns=>⟨_,_,rfl,rfl,Reps.ints ns⟩
theorem Reps.rep(h:Reps K H O ds xs):∀k:Nat,Reps K H O (List.replicate k ds).flatten (List.replicate k xs).flatten
 |0=>rfl
 |k+1=>by
  rw[List.replicate_succ,List.replicate_succ,List.flatten_cons,List.flatten_cons];exact h.append (Reps.rep h k)
def View(K:W.Frag)(H:Hp)(O:List Addr)(d:D)(v:V):Prop:=match d with
 |.lst ds=>∃a xs,v=.ref a/\H a=some (.lst xs)/\Reps K H O ds xs
 |.dk ks ds=>∃a xs,v=.ref a/\H a=some (.dK (ks.zip xs))/\ks.length=ds.length/\ks.Nodup/\Reps K H O ds xs
 |.fd m=>∃a,v=.ref a/\H a=some (tz a m)
 |d=>Rep K H O d v
def Con1(K:W.Frag)(H:Hp)(O:List Addr)(d:D)(a:Addr):Prop:=match d with
 |.lst ds=>∃xs,H a=some (.lst xs)/\Reps K H O ds xs
 |.dk ks ds=>∃xs,H a=some (.dK (ks.zip xs))/\ks.length=ds.length/\ks.Nodup/\Reps K H O ds xs
 |.fd m=>H a=some (tz a m)
 |_=>False
def Rep.view{K:W.Frag}{H:Hp}{O:List Addr}{d:D}{v:V}(h:Rep K H O d v):View K H O d v:=by
 cases d with
 |lst ds=>obtain⟨a,xs,e,q,_,r⟩:=h;exact⟨a,xs,e,q,r⟩
 |dk ks ds=>obtain⟨a,xs,e,q,_,r⟩:=h;exact⟨a,xs,e,q,r⟩
 |fd m=>obtain⟨a,e,q,_⟩:=h;exact⟨a,e,q⟩
 |_=>exact h
def Con1.view{K:W.Frag}{H:Hp}{O:List Addr}{d:D}{a:Addr}(h:Con1 K H O d a):View K H O d (.ref a):=by
 cases d with
 |lst ds=>obtain⟨xs,q,r⟩:=h;exact⟨a,xs,rfl,q,r⟩
 |dk ks ds=>obtain⟨xs,q,r⟩:=h;exact⟨a,xs,rfl,q,r⟩
 |fd m=>exact⟨a,rfl,h⟩
 |_=>exact h.elim
def Con1.rep{K:W.Frag}{H:Hp}{O:List Addr}{d:D}{a:Addr}(h:Con1 K H O d a)(n:a∉O):Rep K H O d (.ref a):=by
 cases d with
 |lst ds=>obtain⟨xs,q,r⟩:=h;exact⟨a,xs,rfl,q,n,r⟩
 |dk ks ds=>obtain⟨xs,q,r⟩:=h;exact⟨a,xs,rfl,q,n,r⟩
 |fd m=>exact⟨a,rfl,h,n⟩
 |_=>exact h.elim
def Con1.same{K:W.Frag}{H H':Hp}{O:List Addr}{d:D}{a:Addr}(h:Con1 K H O d a)(s:Same H H'):Con1 K H' O d a:=by
 cases d with
 |lst ds=>obtain⟨xs,q,r⟩:=h;exact⟨xs,s _ _ q,Reps.grow (Grow.same s) _ _ r⟩
 |dk ks ds=>obtain⟨xs,q,l,n,r⟩:=h;exact⟨xs,s _ _ q,l,n,Reps.grow (Grow.same s) _ _ r⟩
 |fd m=>exact s _ _ h
 |_=>exact h.elim
def Con1.sub{K:W.Frag}{H:Hp}{O O':List Addr}{d:D}{a:Addr}(h:Con1 K H O d a)(g:∀ a∈O',a∈O):Con1 K H O' d a:=by
 cases d with
 |lst ds=>obtain⟨xs,q,r⟩:=h;exact⟨xs,q,Reps.sub g _ _ r⟩
 |dk ks ds=>obtain⟨xs,q,l,n,r⟩:=h;exact⟨xs,q,l,n,Reps.sub g _ _ r⟩
 |fd m=>exact h
 |_=>exact h.elim
def View.sub{K:W.Frag}{H:Hp}{O O':List Addr}{d:D}{v:V}(h:View K H O d v)(g:∀ a∈O',a∈O):View K H O' d v:=by
 cases d with
 |lst ds=>obtain⟨a,xs,e,q,r⟩:=h;exact⟨a,xs,e,q,Reps.sub g _ _ r⟩
 |dk ks ds=>obtain⟨a,xs,e,q,l,n,r⟩:=h;exact⟨a,xs,e,q,l,n,Reps.sub g _ _ r⟩
 |fd m=>exact h
 |_=>exact Rep.sub g _ _ h
def View.rep0{K:W.Frag}{H:Hp}{O:List Addr}{d:D}{v:V}(h:View K H O d v):Rep K H [] d v:=by
 have h:=h.sub (O':=[]) (λ_ z=>nomatch z);cases d with
 |lst ds=>obtain⟨a,xs,e,q,r⟩:=h;exact⟨a,xs,e,q,by simp,r⟩
 |dk ks ds=>obtain⟨a,xs,e,q,l,n,r⟩:=h;exact⟨a,xs,e,q,by simp,l,n,r⟩
 |fd m=>obtain⟨a,e,q⟩:=h;exact⟨a,e,q,by simp⟩
 |_=>exact h
inductive Kd where|val|own|fre|new
 deriving DecidableEq
structure EV where
 k:Kd
 d:D
abbrev DE:=List (Option EV)
abbrev dv(d:D):EV:=⟨.val,d⟩
abbrev df(d:D):EV:=⟨.fre,d⟩
abbrev dO(d:D):EV:=⟨.own,d⟩
abbrev q_(d:D):Option EV:=some (dv d)
abbrev Q_(d:D):Option EV:=some (dO d)
def RV(K:W.Frag)(H0 H:Hp)(O:List Addr)(r:EV)(v:V):Prop:=match r.k with
 |.val=>Rep K H O r.d v
 |.own=>∃a,v=.ref a/\a∈O/\Con1 K H O r.d a
 |.fre=>∃a,v=.ref a/\H0 a=none/\a∉O/\Con1 K H (a::O) r.d a
 |.new=>RepN K H (λa=>a∉O/\H0 a=none) r.d v
variable{H0 H1:Hp}{r:EV}{v:V}
def RV.val(h:Rep K H O d v):RV K H0 H O (dv d) v:=h
def RV.same(h:RV K H0 H O r v)(s:Same H H'):RV K H0 H' O r v:=by
 obtain⟨k,d⟩:=r;cases k with
 |val=>exact Rep.grow (Grow.same s) _ _ h
 |own=>obtain⟨a,e,m,c⟩:=h;exact⟨a,e,m,c.same s⟩
 |fre=>obtain⟨a,e,m,n,c⟩:=h;exact⟨a,e,m,n,c.same s⟩
 |new=>exact RepN.to s (λ_ z=>z) _ _ h
def RV.start(h:RV K H0 H O r v)(s:Same H1 H0):RV K H1 H O r v:=by
 obtain⟨k,d⟩:=r;cases k with
 |val=>exact h
 |own=>exact h
 |fre=>obtain⟨a,e,m,n,c⟩:=h;exact⟨a,e,s.free m,n,c⟩
 |new=>exact RepN.to (Same.refl H) (λa z=>⟨z.1,s.free z.2⟩) _ _ h
def RV.view(h:RV K H0 H O r v):View K H O r.d v:=by
 obtain⟨k,d⟩:=r;cases k with
 |val=>exact Rep.view h
 |own=>obtain⟨a,e,m,c⟩:=h;subst e;exact c.view
 |fre=>obtain⟨a,e,m,n,c⟩:=h;subst e;exact(c.sub λb j=>zal _ j).view
 |new=>exact(RepN.rep (λa z=>z.1) _ _ h).view
def RV.solid(h:RV K H0 H O r v)(j:r.k≠.own):Rep K H O r.d v:=by
 obtain⟨k,d⟩:=r;cases k with
 |val=>exact h
 |own=>exact absurd rfl j
 |fre=>obtain⟨a,e,m,n,c⟩:=h;subst e;exact(c.sub λb q=>zal _ q).rep n
 |new=>exact RepN.rep (λa z=>z.1) _ _ h
structure REnv(K:W.Frag)(H_ H:Hp)(σ:St)(L:DE)(o:List (Nat×Addr)):Prop where
 same:Same H_ H
 fresh:∀p∈o,H_ p.2=none
 trk:∀p∈o,∃u,H p.2=some u
 mtb:∀p∈o,(∀xs,H p.2≠some (.tup xs))/\∀ob u,H p.2≠some (.frz ob u)
 nda:(o.map Prod.snd).Nodup
 slots:∀i r,L[i]?=some (some r)->∃v,σ[i]?=some (some v)/\((r.k=.val/\Rep K H (o.map Prod.snd) r.d v)\/(r.k=.own/\∃a,v=.ref a/\(i,a)∈o/\Con1 K H (o.map Prod.snd) r.d a))
 len:σ.length=L.length
variable{H_:Hp}{L:DE}{o:List (Nat×Addr)}
def REnv.to(R:REnv K H_ H σ L o)(s:Same H H'):REnv K H_ H' σ L o where
 same:=R.same.trans s
 fresh:=R.fresh
 trk:=λp j=>let ⟨u,e⟩:=R.trk p j;⟨u,s _ _ e⟩
 mtb:=λp j=>by
  obtain⟨u,e⟩:=R.trk p j;obtain⟨Z,I⟩:=R.mtb p j;refine⟨λxs z=>?_,λq w z=>?_⟩
  ·rw[s _ _ e]at z;rw[<- e]at z;exact Z xs z
  rw[s _ _ e]at z;rw[<- e]at z;exact I q w z
 nda:=R.nda
 slots:=λi r e=>by
  obtain⟨v,ev,h⟩:=R.slots i r e;refine⟨v,ev,?_⟩;rcases h with⟨k,h⟩|⟨k,a,e1,m,c⟩
  ·exact .inl ⟨k,Rep.grow (Grow.same s) _ _ h⟩
  exact .inr ⟨k,a,e1,m,c.same s⟩
 len:=R.len
def REnv.ofree(R:REnv K H_ H σ L o){a:Addr}(h:H a=none):a∉o.map Prod.snd:=λz=>by
 obtain⟨p,j,e⟩:=zah.mp z;obtain⟨u,q⟩:=R.trk p j;rw[e,h]at q;cases q
abbrev TD:=DE->(EV->Prop)->Prop
abbrev TDb:=DE->(Bool->Prop)->Prop
abbrev TDs:=DE->(List EV->Prop)->Prop
structure DZ where
 nx:DE->Prop
 rt:EV->Prop
 bk:DE->Prop:=λ_=>False
 ct:DE->Prop:=λ_=>False
abbrev TDS:=DE->DZ->Prop
def RVs(K:W.Frag)(H0 H:Hp)(O:List Addr):List EV->List V->Prop
 |[],vs=>vs=[]
 |r::rs,vs=>∃v ws,vs=v::ws/\RV K H0 H O r v/\RVs K H0 H O rs ws
def RVs.same{K:W.Frag}{H0 H H':Hp}{O:List Addr}(s:Same H H'):∀{rs:List EV}{vs:List V},RVs K H0 H O rs vs->RVs K H0 H' O rs vs
 |[],_,h=>h
 |r::rs,vs,h=>by
  obtain⟨v,j,e,q,t⟩:=h;exact⟨v,j,e,q.same s,t.same s⟩
def RVs.start{K:W.Frag}{H0 H1 H:Hp}{O:List Addr}(s:Same H1 H0):∀{rs:List EV}{vs:List V},RVs K H0 H O rs vs->RVs K H1 H O rs vs
 |[],_,h=>h
 |r::rs,vs,h=>by
  obtain⟨v,j,e,q,t⟩:=h;exact⟨v,j,e,q.start s,t.start s⟩
def RVs.reps{K:W.Frag}{H0 H:Hp}{O:List Addr}:∀{rs:List EV}{vs:List V},RVs K H0 H O rs vs->(∀r∈rs,r.k≠.own)->Reps K H O (rs.map EV.d) vs
 |[],_,h,_=>h
 |r::rs,vs,h,n=>by
  obtain⟨v,j,e,q,t⟩:=h;exact⟨v,j,e,q.solid (n r (zao ..)),t.reps λI h'=>n I (zal _ h')⟩
def RVs.reps0{K:W.Frag}{H0 H:Hp}{O:List Addr}:∀{rs:List EV}{vs:List V},RVs K H0 H O rs vs->Reps K H [] (rs.map EV.d) vs
 |[],_,h=>h
 |r::rs,vs,h=>by
  obtain⟨v,j,e,q,t⟩:=h;exact⟨v,j,e,q.view.rep0,t.reps0⟩
def u7(K:W.Frag)(H_:Hp)(t:TD):TE:=λσ H Q=>∃L o,REnv K H_ H σ L o/\∃U,t L U/\∀v r H',Same H H'->RV K H H' (o.map Prod.snd) r v->U r->Q v H'
def dt(K:W.Frag)(H_:Hp)(t:TDb):TT:=λσ H Q=>∃L o,REnv K H_ H σ L o/\∃U,t L U/\∀b H',Same H H'->U b->Q b H'
def B3(K:W.Frag)(H_:Hp)(t:TDs):TA:=λσ H Q=>∃L o,REnv K H_ H σ L o/\∃U,t L U/\∀vs rs H',Same H H'->RVs K H H' (o.map Prod.snd) rs vs->U rs->Q vs H'
def Yz(K:W.Frag)(H_:Hp)(t:TDS):TS:=λD σ H=>∃L o,REnv K H_ H σ L o/\∃Z,t L Z /\
 (∀ρ' σ' H' o',Grow (o.map Prod.snd) (o'.map Prod.snd) H H'->REnv K H_ H' σ' ρ' o'->Z.nx ρ'->D.nx σ' H') /\
 (∀ρ' σ' H' o',Grow (o.map Prod.snd) (o'.map Prod.snd) H H'->REnv K H_ H' σ' ρ' o'->Z.bk ρ'->D.bk σ' H') /\
 (∀ρ' σ' H' o',Grow (o.map Prod.snd) (o'.map Prod.snd) H H'->REnv K H_ H' σ' ρ' o'->Z.ct ρ'->D.ct σ' H') /\
 (∀v r H',Same H_ H'->RV K H_ H' [] r v->Z.rt r->D.rt v H')
def ED(G:Hp->Prop)(X:Cx)(e:Expr)(t:TD):Prop:=∀H_:{H:Hp // G H},PE X e (u7 X.K H_.1 t)
def ET(G:Hp->Prop)(X:Cx)(e:Expr)(t:TDb):Prop:=∀H_:{H:Hp // G H},PT X e (dt X.K H_.1 t)
def EW(G:Hp->Prop)(X:Cx)(e:Expr)(t:TDb):Prop:=∀H_:{H:Hp // G H},PW X e (dt X.K H_.1 t)
def EA(G:Hp->Prop)(X:Cx)(es:List Expr)(t:TDs):Prop:=∀H_:{H:Hp // G H},PA X es (B3 X.K H_.1 t)
def SD(G:Hp->Prop)(X:Cx)(st:Stmt)(t:TDS):Prop:=∀H_:{H:Hp // G H},PS X st (Yz X.K H_.1 t)
def SDs(G:Hp->Prop)(X:Cx)(st:List Stmt)(t:TDS):Prop:=∀H_:{H:Hp // G H},PSs X st (Yz X.K H_.1 t)
def impE(h:PE X e t)(i:∀ σ H Q,t' σ H Q->t σ H Q):PE X e t':=λpn s σ H Q I q=>h pn s σ H Q I (i σ H Q q)
def impT(h:PT X e t)(i:∀ σ H Q,t' σ H Q->t σ H Q):PT X e t':=λpn s σ H Q I q=>h pn s σ H Q I (i σ H Q q)
def impW(h:PW X e t)(i:∀ σ H Q,t' σ H Q->t σ H Q):PW X e t':=λj pn s σ H Q I q=>h j pn s σ H Q I (i σ H Q q)
def impA(h:PA X es t)(i:∀ σ H Q,t' σ H Q->t σ H Q):PA X es t':=λpos pn s σ H Q I q=>h pos pn s σ H Q I (i σ H Q q)
def impS{X:Cx}{st:Stmt}{t t':TS}(h:PS X st t)(i:∀ D σ H,t' D σ H->t D σ H):PS X st t':=λpn s σ H D I q=>h pn s σ H D I (i D σ H q)
def z2z{X:Cx}{st:List Stmt}{t t':TS}(h:PSs X st t)(i:∀ D σ H,t' D σ H->t D σ H):PSs X st t':=λpn s σ H D I q=>h pn s σ H D I (i D σ H q)
variable{Y:Hp->Prop}
def slot:DE->Nat->Option EV
 |[],_=>none
 |x::_,0=>x
 |_::r,i+1=>slot r i
def uw:∀{L:DE}{i:Nat}{r:EV},slot L i=some r->L[i]?=some (some r)
 |[],_,_,h=>by cases h
 |x::_,0,_,h=>by cases h;rfl
 |_::l,i+1,r,h=>by rw[List.getElem?_cons_succ];exact uw (L:=l) h
def cv(i:Nat):TD:=λL U=>match slot L i with
 |some r=>U r
 |none=>False
def dC(d:D):TD:=λ_ U=>U (dv d)
variable{c e:Expr}{ta tb:TD}
def za(i:Nat)(hN:X.N[i]?=some x:=by rfl)(I:Vis X.env.scope x:=by walk_at "o")(Z:D_ x:=by decide)(q:(x==("__classdict__" : Str))=false:=by decide):ED Y X (.Name x pos) (cv i):=λH_=>impE (rk hN I Z q) λσ H Q h=>by
 obtain⟨L,o,R,U,j,k⟩:=h;cases e:slot L i with
 |none =>
  simp only[cv,e]at j
 |some r =>
  simp only[cv,e]at j;obtain⟨v,ev,h⟩:=R.slots i r (uw e);refine⟨v,ev,k v r H (Same.refl H) ?_ j⟩;obtain⟨kd,d⟩:=r;rcases h with⟨rfl,h⟩|⟨rfl,a,e1,m,c⟩
  ·exact h
  exact⟨a,e1,zah.mpr ⟨_,m,rfl⟩,c⟩
def ed_c(h:PE X x (tC v))(hr:∀ H O,Rep X.K H O d v):ED Y X x (dC d):=λH_=>impE h λσ H Q h=>by
 obtain⟨L,o,R,U,j,k⟩:=h;exact k v (dv d) H (Same.refl H) (hr H _) j
def zc {j pos}:ED Y X (.Constant (.int i) j pos) (dC (.int i)):=ed_c sr λ_ _=>rfl
def tw{b:Bool} {j pos}:ED Y X (.Constant (.bool b) j pos) (dC (.bl b)):=ed_c z4z λ_ _=>rfl
def Vs {j pos}:ED Y X (.Constant .none j pos) (dC .non):=ed_c z1o λ_ _=>rfl
def zg {j pos}:ED Y X (.Constant (.str x) j pos) (dC (.str x)):=ed_c Nq λ_ _=>rfl
structure GC(K:W.Frag)(mg:Str->Option Value)(x:Str)(d:D):Prop where
 ex:∃u v,mg x=some u/\RelV v u/\∀H O,Rep K H O d v
def cq(G:GC X.K X.mg x d)(q:Gl X x:=by rfl)(I:D_ x:=by decide):ED Y X (.Name x pos) (dC d):=by
 obtain⟨u,v,j,r,h⟩:=G.ex;exact ed_c (Yt q j r I) h
def Vq(I:X.mg x=none)(j:bootBuiltins x=some (.type n))(Z:Gl X x:=by rfl)(q:x≠"__name__":=by decide)(hd:D_ x:=by decide):ED Y X (.Name x pos) (dC (.ty n)) :=
 ed_c (Ce Z I j (v:=.ty n) rfl q hd) λ_ _=>rfl
def rg(K:W.Frag)(j:R2)(s:D->D->(EV->Prop)->Prop):Prop :=
 ∀(H:Hp)(O:List Addr)(x y:D)(vx vy:V)(U:EV->Prop)(Q:VK),(∀a,H a=none->a∉O)->View K H O x vx->View K H O y vy->s x y U ->
  (∀v r H',Same H H'->RV K H H' O r v->U r->Q v H')->j vx vy H Q
def d2(s:D->D->(EV->Prop)->Prop)(ta tb:TD):TD:=λL U=>ta L λx=>tb L λy=>s x.d y.d U
def Me{s:D->D->(EV->Prop)->Prop}(hl:rg X.K rr s):∀σ H Q,u7 X.K H_ (d2 s ta tb) σ H Q->tOp rr (u7 X.K H_ ta) (u7 X.K H_ tb) σ H Q:=λσ H Q h=>by
 obtain⟨L,o,R,U,I,k⟩:=h;refine⟨L,o,R,_,I,λv1 r1 H1 s1 q h1=>⟨L,o,R.to s1,_,h1,λZ r2 H2 s2 j h2=>?_⟩⟩;exact hl H2 _ r1.d r2.d v1 Z U Q (λa e=>R.ofree ((s1.trans s2).free e)) (q.same s2).view j.view h2 λv r H' s3 rv h=>k v r H' (s1.trans (s2.trans s3)) (rv.start (s1.trans s2)) h
def Y0{s:D->D->(EV->Prop)->Prop}(ho:OpR X (binaryOp op) rr)(hl:rg X.K rr s)(q:ED Y X a ta)(j:ED Y X b tb):ED Y X (.BinOp a op b pos) (d2 s ta tb):=λH_ =>
 impE (z1l ho (q H_) (j H_)) (Me hl)
def jq{s:D->D->(EV->Prop)->Prop}(ho:OpR X (compareOp op) rr)(hl:rg X.K rr s)(I:ED Y X a ta)(q:ED Y X b tb)(j:behindInMarks op b=false):ED Y X (.Compare a [op] [b] pos) (d2 s ta tb):=λH_ =>
 impE (Cd ho (I H_) (q H_) j) (Me hl)
def Cp:OpR X (binaryOp .Mult) (rI IntMulOk λi j=>.int (i*j)):=opI λ_ _ _ _ _ _ _ I q=>PyProof.Rows.mul_int q I
def FdOk(i j:Int):Prop:=j≠0/\j.natAbs.log2<9000
def Ji:OpR X (binaryOp .FloorDiv) (rI FdOk λi j=>.int (i.fdiv j)):=opI λ_ _ _ _ _ _ _ I q=>floordiv_int I.1 q (.inl (PyProof.noPylong_of_log2 I.2))
def sI(C:Int->Int->Prop)(g:Int->Int->D):D->D->(EV->Prop)->Prop:=λx y U=>match x,y with
 |.int i,.int j=>C i j/\U (dv (g i j))
 |_,_=>False
def Ma{K:W.Frag}{C:Int->Int->Prop}{g:Int->Int->D}{q:Int->Int->V}(hg:∀ i j H O,Rep K H O (g i j) (q i j)):rg K (rI C q) (sI C g):=by
 intro H O x y vx vy U Q ho Z I h k;unfold sI at h;split at h
 ·exact⟨_,_,Z,I,h.1,k _ _ H (Same.refl H) (by exact hg _ _ H O) h.2⟩
 exact h.elim
def sI0(g:Int->Int->D):D->D->(EV->Prop)->Prop:=λx y U=>match x,y with
 |.int i,.int j=>U (dv (g i j))
 |_,_=>False
def dm{K:W.Frag}{g:Int->Int->D}{q:Int->Int->V}(hg:∀ i j H O,Rep K H O (g i j) (q i j)):rg K (rI0 q) (sI0 g):=by
 intro H O x y vx vy U Q ho Z I h k;unfold sI0 at h;split at h
 ·exact⟨_,_,Z,I,k _ _ H (Same.refl H) (by exact hg _ _ H O) h⟩
 exact h.elim
abbrev sSub:=sI0 λi j=>.int (i-j)
abbrev sFd:=sI FdOk λi j=>.int (i.fdiv j)
abbrev sMod:=sI (λ_ j=>j≠0) λi j=>.int (i.fmod j)
abbrev sPow:=sI CPow λi j=>.int (i ^ j.toNat)
abbrev sLt:=sI0 λi j=>.bl (decide (i<j))
abbrev sGt:=sI0 λi j=>.bl (decide (j<i))
abbrev sGe:=sI0 λi j=>.bl (decide (j<=i))
def uk(q:ED Y X a ta)(j:ED Y X b tb):ED Y X (.BinOp a .Sub b pos) (d2 sSub ta tb):=Y0 z1s (dm λ_ _ _ _=>rfl) q j
def v5(q:ED Y X a ta)(j:ED Y X b tb):ED Y X (.BinOp a .FloorDiv b pos) (d2 sFd ta tb):=Y0 Ji (Ma λ_ _ _ _=>rfl) q j
def yj(q:ED Y X a ta)(j:ED Y X b tb):ED Y X (.BinOp a .Mod b pos) (d2 sMod ta tb):=Y0 Cq (Ma λ_ _ _ _=>rfl) q j
def cm(q:ED Y X a ta)(j:ED Y X b tb):ED Y X (.BinOp a .Pow b pos) (d2 sPow ta tb):=Y0 z1u (Ma λ_ _ _ _=>rfl) q j
def z5x(q:ED Y X a ta)(j:ED Y X b tb):ED Y X (.Compare a [.Gt] [b] pos) (d2 sGt ta tb):=jq Jh (dm λ_ _ _ _=>rfl) q j (rm _)
def z5y(q:ED Y X a ta)(j:ED Y X b tb):ED Y X (.Compare a [.GtE] [b] pos) (d2 sGe ta tb):=jq z5e (dm λ_ _ _ _=>rfl) q j (rm _)
def sAdd:D->D->(EV->Prop)->Prop:=λx y U=>match x,y with
 |.int i,.int j=>U (dv (.int (i+j)))
 |.str p,.str q=>p.length+q.length<=sizeLine/\U (dv (.str (p++q)))
 |.lst p,.lst q=>p.length+q.length<=sizeLine/\U (df (.lst (p++q)))
 |.tup p,.tup q=>p≠[]/\q≠[]/\p.length+q.length<=sizeLine/\U (dv (.tup (p++q)))
 |_,_=>False
def yh(h:H p=none)(o:HO):Same H (upd H p o):=λb u q=>by rw[zv (zp q h)];exact q
def J3{K:W.Frag}{H:Hp}{O:List Addr}{p:Addr}{o:HO}{ds:List D}{xs:List V}(j:H p=none)(r:Reps K H O ds xs):Reps K (upd H p o) O ds xs:=Reps.grow (Grow.same (yh j o)) _ _ r
def gy{o:HO}(j:H p=none):Grow O (p::O) H (upd H p o) :=
 ⟨λb u h n=>⟨yh j o b u h,λz=>(zam.mp z).elim (λe=>zp h j e) n⟩,λb xs h=>yh j o b _ h,λb q u h=>yh j o b _ h⟩
def fk{K:W.Frag}{H:Hp}{O:List Addr}{p:Addr}{ds:List D}{xs:List V}(ho:∀ a,H a=none->a∉O)(j:H p=none)(r:Reps K H O ds xs):RV K H (upd H p (.lst xs)) O (df (.lst ds)) (.ref p) :=
 ⟨p,rfl,j,ho p j,xs,zu,Reps.grow (gy j) _ _ r⟩
def Rf{K:W.Frag}{H:Hp}{O:List Addr}{p:Addr}{ds:List D}{xs:List V}(j:H p=none)(r:Reps K H O ds xs):RV K H (upd H p (.tup xs)) O (dv (.tup ds)) (.ref p) :=
 ⟨p,xs,rfl,⟨SqT.of zu,zu⟩,J3 j r⟩
def Jx:rg X.K (λx y H Q=>rI0 (λi j=>.int (i+j)) x y H Q\/(∃i j,x=.str i/\y=.str j/\i.length+j.length<=sizeLine/\Q (.str (i++j)) H)\/rCat x y H Q\/z1a X.K x y H Q) sAdd:=by
 intro H O x y vx vy U Q ho hx Z h k;unfold sAdd at h;split at h
 ·exact .inl ⟨_,_,hx,Z,k _ _ H (Same.refl H) (by exact rfl) h⟩
 ·exact .inr (.inl ⟨_,_,hx,Z,h.1,k _ _ H (Same.refl H) (by exact rfl) h.2⟩)
 ·obtain⟨a1,xs,rfl,q1,q⟩:=hx;obtain⟨a2,ys,rfl,q2,r2⟩:=Z;refine .inr (.inr (.inl ⟨a1,a2,xs,ys,rfl,rfl,q1,q2,by rw[q.length,r2.length];exact h.1,λp hp=>?_⟩))
  exact k _ _ _ (yh hp _) (fk ho hp (q.append r2)) h.2
 ·obtain⟨n1,n2,hz,hp⟩:=h;obtain⟨a1,xs,rfl,q1,q⟩:=hx;obtain⟨a2,ys,rfl,q2,r2⟩:=Z;refine .inr (.inr (.inr ⟨a1,a2,xs,ys,rfl,rfl,q1.1,q2.1,?_,by rw[q.length,r2.length];exact hz,λz=>?_,λ_ p I=>?_⟩))
  ·intro z;have e:=q.length;rw[z]at e;exact n1 (List.eq_nil_of_length_eq_zero e.symm)
  ·exfalso;have e:=r2.length;rw[z]at e;exact n2 (List.eq_nil_of_length_eq_zero e.symm)
  exact k _ _ _ (yh I _) (Rf I (q.append r2)) hp
 exact h.elim
def yb(q:ED Y X a ta)(j:ED Y X b tb):ED Y X (.BinOp a .Add b pos) (d2 sAdd ta tb):=Y0 (z2a.or (Qv.or (z1z.or Nu))) Jx q j
def sMul:D->D->(EV->Prop)->Prop:=λx y U=>match x,y with
 |.int i,.int j=>IntMulOk i j/\U (dv (.int (i*j)))
 |.lst p,.int k=>-(2 ^ 63)<=k/\k<2 ^ 63/\p.length*k.toNat<=sizeLine/\U (df (.lst (List.replicate k.toNat p).flatten))
 |_,_=>False
mutual
def eqD:D->D->Bool
 |.non,.non=>true
 |.bl a,.bl b=>a==b
 |.bl a,.int b=>(if a then 1 else 0)==b
 |.int a,.bl b=>a==(if b then 1 else 0)
 |.int a,.int b=>a==b
 |.str a,.str b=>a==b
 |.tup a,.tup b=>eqDs a b
 |.lst a,.lst b=>eqDs a b
 |_,_=>false
def eqDs:List D->List D->Bool
 |[],[]=>true
 |a::as,b::bs=>eqD a b&&eqDs as bs
 |_,_=>false
end
def okD:Nat->D->Prop
 |0,d=>match d with
  |.non=>True
  |.bl _=>True
  |.int _=>True
  |.str _=>True
  |_=>False
 |n+1,d=>match d with
  |.non=>True
  |.bl _=>True
  |.int _=>True
  |.str _=>True
  |.tup ds=>∀x∈ds,okD n x
  |.lst ds=>∀x∈ds,okD n x
  |_=>False
theorem qz:∀{ds es:List D},eqDs ds es=true ↔ ds.length=es.length/\∀(j:Nat)(x y:D),ds[j]?=some x->es[j]?=some y->eqD x y=true
 |[],[]=>by simp[eqDs]
 |[],y::es=>by simp[eqDs]
 |x::ds,[]=>by simp[eqDs]
 |x::ds,y::es=>by
  rw[eqDs,Bool.and_eq_true,qz];constructor
  ·rintro⟨h,hl,q⟩;refine⟨by simp[hl],λj a b Z I=>?_⟩
   cases j with
   |zero=>simp at Z I;subst Z I;exact h
   |succ j=>exact q j a b (by simpa using Z) (by simpa using I)
  rintro⟨hl,q⟩;exact⟨q 0 x y rfl rfl,by simpa using hl,λj a b Z I=>q (j+1) a b (by simpa using Z) (by simpa using I)⟩
def jc(ds es:List D):eqDs ds es=((List.range (min ds.length es.length)).all (λj=>eqD (ds.getD j .non) (es.getD j .non))&&ds.length==es.length):=by
 rw[Bool.eq_iff_iff,qz,Bool.and_eq_true,List.all_eq_true];constructor
 ·rintro⟨hl,q⟩;refine⟨λj hj=>?_,by simp[hl]⟩
  have a0:=List.mem_range.mp hj;have h1:j<ds.length:=by omega
  have h2:j<es.length:=by omega
  have e1:ds[j]?=some ds[j]:=by simp[h1]
  have e2:es[j]?=some es[j]:=by simp[h2]
  have:=q j _ _ e1 e2;simpa [List.getD,e1,e2] using this
 rintro⟨q,hl⟩;have I:ds.length=es.length:=by simpa using hl
 refine⟨I,λj x y Z hy=>?_⟩;have h1:=(zag.mp Z).1;have:=q j (List.mem_range.mpr (by omega))
 simpa [List.getD,Z,hy] using this
def Q3:∀(n:Nat)(d:D),okD n d->eqD d d=true:=by
 intro n
 induction n with
 |zero=>intro d h;cases d <;> first|exact h.elim|simp[eqD]
 |succ n ih =>
  intro d h;cases d with
  |tup ds =>
   show eqDs ds ds=true;refine qz.mpr ⟨rfl,λj x y I q=>?_⟩;rw[I]at q;cases q;exact ih x (h x (zan I))
  |lst ds =>
   show eqDs ds ds=true;refine qz.mpr ⟨rfl,λj x y I q=>?_⟩;rw[I]at q;cases q;exact ih x (h x (zan I))
  |dk _ _=>exact h.elim
  |ty _=>exact h.elim
  |cn _=>exact h.elim
  |scr _=>exact h.elim
  |exc _=>exact h.elim
  |fd _=>exact h.elim
  |_=>simp[eqD]
def Rep.inj(I:Inv X pn σ H s):∀(n:Nat)(d e:D)(v:V),okD n d->okD n e->Rep X.K H [] d v->Rep X.K H [] e v->d=e:=by
 intro n
 induction n with
 |zero =>
  intro d e v hd j h1 h2;cases d <;> first|exact hd.elim|(cases e <;> first|exact j.elim|(have z:=(show v=_ from h1).symm.trans (show v=_ from h2);first|rfl|(injection z with z;rw[z])|cases z))
 |succ n ih =>
  have a0:∀(ds es:List D)(xs:List V),(∀x∈ds,okD n x)->(∀x∈es,okD n x)->Reps X.K H [] ds xs->Reps X.K H [] es xs->ds=es:=by
   intro ds
   induction ds with
   |nil =>
    intro es xs _ _ r1 r2;have:=r1.length;have h2:=r2.length;rw[this]at h2;exact(List.eq_nil_of_length_eq_zero h2.symm).symm
   |cons d ds ih2 =>
    intro es xs h1 h2 r1 r2;obtain⟨v,r,rfl,q,t⟩:=r1;cases es with
    |nil=>cases r2
    |cons e es =>
     obtain⟨v',r',Z,q',t'⟩:=r2;cases Z;rw[ih d e v (h1 d (zao ..)) (h2 e (zao ..)) q q',ih2 es r (λx hx=>h1 x (zal _ hx)) (λx hx=>h2 x (zal _ hx)) t t']
  intro d e v hd j h1 h2;have a1:∀(a:Addr)(xs ys:List V),SqT X.K H a xs->H a=some (.lst ys)->False:=λa xs ys q1 q2=>by
   obtain⟨its,_,p1,_⟩:=I.tuple q1;obtain⟨a2,_,p2,_⟩:=I.list (SqL.of q2);exact SeqAt.ne_of_list_tuple p2.isList (show s.heap.IsTuple a its.toArray from p1) rfl
  cases d with
  |tup ds =>
   obtain⟨a,xs,rfl,q1,r1⟩:=h1;cases e with
   |tup es =>
    obtain⟨a',ys,Z,q2,r2⟩:=h2;cases Z;have:=I.tuple_inj q1.1 q2.1;subst this;rw[a0 ds es xs hd j r1 r2]
   |lst es =>
    obtain⟨a',ys,Z,q2,_,r2⟩:=h2;cases Z;exact(a1 _ _ _ q1.1 q2).elim
   |dk _ _=>exact j.elim
   |scr _=>exact j.elim
   |exc _=>exact j.elim
   |fd _=>exact j.elim
   |ty _=>exact j.elim
   |cn _=>exact j.elim
   |_=>cases (show V.ref a=_ from h2)
  |lst ds =>
   obtain⟨a,xs,rfl,q1,_,r1⟩:=h1;cases e with
   |tup es =>
    obtain⟨a',ys,Z,q2,r2⟩:=h2;cases Z;exact(a1 _ _ _ q2.1 q1).elim
   |lst es =>
    obtain⟨a',ys,Z,q2,_,r2⟩:=h2;cases Z;have:=I.list_inj (SqL.of q1) (SqL.of q2);subst this;rw[a0 ds es xs hd j r1 r2]
   |dk _ _=>exact j.elim
   |scr _=>exact j.elim
   |exc _=>exact j.elim
   |fd _=>exact j.elim
   |ty _=>exact j.elim
   |cn _=>exact j.elim
   |_=>cases (show V.ref a=_ from h2)
  |dk _ _=>exact hd.elim
  |scr _=>exact hd.elim
  |exc _=>exact hd.elim
  |fd _=>exact hd.elim
  |ty _=>exact hd.elim
  |cn _=>exact hd.elim
  |non =>
   cases e with
   |tup es=>obtain⟨a',ys,Z,_⟩:=h2;cases (show v=_ from h1);cases Z
   |lst es=>obtain⟨a',ys,Z,_⟩:=h2;cases (show v=_ from h1);cases Z
   |dk _ _=>exact j.elim
   |scr _=>exact j.elim
   |exc _=>exact j.elim
   |fd _=>exact j.elim
   |ty _=>exact j.elim
   |cn _=>exact j.elim
   |non=>rfl
   |_=>cases (show v=_ from h1);cases (show V.non=_ from h2)
  |bl b =>
   cases e with
   |tup es=>obtain⟨a',ys,Z,_⟩:=h2;cases (show v=_ from h1);cases Z
   |lst es=>obtain⟨a',ys,Z,_⟩:=h2;cases (show v=_ from h1);cases Z
   |dk _ _=>exact j.elim
   |scr _=>exact j.elim
   |exc _=>exact j.elim
   |fd _=>exact j.elim
   |ty _=>exact j.elim
   |cn _=>exact j.elim
   |_=>cases (show v=_ from h1);cases (show V.bl b=_ from h2) <;> rfl
  |int b =>
   cases e with
   |tup es=>obtain⟨a',ys,Z,_⟩:=h2;cases (show v=_ from h1);cases Z
   |lst es=>obtain⟨a',ys,Z,_⟩:=h2;cases (show v=_ from h1);cases Z
   |dk _ _=>exact j.elim
   |scr _=>exact j.elim
   |exc _=>exact j.elim
   |fd _=>exact j.elim
   |ty _=>exact j.elim
   |cn _=>exact j.elim
   |_=>cases (show v=_ from h1);cases (show V.int b=_ from h2) <;> rfl
  |str b =>
   cases e with
   |tup es=>obtain⟨a',ys,Z,_⟩:=h2;cases (show v=_ from h1);cases Z
   |lst es=>obtain⟨a',ys,Z,_⟩:=h2;cases (show v=_ from h1);cases Z
   |dk _ _=>exact j.elim
   |scr _=>exact j.elim
   |exc _=>exact j.elim
   |fd _=>exact j.elim
   |ty _=>exact j.elim
   |cn _=>exact j.elim
   |_=>cases (show v=_ from h1);cases (show V.str b=_ from h2) <;> rfl
inductive Sh(K:W.Frag)(H:Hp)(s:Shared):D->Value->Prop where
 |non:Sh K H s .non .none
 |bl (b:Bool):Sh K H s (.bl b) (.bool b)
 |int (i:Int) (t:Tok):Sh K H s (.int i) (.int i t)
 |str (x:Str) (t:Tok):Sh K H s (.str x) (.str x t)
 |tup {a:Addr} {ds:List D} {xs:List V} {its:List Value} (p:s.heap.IsTuple a its.toArray) (r:Vals xs its) (q:Reps K H [] ds xs):Sh K H s (.tup ds) (.ref a)
 |lst {a:Addr} {ds:List D} {xs:List V} {its:List Value} (p:s.heap.IsList a its.toArray) (r:Vals xs its) (q:Reps K H [] ds xs):Sh K H s (.lst ds) (.ref a)
def jx(I:Inv X pn σ H s)(j:okD n d)(h:Rep X.K H [] d x)(r:RelV x u):Sh X.K H s d u:=by
 cases d with
 |non=>cases (show x=_ from h);cases r;exact .non
 |bl b=>cases (show x=_ from h);cases r;exact .bl b
 |int b=>cases (show x=_ from h);obtain⟨t,rfl⟩:=r;exact .int b t
 |str b=>cases (show x=_ from h);obtain⟨t,rfl⟩:=r;exact .str b t
 |ty _=>cases n <;> exact j.elim
 |cn _=>cases n <;> exact j.elim
 |dk _ _=>cases n <;> exact j.elim
 |scr _=>cases n <;> exact j.elim
 |exc _=>cases n <;> exact j.elim
 |fd _=>cases n <;> exact j.elim
 |tup ds =>
  obtain⟨a,xs,rfl,q,t⟩:=h;cases r;obtain⟨its,Z,p,_⟩:=I.tuple q.1;exact .tup (show s.heap.IsTuple a its.toArray from p) Z t
 |lst ds =>
  obtain⟨a,xs,rfl,q,_,t⟩:=h;cases r;obtain⟨its,Z,p,_⟩:=I.list (SqL.of q);exact .lst p.isList Z t
def L1(I:Inv X pn σ H s):∀(n:Nat)(d e:D)(x y:V)(u v:Value)(A:Around),okD n d->okD n e->Rep X.K H [] d x->Rep X.K H [] e y->RelV x u->RelV y v->A.units+n<cLine ->
  SeqAt.RcAt A s u v (eqD d e)/\SeqAt.RcNeAt A s u v (!eqD d e)/\SeqAt.EqAt A s u v (eqD d e):=by
 intro n
 induction n with
 |zero =>
  intro d e x y u v A hd he h1 h2 r1 r2 hu;have Z:A.units<cLine:=by omega
  cases jx I hd h1 r1 with
  |tup=>exact hd.elim
  |lst=>exact hd.elim
  |non =>
   cases jx I he h2 r2 with
   |non=>exact⟨SeqAt.RcAt.none_none,SeqAt.RcNeAt.none_none,SeqAt.EqAt.same _⟩
   |bl b=>exact⟨SeqAt.RcAt.none_bool b,SeqAt.RcNeAt.none_bool b,SeqAt.EqAt.none_bool b⟩
   |int i t=>exact⟨SeqAt.RcAt.none_int i t,SeqAt.RcNeAt.none_int i t,SeqAt.EqAt.none_int i t⟩
   |str i t=>exact⟨SeqAt.RcAt.none_str i t,SeqAt.RcNeAt.none_str i t,SeqAt.EqAt.none_str i t⟩
   |tup=>exact he.elim
   |lst=>exact he.elim
  |bl a =>
   cases jx I he h2 r2 with
   |non=>exact⟨SeqAt.RcAt.bool_none a,SeqAt.RcNeAt.bool_none a,SeqAt.EqAt.bool_none a⟩
   |bl b=>exact⟨SeqAt.RcAt.bool_bool a b,SeqAt.RcNeAt.bool_bool a b,SeqAt.EqAt.bool_bool a b⟩
   |int i t=>exact⟨SeqAt.RcAt.bool_int a i t,SeqAt.RcNeAt.bool_int a i t,SeqAt.EqAt.bool_int a i t⟩
   |str i t=>exact⟨SeqAt.RcAt.bool_str a i t,SeqAt.RcNeAt.bool_str a i t,SeqAt.EqAt.bool_str a i t⟩
   |tup=>exact he.elim
   |lst=>exact he.elim
  |int a t =>
   cases jx I he h2 r2 with
   |non=>exact⟨SeqAt.RcAt.int_none a t,SeqAt.RcNeAt.int_none a t,SeqAt.EqAt.int_none a t⟩
   |bl b=>exact⟨SeqAt.RcAt.int_bool a t b,SeqAt.RcNeAt.int_bool a t b,SeqAt.EqAt.int_bool a t b⟩
   |int i t'=>exact⟨SeqAt.RcAt.int_int a t i t',SeqAt.RcNeAt.int_int a t i t',SeqAt.EqAt.int_int a t i t'⟩
   |str i t'=>exact⟨SeqAt.RcAt.int_str a t i t',SeqAt.RcNeAt.int_str a t i t',SeqAt.EqAt.int_str a t i t'⟩
   |tup=>exact he.elim
   |lst=>exact he.elim
  |str a t =>
   cases jx I he h2 r2 with
   |non=>exact⟨SeqAt.RcAt.str_none a t,SeqAt.RcNeAt.str_none a t,SeqAt.EqAt.str_none a t⟩
   |bl b=>exact⟨SeqAt.RcAt.str_bool a t b,SeqAt.RcNeAt.str_bool a t b,SeqAt.EqAt.str_bool a t b⟩
   |int i t'=>exact⟨SeqAt.RcAt.str_int a t i t',SeqAt.RcNeAt.str_int a t i t',SeqAt.EqAt.str_int a t i t'⟩
   |str i t'=>exact⟨SeqAt.RcAt.str_str a t i t',SeqAt.RcNeAt.str_str a t i t',SeqAt.EqAt.str_str a t i t'⟩
   |tup=>exact he.elim
   |lst=>exact he.elim
 |succ n ih =>
  intro d e x y u v A hd he h1 h2 r1 r2 hu;have Z:A.units<cLine:=by omega
  have a5:A.in1.units+n<cLine:=by
   have:A.in1.units=A.units+1:=rfl;omega
  have refs:∀{l b:Addr}{k:Bool},u=.ref l->v=.ref b->k=eqD d e->SeqAt.RcAt A s (.ref l) (.ref b) k->SeqAt.EqAt A s (.ref l) (.ref b) k:=λ{l b k} e1 e2 ek h=>by
   by_cases hlb:l=b
   ·subst hlb;have hv:x=y:=by
     have z1:x=.ref l:=by
      cases x <;> subst e1 <;> first|(have:=(show Value.ref l=Value.ref _ from r1);cases this;rfl)|(obtain⟨t,z⟩:=r1;cases z)|cases r1
     have z2:y=.ref l:=by
      cases y <;> subst e2 <;> first|(have:=(show Value.ref l=Value.ref _ from r2);cases this;rfl)|(obtain⟨t,z⟩:=r2;cases z)|cases r2
     rw[z1,z2]
    subst hv;have a6:=Rep.inj I (n+1) d e x hd he h1 h2;subst a6;rw[ek,Q3 (n+1) d hd];exact SeqAt.EqAt.same _
   exact SeqAt.EqAt.of_refs hlb h
  have a1:∀{ds es:List D}{xs ys:List V}{its a0:List Value},(∀z∈ds,okD n z)->(∀z∈es,okD n z)->Reps X.K H [] ds xs->Reps X.K H [] es ys->Vals xs its->Vals ys a0 ->
    ∀j (h1:j<its.toArray.size) (h2:j<a0.toArray.size),SeqAt.EqAt A.in1 s its.toArray[j] a0.toArray[j] (eqD (ds.getD j .non) (es.getD j .non)):=λ{ds es xs ys its a0} o1 o2 q1 q2 w1 w2 j h1 h2=>by
   have l1:=w1.length;have l2:=w2.length;have k1:=q1.length;have k2:=q2.length;have g1:j<ds.length:=by simp at h1;omega
   have g2:j<es.length:=by simp at h2;omega
   have e1:ds[j]?=some ds[j]:=by simp[g1]
   have e2:es[j]?=some es[j]:=by simp[g2]
   obtain⟨x',ex,rx⟩:=q1.get e1;obtain⟨y',ey,ry⟩:=q2.get e2;obtain⟨u',eu,ru⟩:=w1.get ex;obtain⟨v',ev,rv⟩:=w2.get ey;have f1:its.toArray[j]=u':=by
    have:=(zag.mp eu).2;simpa using this
   have f2:a0.toArray[j]=v':=by
    have:=(zag.mp ev).2;simpa using this
   rw[f1,f2,show ds.getD j .non=ds[j] by simp[List.getD,e1],show es.getD j .non=es[j] by simp[List.getD,e2]]
   exact(ih ds[j] es[j] x' y' u' v' A.in1 (o1 _ (List.getElem_mem g1)) (o2 _ (List.getElem_mem g2)) rx ry ru rv a5).2.2
  cases jx I hd h1 r1 with
  |non =>
   cases jx I he h2 r2 with
   |non=>exact⟨SeqAt.RcAt.none_none,SeqAt.RcNeAt.none_none,SeqAt.EqAt.same _⟩
   |bl b=>exact⟨SeqAt.RcAt.none_bool b,SeqAt.RcNeAt.none_bool b,SeqAt.EqAt.none_bool b⟩
   |int i t=>exact⟨SeqAt.RcAt.none_int i t,SeqAt.RcNeAt.none_int i t,SeqAt.EqAt.none_int i t⟩
   |str i t=>exact⟨SeqAt.RcAt.none_str i t,SeqAt.RcNeAt.none_str i t,SeqAt.EqAt.none_str i t⟩
   |tup p _ _=>exact⟨SeqAt.RcAt.none_tuple p Z,SeqAt.RcNeAt.none_tuple p Z,SeqAt.EqAt.none_tuple p Z⟩
   |lst p _ _=>exact⟨SeqAt.RcAt.none_list p Z,SeqAt.RcNeAt.none_list p Z,SeqAt.EqAt.none_list p Z⟩
  |bl a =>
   cases jx I he h2 r2 with
   |non=>exact⟨SeqAt.RcAt.bool_none a,SeqAt.RcNeAt.bool_none a,SeqAt.EqAt.bool_none a⟩
   |bl b=>exact⟨SeqAt.RcAt.bool_bool a b,SeqAt.RcNeAt.bool_bool a b,SeqAt.EqAt.bool_bool a b⟩
   |int i t=>exact⟨SeqAt.RcAt.bool_int a i t,SeqAt.RcNeAt.bool_int a i t,SeqAt.EqAt.bool_int a i t⟩
   |str i t=>exact⟨SeqAt.RcAt.bool_str a i t,SeqAt.RcNeAt.bool_str a i t,SeqAt.EqAt.bool_str a i t⟩
   |tup p _ _=>exact⟨SeqAt.RcAt.bool_tuple a p Z,SeqAt.RcNeAt.bool_tuple a p Z,SeqAt.EqAt.bool_tuple a p Z⟩
   |lst p _ _=>exact⟨SeqAt.RcAt.bool_list a p Z,SeqAt.RcNeAt.bool_list a p Z,SeqAt.EqAt.bool_list a p Z⟩
  |int a t =>
   cases jx I he h2 r2 with
   |non=>exact⟨SeqAt.RcAt.int_none a t,SeqAt.RcNeAt.int_none a t,SeqAt.EqAt.int_none a t⟩
   |bl b=>exact⟨SeqAt.RcAt.int_bool a t b,SeqAt.RcNeAt.int_bool a t b,SeqAt.EqAt.int_bool a t b⟩
   |int i t'=>exact⟨SeqAt.RcAt.int_int a t i t',SeqAt.RcNeAt.int_int a t i t',SeqAt.EqAt.int_int a t i t'⟩
   |str i t'=>exact⟨SeqAt.RcAt.int_str a t i t',SeqAt.RcNeAt.int_str a t i t',SeqAt.EqAt.int_str a t i t'⟩
   |tup p _ _=>exact⟨SeqAt.RcAt.int_tuple a t p Z,SeqAt.RcNeAt.int_tuple a t p Z,SeqAt.EqAt.int_tuple a t p Z⟩
   |lst p _ _=>exact⟨SeqAt.RcAt.int_list a t p Z,SeqAt.RcNeAt.int_list a t p Z,SeqAt.EqAt.int_list a t p Z⟩
  |str a t =>
   cases jx I he h2 r2 with
   |non=>exact⟨SeqAt.RcAt.str_none a t,SeqAt.RcNeAt.str_none a t,SeqAt.EqAt.str_none a t⟩
   |bl b=>exact⟨SeqAt.RcAt.str_bool a t b,SeqAt.RcNeAt.str_bool a t b,SeqAt.EqAt.str_bool a t b⟩
   |int i t'=>exact⟨SeqAt.RcAt.str_int a t i t',SeqAt.RcNeAt.str_int a t i t',SeqAt.EqAt.str_int a t i t'⟩
   |str i t'=>exact⟨SeqAt.RcAt.str_str a t i t',SeqAt.RcNeAt.str_str a t i t',SeqAt.EqAt.str_str a t i t'⟩
   |tup p _ _=>exact⟨SeqAt.RcAt.str_tuple a t p Z,SeqAt.RcNeAt.str_tuple a t p Z,SeqAt.EqAt.str_tuple a t p Z⟩
   |lst p _ _=>exact⟨SeqAt.RcAt.str_list a t p Z,SeqAt.RcNeAt.str_list a t p Z,SeqAt.EqAt.str_list a t p Z⟩
  |@tup l ds xs its p r q =>
   cases jx I he h2 r2 with
   |non=>exact⟨SeqAt.RcAt.tuple_none p Z,SeqAt.RcNeAt.tuple_none p Z,SeqAt.EqAt.tuple_none p Z⟩
   |bl b=>exact⟨SeqAt.RcAt.tuple_bool b p Z,SeqAt.RcNeAt.tuple_bool b p Z,SeqAt.EqAt.tuple_bool b p Z⟩
   |int i t=>exact⟨SeqAt.RcAt.tuple_int i t p Z,SeqAt.RcNeAt.tuple_int i t p Z,SeqAt.EqAt.tuple_int i t p Z⟩
   |str i t=>exact⟨SeqAt.RcAt.tuple_str i t p Z,SeqAt.RcNeAt.tuple_str i t p Z,SeqAt.EqAt.tuple_str i t p Z⟩
   |lst p2 _ _=>exact⟨SeqAt.RcAt.tuple_list p p2 Z,SeqAt.RcNeAt.tuple_list p p2 Z,SeqAt.EqAt.tuple_list p p2 Z⟩
   |@tup b es ys a0 p2 r' q' =>
    have e1:its.toArray.size=ds.length:=by rw[zap,<- r.length,q.length]
    have e2:a0.toArray.size=es.length:=by rw[zap,<- r'.length,q'.length]
    have ek:eqD (.tup ds) (.tup es)=((List.range (min its.toArray.size a0.toArray.size)).all (λj=>eqD (ds.getD j .non) (es.getD j .non))&&its.toArray.size==a0.toArray.size):=by
     rw[e1,e2];exact jc ds es
    rw[ek];have a2:=SeqAt.RcAt.tuples p p2 Z (a1 hd he q q' r r');exact⟨a2,SeqAt.RcNeAt.tuples p p2 Z (a1 hd he q q' r r'),refs rfl rfl ek.symm a2⟩
  |@lst l ds xs its p r q =>
   cases jx I he h2 r2 with
   |non=>exact⟨SeqAt.RcAt.list_none p Z,SeqAt.RcNeAt.list_none p Z,SeqAt.EqAt.list_none p Z⟩
   |bl b=>exact⟨SeqAt.RcAt.list_bool b p Z,SeqAt.RcNeAt.list_bool b p Z,SeqAt.EqAt.list_bool b p Z⟩
   |int i t=>exact⟨SeqAt.RcAt.list_int i t p Z,SeqAt.RcNeAt.list_int i t p Z,SeqAt.EqAt.list_int i t p Z⟩
   |str i t=>exact⟨SeqAt.RcAt.list_str i t p Z,SeqAt.RcNeAt.list_str i t p Z,SeqAt.EqAt.list_str i t p Z⟩
   |tup p2 _ _=>exact⟨SeqAt.RcAt.list_tuple p p2 Z,SeqAt.RcNeAt.list_tuple p p2 Z,SeqAt.EqAt.list_tuple p p2 Z⟩
   |@lst b es ys a0 p2 r' q' =>
    have e1:its.toArray.size=ds.length:=by rw[zap,<- r.length,q.length]
    have e2:a0.toArray.size=es.length:=by rw[zap,<- r'.length,q'.length]
    by_cases hsz:its.toArray.size=a0.toArray.size
    ·have ek:eqD (.lst ds) (.lst es)=(List.range its.toArray.size).all (λj=>eqD (ds.getD j .non) (es.getD j .non)):=by
      show eqDs ds es=_;rw[jc,<- e1,<- e2,<- hsz];simp
     rw[ek];have a2:=SeqAt.RcAt.lists p p2 hsz Z (a1 hd he q q' r r');exact⟨a2,SeqAt.RcNeAt.lists p p2 hsz Z (a1 hd he q q' r r'),refs rfl rfl ek.symm a2⟩
    have ek:eqD (.lst ds) (.lst es)=false:=by
     show eqDs ds es=_;have hb:(its.toArray.size==a0.toArray.size)=false:=beq_eq_false_iff_ne.mpr hsz;rw[jc,<- e1,<- e2,hb,Bool.and_false]
    rw[ek];have a4:(its.toArray.size != a0.toArray.size)=true:=by simpa using hsz
    have a2:=SeqAt.RcAt.lists_lengths p p2 a4 Z;exact⟨a2,SeqAt.RcNeAt.lists_lengths p p2 a4 Z,refs rfl rfl ek.symm a2⟩
def rEqD(K:W.Frag)(j:Bool):R2:=λx y H Q=>∃d e,Rep K H [] d x/\Rep K H [] e y/\okD 40 d/\okD 40 e/\Q (.bl (if j then !eqD d e else eqD d e)) H
def Fu(hu:X.A.units+64<cLine):OpR X (compareOp .Eq) (rEqD X.K false):=by
 intro pn s σ H x y v u Q I Z j h;obtain⟨d,e,h1,h2,o1,o2,q⟩:=h;exact(L1 I 40 d e x y v u X.A o1 o2 h1 h2 Z j (by omega)).1 X.prog X.w X.xe _ ⟨.bl _,H,I,rfl,q⟩
def z1v(hu:X.A.units+64<cLine):OpR X (compareOp .NotEq) (rEqD X.K true):=by
 intro pn s σ H x y v u Q I Z j h;obtain⟨d,e,h1,h2,o1,o2,q⟩:=h;exact(L1 I 40 d e x y v u X.A o1 o2 h1 h2 Z j (by omega)).2.1 X.prog X.w X.xe _ ⟨.bl _,H,I,rfl,q⟩
def sEq:D->D->(EV->Prop)->Prop:=λx y U=>okD 40 x/\okD 40 y/\U (dv (.bl (eqD x y)))
def sNe:D->D->(EV->Prop)->Prop:=λx y U=>okD 40 x/\okD 40 y/\U (dv (.bl (!eqD x y)))
def Xr(hu:X.A.units+64<cLine)(Z:ED Y X a ta)(I:ED Y X b tb):ED Y X (.Compare a [.Eq] [b] pos) (d2 sEq ta tb) :=
 jq (Fu hu) (λH O x y vx vy U Q ho q j h k=>⟨x,y,q.rep0,j.rep0,h.1,h.2.1,k _ _ H (Same.refl H) (by exact rfl) h.2.2⟩) Z I (rm _)
section
variable{es:List Expr}{te:TD}{t:TDs}
def Jr:rg X.K (λx y H Q=>rI IntMulOk (λi j=>.int (i*j)) x y H Q\/rRep x y H Q) sMul:=by
 intro H O x y vx vy U Q ho Z I h k;unfold sMul at h;split at h
 ·exact .inl ⟨_,_,Z,I,h.1,k _ _ H (Same.refl H) (by exact rfl) h.2⟩
 ·obtain⟨h1,h2,h3,h4⟩:=h;obtain⟨a1,xs,rfl,q1,q⟩:=Z;refine .inr ⟨a1,_,xs,rfl,I,q1,h1,h2,by rw[q.length];exact h3,λp hp=>?_⟩
  exact k _ _ _ (yh hp _) (fk ho hp (q.rep _)) h4
 exact h.elim
def Zz(q:ED Y X a ta)(j:ED Y X b tb):ED Y X (.BinOp a .Mult b pos) (d2 sMul ta tb):=Y0 (Cp.or z1t) Jr q j
def sNeg:D->(EV->Prop)->Prop:=λx U=>match x with
 |.int i=>U (dv (.int (-i)))
 |_=>False
def d1(s:D->(EV->Prop)->Prop)(ta:TD):TD:=λL U=>ta L λx=>s x.d U
def Q5(ha:ED Y X a ta):ED Y X (.UnaryOp .USub a pos) (d1 sNeg ta):=λH_=>impE (Cb Ob (ha H_)) λσ H Q h=>by
 obtain⟨L,o,R,U,q,k⟩:=h;refine⟨L,o,R,_,q,λv1 I H1 s1 j h1=>?_⟩;obtain⟨kd,d⟩:=I;have Z:=j.view;cases d with
 |int i=>exact⟨i,Z,k _ _ H1 s1 (by exact rfl) h1⟩
 |_=>exact h1.elim
def truD:D->Option Bool
 |.non=>some false
 |.bl b=>some b
 |.int i=>some (i != 0)
 |.str x=>if x.length<=sizeLine then some ((x.length:Int) != 0) else none
 |.lst ds=>some (!ds.isEmpty)
 |.scr ns=>some (!ns.isEmpty)
 |.tup ds=>some (!ds.isEmpty)
 |.dk _ ds=>some (!ds.isEmpty)
 |.ty _=>none
 |.cn _=>none
 |.exc _=>none
 |.fd _=>none
def jp{K:W.Frag}{H:Hp}{O:List Addr}{ds:List D}{xs:List V}(r:Reps K H O ds xs):xs.isEmpty=ds.isEmpty:=by
 have:=r.length;cases xs <;> cases ds <;> simp_all
def Ki{K:W.Frag}{H:Hp}{O:List Addr}{d:D}{v:V}{b:Bool}(h:View K H O d v)(e:truD d=some b):TruV K v H b:=by
 cases d with
 |non=>cases (show v=_ from h);cases e;rfl
 |bl i=>cases (show v=_ from h);cases e;rfl
 |int i=>cases (show v=_ from h);cases e;rfl
 |str x =>
  cases (show v=_ from h)
  have j:(if x.length<=sizeLine then some ((x.length:Int) != 0) else none)=some b:=e
  split at j
  ·rename_i hz;cases j;exact⟨hz,rfl⟩
  cases j
 |ty _=>cases e
 |cn _=>cases e
 |exc _=>cases e
 |fd _=>cases e
 |lst ds =>
  obtain⟨a,xs,rfl,q,r⟩:=h;cases e;exact .inl ⟨xs,SqL.of q,by rw[jp r]⟩
 |scr ns =>
  obtain⟨a,rfl,q⟩:=h;cases e;exact .inl ⟨_,q.seq,by cases ns <;> rfl⟩
 |tup ds =>
  obtain⟨a,xs,rfl,q,r⟩:=h;cases e;exact .inr (.inl ⟨xs,q.1,by rw[jp r]⟩)
 |dk ks ds =>
  obtain⟨a,xs,rfl,q,l,_,r⟩:=h;cases e;refine .inr (.inr ⟨_,q,?_⟩);have:=r.length;cases ks <;> cases ds <;> cases xs <;> simp_all
def tTru(t:TD):TDb:=λL U=>t L λr=>match truD r.d with
 |some b=>U b
 |none=>False
def wg(h:ED Y X a ta)(he:∀ whole,isTrue a X.env whole=(do let v <- whole;standAt a.pos;holding [v] (truthy v)):=by intro _;rfl):ET Y X a (tTru ta):=λH_=>impT (J6 (h H_) he) λσ H Q q=>by
 obtain⟨L,o,R,U,I,k⟩:=q;refine⟨L,o,R,_,I,λv1 Z H1 s1 j h1=>?_⟩;cases e:truD Z.d with
 |none=>simp only[e]at h1
 |some b =>
  simp only[e]at h1;exact⟨b,Ki j.view e,k b H1 s1 h1⟩
def tBo(t:TD):TDb:=λL U=>t L λr=>match r.d with
 |.bl b=>U b
 |_=>False
def qy{s:D->D->(EV->Prop)->Prop}(ho:OpR X (compareOp op) rr)(hl:rg X.K rr s)(ha:ED Y X a ta)(Z:ED Y X b tb)(I:behindInMarks op b=false):ET Y X (.Compare a [op] [b] pos) (tBo (d2 s ta tb)):=λH_ =>
 impT (qb ho (ha H_) (Z H_) I) λσ H Q h=>by
  obtain⟨L,o,R,U,j,k⟩:=h;refine Me (ta:=ta) (tb:=tb) (H_:=H_.1) hl σ H _ ⟨L,o,R,_,j,λv r H' s1 q h1=>?_⟩;obtain⟨kd,d⟩:=r;cases d with
  |bl b=>exact⟨b,q.view,k b H' s1 h1⟩
  |_=>exact h1.elim
def cj(q:ED Y X a ta)(j:ED Y X b tb):ET Y X (.Compare a [.Lt] [b] pos) (tBo (d2 sLt ta tb)):=qy z5d (dm λ_ _ _ _=>rfl) q j (rm _)
def Hy(q:ED Y X a ta)(j:ED Y X b tb):ET Y X (.Compare a [.Gt] [b] pos) (tBo (d2 sGt ta tb)):=qy Jh (dm λ_ _ _ _=>rfl) q j (rm _)
def xh(hu:X.A.units+64<cLine)(Z:ED Y X a ta)(I:ED Y X b tb):ET Y X (.Compare a [.Eq] [b] pos) (tBo (d2 sEq ta tb)) :=
 qy (Fu hu) (λH O x y vx vy U Q ho q j h k=>⟨x,y,q.rep0,j.rep0,h.1,h.2.1,k _ _ H (Same.refl H) (by exact rfl) h.2.2⟩) Z I (rm _)
def qx(hu:X.A.units+64<cLine)(Z:ED Y X a ta)(I:ED Y X b tb):ET Y X (.Compare a [.NotEq] [b] pos) (tBo (d2 sNe ta tb)) :=
 qy (z1v hu) (λH O x y vx vy U Q ho q j h k=>⟨x,y,q.rep0,j.rep0,h.1,h.2.1,k _ _ H (Same.refl H) (by exact rfl) h.2.2⟩) Z I (rm _)
def Be:D->Bool
 |.non=>true
 |_=>false
def Rc:D->D->(EV->Prop)->Prop:=λx y U=>match y with
 |.non=>U (dv (.bl (!Be x)))
 |_=>False
def Kc{K:W.Frag}{H:Hp}{O:List Addr}{d:D}{v:V}(h:View K H O d v):decide (v=.non)=Be d:=by
 cases d with
 |tup ds=>obtain⟨a,xs,rfl,_⟩:=h;rfl
 |lst ds=>obtain⟨a,xs,rfl,_⟩:=h;rfl
 |scr ns=>obtain⟨a,rfl,_⟩:=h;rfl
 |exc _=>obtain⟨a,rfl,_⟩:=h;rfl
 |fd _=>obtain⟨a,rfl,_⟩:=h;rfl
 |dk ks ds=>obtain⟨a,xs,rfl,_⟩:=h;rfl
 |cn c =>
  cases c with
  |int i=>cases (show v=_ from h);rfl
  |str x=>cases (show v=_ from h);rfl
  |tup cs=>obtain⟨a,o,its,n,xs,rfl,_⟩:=(show CRep K (.tup cs) v from h);rfl
 |_=>cases (show v=_ from h);rfl
def P2{K:W.Frag}:rg K (λx y H Q=>y=.non/\Q (.bl (!decide (x=.non))) H) Rc:=by
 intro H O x y Z I U Q ho q j h k;unfold Rc at h;split at h
 ·refine⟨j,?_⟩;rw[Kc q];exact k _ _ H (Same.refl H) (by exact rfl) h
 exact h.elim
def G5(q:ED Y X a ta)(j:ED Y X b tb):ED Y X (.Compare a [.IsNot] [b] pos) (d2 Rc ta tb):=jq Cm P2 q j (rm _)
variable{tA tB':TDb}
def bAnd(t u:TDb):TDb:=λL U=>t L λc=>(c=true->u L U)/\(c=false->U false)
def bOr(t u:TDb):TDb:=λL U=>t L λc=>(c=true->U true)/\(c=false->u L U)
def bNot(t:TDb):TDb:=λL U=>t L λc=>U (!c)
def jb(j:ET Y X a tA):EW Y X (.BoolOp .And [a] pos) tA:=λH_=>Dv (j H_)
def sw(j:ET Y X a tA):EW Y X (.BoolOp .Or [a] pos) tA:=λH_=>z1b (j H_)
def ci(Z:ET Y X a tA)(I:EW Y X (.BoolOp .And (b::rest) pos) tB'):EW Y X (.BoolOp .And (a::b::rest) pos) (bAnd tA tB'):=λH_=>impW (z1c (Z H_) (I H_)) λσ H Q h=>by
 obtain⟨L,o,R,U,j,k⟩:=h;refine⟨L,o,R,_,j,λc H1 s1 h1=>?_⟩;cases c with
 |true=>exact iteT ⟨L,o,R.to s1,U,h1.1 rfl,λb H2 s2 q=>k b H2 (s1.trans s2) q⟩
 |false=>exact iteF (k false H1 s1 (h1.2 rfl))
def qw(Z:ET Y X a tA)(I:EW Y X (.BoolOp .Or (b::rest) pos) tB'):EW Y X (.BoolOp .Or (a::b::rest) pos) (bOr tA tB'):=λH_=>impW (z4w (Z H_) (I H_)) λσ H Q h=>by
 obtain⟨L,o,R,U,j,k⟩:=h;refine⟨L,o,R,_,j,λc H1 s1 h1=>?_⟩;cases c with
 |true=>exact iteT (k true H1 s1 (h1.1 rfl))
 |false=>exact iteF ⟨L,o,R.to s1,U,h1.2 rfl,λb H2 s2 q=>k b H2 (s1.trans s2) q⟩
def EW.et(h:EW Y X a tA):ET Y X a tA:=λH_=>PW.pt (h H_)
def wq(q:ET Y X a tA):ET Y X (.UnaryOp .Not a pos) (bNot tA):=λH_=>impT (z1f (q H_)) λσ H Q h=>by
 obtain⟨L,o,R,U,j,k⟩:=h;exact⟨L,o,R,_,j,λc H1 s1 h1=>k _ H1 s1 h1⟩
def vAnd(ta tb:TD):TD:=λL U=>ta L λx=>match x.d with
 |.bl c=>(c=true->tb L U)/\(c=false->U (dv (.bl false)))
 |_=>False
def vOr(ta tb:TD):TD:=λL U=>ta L λx=>match x.d with
 |.bl c=>(c=true->U (dv (.bl true)))/\(c=false->tb L U)
 |_=>False
def vNot(ta:TD):TD:=λL U=>ta L λx=>match x.d with
 |.bl c=>U (dv (.bl (!c)))
 |_=>False
def sx {op} (h:ED Y X a ta):ED Y X (.BoolOp op [a] pos) ta:=λH_=>z1m (h H_)
def vp(ha:ED Y X a ta)(hb:ED Y X (.BoolOp .And (b::rest) pos) tb):ED Y X (.BoolOp .And (a::b::rest) pos) (vAnd ta tb):=λH_=>impE (z1r (ha H_) (hb H_)) λσ H Q h=>by
 obtain⟨L,o,R,U,I,k⟩:=h;refine⟨L,o,R,_,I,λv r H1 s1 rv h1=>?_⟩;obtain⟨kd,d⟩:=r;cases d with
 |bl c =>
  refine⟨c,rv.view,?_⟩;cases c with
  |true=>exact iteT ⟨L,o,R.to s1,U,h1.1 rfl,λZ r2 H2 s2 j q=>k Z r2 H2 (s1.trans s2) (j.start s1) q⟩
  |false=>exact iteF (k _ _ H1 s1 (by exact rfl) (h1.2 rfl))
 |_=>exact h1.elim
def z5w(ha:ED Y X a ta)(hb:ED Y X (.BoolOp .Or (b::rest) pos) tb):ED Y X (.BoolOp .Or (a::b::rest) pos) (vOr ta tb):=λH_=>impE (z4y (ha H_) (hb H_)) λσ H Q h=>by
 obtain⟨L,o,R,U,I,k⟩:=h;refine⟨L,o,R,_,I,λv r H1 s1 rv h1=>?_⟩;obtain⟨kd,d⟩:=r;cases d with
 |bl c =>
  refine⟨c,rv.view,?_⟩;cases c with
  |true=>exact iteT (k _ _ H1 s1 (by exact rfl) (h1.1 rfl))
  |false=>exact iteF ⟨L,o,R.to s1,U,h1.2 rfl,λZ r2 H2 s2 j q=>k Z r2 H2 (s1.trans s2) (j.start s1) q⟩
 |_=>exact h1.elim
def tu(I:ED Y X a ta):ED Y X (.UnaryOp .Not a pos) (vNot ta):=λH_=>impE (z1n (I H_)) λσ H Q h=>by
 obtain⟨L,o,R,U,j,k⟩:=h;refine⟨L,o,R,_,j,λv r H1 s1 q h1=>?_⟩;obtain⟨Z,d⟩:=r;cases d with
 |bl c=>exact⟨c,q.view,k _ _ H1 s1 (by exact rfl) h1⟩
 |_=>exact h1.elim
def vIf(t:TDb)(ta tb:TD):TD:=λL U=>t L λc=>(c=true->ta L U)/\(c=false->tb L U)
def Q6(hc:ET Y X c tA)(ha:ED Y X a ta)(hb:ED Y X b tb):ED Y X (.IfExp c a b pos) (vIf tA ta tb):=λH_=>impE (Je (hc H_) (ha H_) (hb H_)) λσ H Q h=>by
 obtain⟨L,o,R,U,Z,k⟩:=h;refine⟨L,o,R,_,Z,λc H1 s1 h1=>?_⟩;cases c with
 |true=>exact iteT ⟨L,o,R.to s1,U,h1.1 rfl,λI r2 H2 s2 j q=>k I r2 H2 (s1.trans s2) (j.start s1) q⟩
 |false=>exact iteF ⟨L,o,R.to s1,U,h1.2 rfl,λI r2 H2 s2 j q=>k I r2 H2 (s1.trans s2) (j.start s1) q⟩
def aNil:TDs:=λ_ U=>U []
def z4c(te:TD)(t:TDs):TDs:=λL U=>te L λr=>t L λrs=>U (r::rs)
def zb:EA Y X [] aNil:=λH_=>impA vh λσ H Q h=>by
 obtain⟨L,o,R,U,j,k⟩:=h;exact k [] [] H (Same.refl H) (by exact rfl) j
def z9(ha:ED Y X e te)(hr:EA Y X es t)(Z:S_ X e es:=by rfl):EA Y X (e::es) (z4c te t):=λH_=>impA (xw (ha H_) (hr H_) Z) λσ H Q h=>by
 obtain⟨L,o,R,U,q,k⟩:=h;refine⟨L,o,R,_,q,λv r H1 s1 I h1=>⟨L,o,R.to s1,_,h1,λvs rs H2 s2 j h2=>?_⟩⟩;exact k (v::vs) (r::rs) H2 (s1.trans s2) ⟨v,vs,rfl,I.same s2,j.start s1⟩ h2
def Zg:List EV->Bool
 |[]=>true
 |r::rs=>(match r.k with|.own=>false|_=>true)&&Zg rs
theorem kj:∀{rs:List EV},Zg rs=true->∀r∈rs,r.k≠.own
 |[],_=>λr h=>nomatch h
 |⟨k,d⟩::rs,h=>λr hr=>by
  rw[Zg,Bool.and_eq_true]at h;rcases zam.mp hr with rfl|hr
  ·intro z;have j:k=.own:=z;subst j;exact absurd h.1 (by simp)
  exact kj h.2 r hr
def dTup(t:TDs):TD:=λL U=>t L λrs=>Zg rs=true/\Nat.ble rs.length 1000=true/\U (dv (.tup (rs.map EV.d)))
def dLst(t:TDs):TD:=λL U=>t L λrs=>Zg rs=true/\Nat.ble rs.length 1000=true/\U (df (.lst (rs.map EV.d)))
def dw(h:Nat.ble n 1000=true):n<=sizeLine:=zak (Nat.le_of_ble_eq_true h) (by decide)
def RVs.length{K:W.Frag}{H0 H:Hp}{O:List Addr}:∀{rs:List EV}{vs:List V},RVs K H0 H O rs vs->vs.length=rs.length
 |[],_,h=>by cases h;rfl
 |r::rs,vs,h=>by
  obtain⟨v,j,rfl,_,t⟩:=h;simp[RVs.length t]
def vb {x1} (h:EA Y X es t):ED Y X (.Tuple es x1 pos) (dTup t):=λH_=>impE (Np (h H_)) λσ H Q q=>by
 obtain⟨L,o,R,U,I,k⟩:=q;refine⟨L,o,R,_,I,λvs rs H1 s1 j h1=>⟨by rw[j.length];exact dw h1.2.1,λp Z=>?_⟩⟩
 exact k _ _ _ (s1.trans (yh Z _)) (RV.start (Rf Z (j.reps (kj h1.1))) s1) h1.2.2
def zy(h:EA Y X es t):ED Y X (.List es pos) (dLst t):=λH_=>impE (Wi (h H_)) λσ H Q q=>by
 obtain⟨L,o,R,U,I,k⟩:=q;refine⟨L,o,R,_,I,λvs rs H1 s1 j h1=>⟨by rw[j.length];exact dw h1.2.1,λp Z=>?_⟩⟩
 exact k _ _ _ (s1.trans (yh Z _)) (RV.start (fk (λa e=>R.ofree (s1.free e)) Z (j.reps (kj h1.1))) s1) h1.2.2
def sIx1:D->D->(EV->Prop)->Prop:=λx y U=>match x,y with
 |.lst ds,.int i=>match atI ds i with
  |some d=>U (dv d)
  |none=>False
 |.tup ds,.int i=>match atI ds i with
  |some d=>U (dv d)
  |none=>False
 |.scr ns,.int i=>match atI ns i with
  |some n=>U (dv (.int n))
  |none=>False
 |.str z,.int i=>z.length<=sizeLine/\match atI z.cps.toList i with
  |some c=>U (dv (.str ⟨#[c]⟩))
  |none=>False
 |_,_=>False
def Qh{K:W.Frag}{H:Hp}{O:List Addr}{ds:List D}{xs:List V}{i:Int}{d:D}(r:Reps K H O ds xs)(h:atI ds i=some d):∃v,atI xs i=some v/\Rep K H O d v:=by
 unfold atI at h ⊢;rw[r.length];cases e:ixN ds.length i with
 |none=>rw[e]at h;cases h
 |some j =>
  rw[e]at h;exact r.get h
def B2:rg X.K (rIx X.K) sIx1:=by
 intro H O x y vx vy U Q ho Z I h k;unfold sIx1 at h;split at h
 ·obtain⟨a,xs,rfl,q,r⟩:=Z;split at h
  ·rename_i d e;obtain⟨v,ev,rv⟩:=Qh r e;exact .inl ⟨a,xs,_,v,rfl,I,SqL.of q,ev,k _ _ H (Same.refl H) (RV.val rv) h⟩
  exact h.elim
 ·obtain⟨a,xs,rfl,q,r⟩:=Z;split at h
  ·rename_i d e;obtain⟨v,ev,rv⟩:=Qh r e;exact .inr (.inl ⟨a,xs,_,v,rfl,I,q.1,ev,k _ _ H (Same.refl H) (RV.val rv) h⟩)
  exact h.elim
 ·obtain⟨a,rfl,q⟩:=Z;split at h
  ·rename_i n e;refine .inl ⟨a,_,_,.int n,rfl,I,q.seq,?_,k _ _ H (Same.refl H) (by exact rfl) h⟩
   unfold atI at e ⊢;rw[zLm];cases e2:ixN _ _ with
   |none=>rw[e2]at e;cases e
   |some j =>
    rw[e2]at e;exact(zai ..).trans (congrArg (Option.map V.int) e)
  exact h.elim
 ·obtain⟨hz,h⟩:=h;split at h
  ·rename_i c e;exact .inr (.inr ⟨_,_,c,Z,I,hz,e,k _ _ H (Same.refl H) (by exact rfl) h⟩)
  exact h.elim
 exact h.elim
abbrev TDo:=DE->(Option Int->Prop)->Prop
def z5f(K:W.Frag)(H_:Hp)(t:TDo):TO:=λσ H Q=>∃L o,REnv K H_ H σ L o/\∃U,t L U/\∀b H',Same H H'->U b->Q b H'
def EO(G:Hp->Prop)(X:Cx)(e:Option Expr)(t:TDo):Prop:=∀H_:{H:Hp // G H},PO X e (z5f X.K H_.1 t)
def z2e:TDo:=λ_ U=>U none
def z2d(t:TD):TDo:=λL U=>t L λr=>match r.d with
 |.int i=>U (some i)
 |_=>False
def impO{e:Option Expr}{t t':TO}(h:PO X e t)(i:∀ σ H Q,t' σ H Q->t σ H Q):PO X e t':=λpn s σ H Q I q=>h pn s σ H Q I (i σ H Q q)
def wy:EO Y X none z2e:=λH_=>impO C2 λσ H Q h=>by
 obtain⟨L,o,R,U,j,k⟩:=h;exact k none H (Same.refl H) j
def xi(h:ED Y X e te):EO Y X (some e) (z2d te):=λH_=>impO (C1 (h H_)) λσ H Q q=>by
 obtain⟨L,o,R,U,j,k⟩:=q;refine⟨L,o,R,_,j,λv r H1 s1 I h1=>?_⟩;obtain⟨Z,d⟩:=r;cases d with
 |int i=>exact⟨i,I.view,k _ H1 s1 h1⟩
 |_=>exact h1.elim
def cutD(xs:List D)(lo hi:Option Int):List D:=(xs.drop (ZZ.sIx xs.length 0 lo)).take (ZZ.sIx xs.length xs.length hi-ZZ.sIx xs.length 0 lo)
def Ym{K:W.Frag}{H:Hp}{O:List Addr}{ds:List D}{xs:List V}(r:Reps K H O ds xs)(lo hi:Option Int):Reps K H O (cutD ds lo hi) (cutV xs lo hi):=by
 unfold cutD cutV;rw[r.length];exact(r.drop _).take _
def sSl:D->Option Int->Option Int->(EV->Prop)->Prop:=λx lo hi U=>match x with
 |.lst ds=>U (df (.lst (cutD ds lo hi)))
 |.scr ns=>U (df (.lst (cutD (ns.map D.int) lo hi)))
 |.tup ds=>¬ (ZZ.sIx ds.length 0 lo=0/\ZZ.sIx ds.length ds.length hi=ds.length)/\U (dv (.tup (cutD ds lo hi)))
 |_=>False
def dSl(te:TD)(tl th:TDo):TD:=λL U=>te L λx=>tl L λl=>th L λu=>sSl x.d l u U
def xc{lo hi:Option Expr}{tl th:TDo}{p2:Pos}(he:ED Y X e te)(hl:EO Y X lo tl)(hu:EO Y X hi th):ED Y X (.Subscript e (.Slice lo hi none p2) pos) (dSl te tl th):=λH_ =>
 impE (Rm (Df.or z0i) (he H_) (hl H_) (hu H_)) λσ H Q q=>by
  obtain⟨L,o,R,U,a1,k⟩:=q;refine⟨L,o,R,_,a1,λv r H1 s1 rv h1=>⟨L,o,R.to s1,_,h1,λl H2 s2 h2=>⟨L,o,R.to (s1.trans s2),_,h2,λu H3 s3 Z=>?_⟩⟩⟩;have a0:=s1.trans s2;have j:=a0.trans s3;have vw:=(rv.same (s2.trans s3)).view;obtain⟨kd,d⟩:=r;cases d with
  |lst ds =>
   obtain⟨a,xs,rfl,q,r⟩:=vw;refine .inl ⟨a,xs,rfl,SqL.of q,λp I=>?_⟩;exact k _ _ _ (j.trans (yh I _)) (RV.start (fk (λa e=>R.ofree (j.free e)) I (Ym r l u)) j) Z
  |scr ns =>
   obtain⟨a,rfl,q⟩:=vw;refine .inl ⟨a,_,rfl,q.seq,λp I=>?_⟩;exact k _ _ _ (j.trans (yh I _)) (RV.start (fk (λa e=>R.ofree (j.free e)) I (Ym (Reps.ints ns) l u)) j) Z
  |tup ds =>
   obtain⟨a,xs,rfl,q,r⟩:=vw;refine .inr ⟨a,xs,rfl,q.1,by rw[r.length];exact Z.1,λp I=>?_⟩
   exact k _ _ _ (j.trans (yh I _)) (RV.start (Rf I (Ym r l u)) j) Z.2
  |_=>exact Z.elim
end
def vk(r:EV):Prop:=match r.k with
 |.val=>re r.d
 |.own=>False
 |.fre=>match r.d with
  |.lst ds=>vg ds
  |.dk _ ds=>vg ds
  |_=>False
 |.new=>True
def RV.lift{K:W.Frag}{H0 H:Hp}{O:List Addr}{r:EV}{v:V}(h:RV K H0 H [] r v)(p:vk r)(ho:∀ a,H0 a=none->a∉O):RV K H0 H O r v:=by
 obtain⟨k,d⟩:=r;cases k with
 |val=>exact Rep.pure _ _ p h
 |own=>exact p.elim
 |fre =>
  obtain⟨a,e,m,n,c⟩:=h;refine⟨a,e,m,ho a m,?_⟩;cases d with
  |lst ds=>obtain⟨xs,q,r⟩:=c;exact⟨xs,q,Reps.pure _ _ p r⟩
  |dk ks ds=>obtain⟨xs,q,l,j,r⟩:=c;exact⟨xs,q,l,j,Reps.pure _ _ p r⟩
  |fd m=>exact c
  |_=>exact c.elim
 |new=>exact RepN.to (Same.refl H) (λa z=>⟨ho a z.2,z.2⟩) _ _ h
abbrev FT:=List D->(EV->Prop)->Prop
def spD(K:W.Frag)(n:Nat)(T:FT):Sp:=λvs H Q _=>∃ds U,ds.length=n/\Reps K H [] ds vs/\T ds U/\∀v r H',Same H H'->RV K H H' [] r v->vk r->U r->Q v H'
structure FD(P:Program)(w:World)(K:W.Frag)(mg:Str->Option Value)(base:Heap)(k:Nat)(x:Str)(ps:List Str)(T:FT):Prop where
 ex:∃f fd,FnOk P w K mg base CX0 k f fd ps (spD K ps.length T)/\k8 K fd ps []/\W.keepIn K (.ref f)=true/\mg x=some (.ref f)
def A8(n:Nat)(T:FT)(t:TDs):TD:=λL U=>t L λrs=>Nat.beq rs.length n=true/\T (rs.map EV.d) U
section
variable{x:Str}{ps:List Str}{T:FT}{k:Nat}{es:List Expr}{t:TDs}{p:Pos}
def Md:∀σ H Q,u7 X.K H_ (A8 ps.length T t) σ H Q->z0c (spD X.K ps.length T) [] E0 (B3 X.K H_ t) σ H Q:=λσ H Q q=>by
 obtain⟨L,o,R,U,I,kk⟩:=q;refine⟨L,o,R,_,I,λvs rs H1 s1 j h1=>?_⟩;show spD X.K ps.length T (vs++[]) H1 Q E0;rw[List.append_nil];refine⟨rs.map EV.d,U,by rw[zLm];exact Nat.eq_of_beq_eq_true h1.1,j.reps0,h1.2,λv r H2 s2 Z pr h2=>?_⟩
 exact kk v r H2 (s1.trans s2) (RV.start (Z.lift pr λa e=>R.ofree (s1.free e)) s1) h2
def zi(F:FD X.prog X.w X.K X.mg X.base k x ps T)(hr:Room k X.A)(ha:EA Y X (e::es) t)(Z:Gl X x:=by rfl)(q:D_ x:=by decide)(he:S_ X e es:=by rfl)(j:B_ X es pos:=by rfl):ED Y X (.Call (.Name x p) (e::es) [] pos) (A8 ps.length T t):=λH_=>by
 obtain⟨f,fd,ok,b,I,m⟩:=F.ex;exact impE (Uy ok hr Z m I b .nil Cg (ha H_) q he j) Md
def Aj(K:W.Frag)(H:Hp)(O:List Addr):List D->List V->Prop
 |[],vs=>vs=[]
 |d::ds,vs=>∃v ws,vs=v::ws/\View K H O d v/\Aj K H O ds ws
def RVs.views{K:W.Frag}{H0 H:Hp}{O:List Addr}:∀{rs:List EV}{vs:List V},RVs K H0 H O rs vs->Aj K H O (rs.map EV.d) vs
 |[],_,h=>h
 |r::rs,vs,h=>by
  obtain⟨v,j,e,q,t⟩:=h;exact⟨v,j,e,q.view,t.views⟩
def K3(K:W.Frag)(r:List V->Hp->VK->Prop)(s:FT):Prop :=
 ∀(H:Hp)(O:List Addr)(ds:List D)(vs:List V)(U:EV->Prop)(Q:VK),(∀a,H a=none->a∉O)->Aj K H O ds vs->s ds U->(∀v r H',Same H H'->RV K H H' O r v->U r->Q v H')->r vs H Q
def dCB(s:FT)(t:TDs):TD:=λL U=>t L λrs=>s (rs.map EV.d) U
def Mc{r:List V->Hp->VK->Prop}{s:FT}(hl:K3 X.K r s):∀σ H Q,u7 X.K H_ (dCB s t) σ H Q->tCB r (B3 X.K H_ t) σ H Q:=λσ H Q q=>by
 obtain⟨L,o,R,U,I,kk⟩:=q;refine⟨L,o,R,_,I,λvs rs H1 s1 j h1=>?_⟩;exact hl H1 _ _ vs U Q (λa e=>R.ofree (s1.free e)) j.views h1 λv r H2 s2 Z h2=>kk v r H2 (s1.trans s2) (Z.start s1) h2
def fc{id:String}{r:List V->Hp->VK->Prop}{s:FT}(hc:ua X (.builtin id) r)(hl:K3 X.K r s)(hm:X.mg x=none)(I:bootBuiltins x=some (.builtin id))(ha:EA Y X (e::es) t)(hg:Gl X x:=by rfl)(Z:x≠"__name__":=by decide)(q:D_ x:=by decide)(he:S_ X e es:=by rfl)(j:B_ X es pos:=by rfl):ED Y X (.Call (.Name x p) (e::es) [] pos) (dCB s t):=λH_ =>
 impE (t6 hc hg hm I (ha H_) Z q he j) (Mc hl)
def vo{T:String}{r:List V->Hp->VK->Prop}{s:FT}(hc:ua X (.type T) r)(hl:K3 X.K r s)(hm:X.mg x=none)(I:bootBuiltins x=some (.type T))(ha:EA Y X (e::es) t)(hg:Gl X x:=by rfl)(Z:x≠"__name__":=by decide)(q:D_ x:=by decide)(he:S_ X e es:=by rfl)(j:B_ X es pos:=by rfl):ED Y X (.Call (.Name x p) (e::es) [] pos) (dCB s t):=λH_ =>
 impE (Wk hc hg hm I (ha H_) Z q he j) (Mc hl)
def sLen:FT:=λds U=>match ds with
 |[.lst l]=>U (dv (.int l.length))
 |[.tup l]=>U (dv (.int l.length))
 |[.scr l]=>U (dv (.int l.length))
 |[.str z]=>z.length<=sizeLine/\U (dv (.int z.length))
 |_=>False
def Js:K3 X.K (λxs H Q=>(∃p ys,xs=[.ref p]/\(SqL X.K H p ys\/SqT X.K H p ys)/\Q (.int ys.length) H)\/∃z,xs=[.str z]/\z.length<=sizeLine/\Q (.int z.length) H) sLen:=by
 intro H O ds vs U Q ho j h k;unfold sLen at h;split at h
 ·obtain⟨v,I,rfl,⟨a,xs,rfl,q,r⟩,rfl⟩:=j;refine .inl ⟨a,xs,rfl,.inl (SqL.of q),?_⟩;rw[r.length];exact k _ _ H (Same.refl H) (by exact rfl) h
 ·obtain⟨v,I,rfl,⟨a,xs,rfl,q,r⟩,rfl⟩:=j;refine .inl ⟨a,xs,rfl,.inr q.1,?_⟩;rw[r.length];exact k _ _ H (Same.refl H) (by exact rfl) h
 ·obtain⟨v,I,rfl,⟨a,rfl,q⟩,rfl⟩:=j;refine .inl ⟨a,_,rfl,.inl q.seq,?_⟩;rw[zLm];exact k _ _ H (Same.refl H) (by exact rfl) h
 ·obtain⟨v,I,rfl,hz,rfl⟩:=j;cases (show v=_ from hz);exact .inr ⟨_,rfl,h.1,k _ _ H (Same.refl H) (by exact rfl) h.2⟩
 exact h.elim
def w5(q:X.mg "len" = none)(ha:EA Y X (e::es) t)(I:Gl X "len":=by rfl)(Z:S_ X e es:=by rfl)(j:B_ X es pos:=by rfl):ED Y X (.Call (.Name "len" p) (e::es) [] pos) (dCB sLen t) :=
 fc (ul.or Vy) Js q PySem.boot_len ha I (by decide) (by decide) Z j
end
def EV.sto(r:EV):EV:=⟨match r.k with
 |.fre=>.own
 |.new=>.val
 | k=>k,r.d⟩
def EV.ret(r:EV):EV:=⟨match r.k with
 |.own=>.fre
 | k=>k,r.d⟩
def setS:DE->Nat->EV->DE
 |[],_,_=>[]
 |_::r,0,v=>some v::r
 |x::r,i+1,v=>x::setS r i v
def ux:∀(L:DE)(i:Nat)(v:EV),setS L i v=L.set i (some v)
 |[],_,_=>rfl
 |_::_,0,_=>rfl
 |x::r,i+1,v=>by rw[setS,ux r i v,List.set_cons_succ]
def Con1.grow{K:W.Frag}{H H':Hp}{O O':List Addr}{d:D}{a:Addr}(h:Con1 K H O d a)(s:∀ u,H a=some u->H' a=some u)(g:Grow O O' H H'):Con1 K H' O' d a:=by
 cases d with
 |lst ds=>obtain⟨xs,q,r⟩:=h;exact⟨xs,s _ q,Reps.grow g _ _ r⟩
 |dk ks ds=>obtain⟨xs,q,l,n,r⟩:=h;exact⟨xs,s _ q,l,n,Reps.grow g _ _ r⟩
 |fd m=>exact s _ h
 |_=>exact h.elim
def Con1.mtb{K:W.Frag}{H:Hp}{O:List Addr}{d:D}{a:Addr}(h:Con1 K H O d a):(∃u,H a=some u)/\(∀xs,H a≠some (.tup xs))/\∀j u,H a≠some (.frz j u):=by
 cases d with
 |lst ds=>obtain⟨xs,q,r⟩:=h;exact⟨⟨_,q⟩,(λxs z=>by rw[q]at z;cases z),(λj u z=>by rw[q]at z;cases z)⟩
 |dk ks ds=>obtain⟨xs,q,r⟩:=h;exact⟨⟨_,q⟩,(λxs z=>by rw[q]at z;cases z),(λj u z=>by rw[q]at z;cases z)⟩
 |fd m=>have q:H a=some (tz a m):=h;exact⟨⟨_,q⟩,(λxs z=>by rw[q]at z;cases z),(λj u z=>by rw[q]at z;cases z)⟩
 |_=>exact h.elim
def REnv.setV(R:REnv K H_ H σ L o)(i:Nat)(h:Rep K H (o.map Prod.snd) d v):REnv K H_ H (σ.set i (some v)) (setS L i (dv d)) o where
 same:=R.same
 fresh:=R.fresh
 trk:=R.trk
 mtb:=R.mtb
 nda:=R.nda
 len:=by rw[ux,List.length_set,List.length_set];exact R.len
 slots:=λj r e=>by
  rw[ux]at e;by_cases hj:j=i
  ·subst hj;have hl:j<L.length:=by
    rcases Nat.lt_or_ge j L.length with z|z
    ·exact z
    rw[List.getElem?_eq_none (by rw[List.length_set];exact z)]at e
    cases e
   rw[List.getElem?_set_self hl]at e;cases e;exact⟨v,List.getElem?_set_self (by rw[R.len];exact hl),.inl ⟨rfl,h⟩⟩
  rw[List.getElem?_set_ne (Ne.symm hj)]at e;obtain⟨w,I,q⟩:=R.slots j r e;exact⟨w,by rw[List.getElem?_set_ne (Ne.symm hj)];exact I,q⟩
def REnv.setO(R:REnv K H_ H σ L o)(s:Same H H')(i:Nat){a:Addr}(Z:H a=none)(c:Con1 K H' (a::o.map Prod.snd) d a) :
  REnv K H_ H' (σ.set i (some (.ref a))) (setS L i (dO d)) ((i,a)::o)/\Grow (o.map Prod.snd) (((i,a)::o).map Prod.snd) H H':=by
 have g:Grow (o.map Prod.snd) (((i,a)::o).map Prod.snd) H H':=by
  refine⟨λb u h n=>⟨s b u h,λz=>?_⟩,λb xs h=>s b _ h,λb ob u h=>s b _ h⟩;rw[List.map_cons]at z;rcases zam.mp z with z|z
  ·exact zp h Z z
  exact n z
 refine⟨?_,g⟩;have R':=R.to s;exact {
  same:=R'.same
  fresh:=λp I=>by
   rcases zam.mp I with rfl|I
   ·exact R.same.free Z
   exact R.fresh p I
  trk:=λp I=>by
   rcases zam.mp I with rfl|I
   ·exact c.mtb.1
   exact R'.trk p I
  mtb:=λp I=>by
   rcases zam.mp I with rfl|I
   ·exact c.mtb.2
   exact R'.mtb p I
  nda:=by
   rw[List.map_cons,List.nodup_cons];exact⟨λz=>R.ofree Z z,R.nda⟩
  len:=by rw[ux,List.length_set,List.length_set];exact R.len
  slots:=λj r e=>by
   rw[ux]at e;by_cases hj:j=i
   ·subst hj;have hl:j<L.length:=by
     rcases Nat.lt_or_ge j L.length with z|z
     ·exact z
     rw[List.getElem?_eq_none (by rw[List.length_set];exact z)]at e
     cases e
    rw[List.getElem?_set_self hl]at e;cases e;exact⟨_,List.getElem?_set_self (by rw[R.len];exact hl),.inr ⟨rfl,a,rfl,zao ..,c⟩⟩
   rw[List.getElem?_set_ne (Ne.symm hj)]at e;obtain⟨w,ew,q⟩:=R.slots j r e;refine⟨w,by rw[List.getElem?_set_ne (Ne.symm hj)];exact ew,?_⟩
   rcases q with⟨k,q⟩|⟨k,a',e1,m,c'⟩
   ·exact .inl ⟨k,Rep.grow g _ _ q⟩
   exact .inr ⟨k,a',e1,zal _ m,c'.grow (λu q=>s _ _ q) g⟩}
def REnv.put(R:REnv K H_ H σ L o)(s:Same H H')(i:Nat)(h:RV K H H' (o.map Prod.snd) r v)(j:r.k≠.own) :
  ∃o',REnv K H_ H' (σ.set i (some v)) (setS L i r.sto) o'/\Grow (o.map Prod.snd) (o'.map Prod.snd) H H':=by
 obtain⟨k,d⟩:=r;cases k with
 |val=>exact⟨_,(R.to s).setV i h,Grow.same s⟩
 |own=>exact absurd rfl j
 |fre =>
  obtain⟨a,rfl,m,n,c⟩:=h;exact⟨_,R.setO s i m c⟩
 |new=>exact⟨_,(R.to s).setV i (RepN.rep (λa z=>z.1) _ _ h),Grow.same s⟩
theorem X9:∀{o:List (Nat×Addr)},(o.map Prod.snd).Nodup->∀{p q:Nat×Addr},p∈o->q∈o->p.2=q.2->p=q
 |[],_,_,_,h,_,_=>nomatch h
 |x::o,nd,p,q,hp,hq,e=>by
  rw[List.map_cons,List.nodup_cons]at nd;rcases zam.mp hp with h1|hp
  ·rcases zam.mp hq with h2|hq
   ·rw[h1,h2]
   exact absurd (zah.mpr ⟨q,hq,by rw[<- e,h1]⟩) nd.1
  rcases zam.mp hq with h2|hq
  ·exact absurd (zah.mpr ⟨p,hp,by rw[e,h2]⟩) nd.1
  exact X9 nd.2 hp hq e
def REnv.chg(R:REnv K H_ H σ L o){i:Nat}{a:Addr}{d d':D}{ho:HO}(hs:L[i]?=some (some (dO d)))(a1:σ[i]?=some (some (.ref a)))(Z:(i,a)∈o)(a0:(∀ xs,ho≠.tup xs)/\∀ I u,ho≠.frz I u)(c:(∀ ds xs,Reps K H (o.map Prod.snd) ds xs->Reps K (upd H a ho) (o.map Prod.snd) ds xs)->Con1 K (upd H a ho) (o.map Prod.snd) d' a) :
  REnv K H_ (upd H a ho) σ (setS L i (dO d')) o/\Grow (o.map Prod.snd) (o.map Prod.snd) H (upd H a ho):=by
 have ha:a∈o.map Prod.snd:=zah.mpr ⟨_,Z,rfl⟩;obtain⟨m1,m2⟩:=R.mtb _ Z;have g:Grow (o.map Prod.snd) (o.map Prod.snd) H (upd H a ho) :=
  ⟨λb u h n=>⟨by rw[zv (show b≠a from λz=>n (by rw[z];exact ha))];exact h,n⟩,λb xs h=>by rw[zv (show b≠a from λz=>m1 xs (by rw[<- z];exact h))];exact h,λb I u h=>by rw[zv (show b≠a from λz=>m2 I u (by rw[<- z];exact h))];exact h⟩
 refine⟨?_,g⟩;exact {
  same:=λb u h=>by
   have:b≠a:=λz=>by
    have:=R.fresh _ Z;rw[<- z,h]at this;cases this
   rw[zv this];exact R.same b u h
  fresh:=R.fresh
  trk:=λp hp=>by
   by_cases e:p.2=a
   ·exact⟨ho,by rw[e];exact zu⟩
   rw[zv e];exact R.trk p hp
  mtb:=λp hp=>by
   by_cases e:p.2=a
   ·rw[e,zu];exact⟨λxs z=>a0.1 xs (Option.some.inj z),λI u z=>a0.2 I u (Option.some.inj z)⟩
   rw[zv e];exact R.mtb p hp
  nda:=R.nda
  len:=by rw[ux,List.length_set];exact R.len
  slots:=λj r e=>by
   rw[ux]at e;by_cases hj:j=i
   ·subst hj;have hl:j<L.length:=(zag.mp hs).1;rw[List.getElem?_set_self hl]at e;cases e;obtain⟨v,ev,q⟩:=R.slots j _ hs;rcases q with⟨k,_⟩|⟨_,a',e1,m',_⟩
    ·cases k
    have a4:a'=a:=by
     rw[a1]at ev;cases ev;cases e1;rfl
    subst a4;exact⟨v,ev,.inr ⟨rfl,a',e1,Z,c λds xs q=>Reps.grow g _ _ q⟩⟩
   rw[List.getElem?_set_ne (Ne.symm hj)]at e;obtain⟨w,ew,q⟩:=R.slots j r e;refine⟨w,ew,?_⟩;rcases q with⟨k,q⟩|⟨k,a',e1,m',c'⟩
   ·exact .inl ⟨k,Rep.grow g _ _ q⟩
   refine .inr ⟨k,a',e1,m',c'.grow (λu q=>?_) g⟩;have a2:a'≠a:=λz=>by
    exact hj (congrArg Prod.fst (X9 R.nda m' Z z))
   rw[zv a2];exact q}
section
variable{st:Stmt}{rest:List Stmt}{t u:TDS}{te:TD}{tc:TDb}
def sNil:TDS:=λL Z=>Z.nx L
def sSeq(t u:TDS):TDS:=λL Z=>t L {Z with nx:=λj=>u j Z}
def ya:SDs Y X [] sNil:=λH_=>z2z d4 λD σ H h=>by
 obtain⟨L,o,R,Z,j,k1,_⟩:=h;exact k1 L σ H o Grow.refl R j
def zd(h1:SD Y X st t)(h2:SDs Y X rest u):SDs Y X (st::rest) (sSeq t u):=λH_=>z2z (uz (h1 H_) (h2 H_)) λD σ H h=>by
 obtain⟨L,o,R,Z,hZ,k1,k2,k3,k4⟩:=h;refine⟨L,o,R,_,hZ,λa0 a1 H' o' g R' q=>?_,k2,k3,k4⟩;exact⟨a0,o',R',Z,q,λI j H2 o2 g2 R2 q2=>k1 I j H2 o2 (g.trans g2) R2 q2,λI j H2 o2 g2 R2 q2=>k2 I j H2 o2 (g.trans g2) R2 q2,λI j H2 o2 g2 R2 q2=>k3 I j H2 o2 (g.trans g2) R2 q2,k4⟩
def zk(h1:SD Y X st t):SDs Y X [st] t:=λH_=>ub (h1 H_)
def uj:SD Y X st (λ_ _=>False):=λH_=>impS J9 λD σ H h=>by
 obtain⟨_,_,_,_,j,_⟩:=h;exact j.elim
def sRet(te:TD):TDS:=λL Z=>te L λr=>Z.rt r.ret
def RV.ret{K:W.Frag}{H_ H H':Hp}{σ:St}{L:DE}{o:List (Nat×Addr)}(R:REnv K H_ H σ L o){r:EV}{v:V}(h:RV K H H' (o.map Prod.snd) r v):RV K H_ H' [] r.ret v:=by
 obtain⟨k,d⟩:=r;cases k with
 |val=>exact Rep.sub (O':=[]) (λ_ z=>absurd z (by simp)) _ _ h
 |own =>
  obtain⟨a,e,m,c⟩:=h;obtain⟨p,q,I⟩:=zah.mp m;subst I;exact⟨p.2,e,R.fresh p q,by simp,c.sub λb j=>by
   have:b=p.2:=by simpa using j
   rw[this];exact m⟩
 |fre =>
  obtain⟨a,e,m,n,c⟩:=h;exact⟨a,e,R.same.free m,by simp,c.sub λb j=>by
   have:b=a:=by simpa using j
   rw[this];exact zao ..⟩
 |new=>exact RepN.to (Same.refl H') (λa z=>⟨by simp,R.same.free z.2⟩) _ _ h
def zw(I:ED Y X e te):SD Y X (.Return (some e) pos) (sRet te):=λH_=>impS (Zq (I H_)) λD σ H h=>by
 obtain⟨L,o,R,Z,hZ,k1,k2,k3,q⟩:=h;refine⟨L,o,R,_,hZ,λv r H1 s1 j h1=>?_⟩;exact q v r.ret H1 (R.same.trans s1) (RV.ret R j) h1
def sIf(tc:TDb)(t u:TDS):TDS:=λL Z=>tc L λc=>(c=true->t L Z)/\(c=false->u L Z)
def yi{a b:List Stmt}(hc:ET Y X c tc)(ha:SDs Y X a t)(hb:SDs Y X b u):SD Y X (.If c a b pos) (sIf tc t u):=λH_=>impS (Ut (hc H_) (ha H_) (hb H_)) λD σ H h=>by
 obtain⟨L,o,R,Z,hZ,k1,k2,k3,k4⟩:=h;refine⟨L,o,R,_,hZ,λc H1 s1 h1=>?_⟩;have g:Grow (o.map Prod.snd) (o.map Prod.snd) H H1:=Grow.same s1;have kk:∀{v:TDS},v L Z->Yz X.K H_.1 v D σ H1:=λhv=>⟨L,o,R.to s1,Z,hv,λq j H2 o2 g2 R2 I=>k1 q j H2 o2 (g.trans g2) R2 I,λq j H2 o2 g2 R2 I=>k2 q j H2 o2 (g.trans g2) R2 I,λq j H2 o2 g2 R2 I=>k3 q j H2 o2 (g.trans g2) R2 I,k4⟩;cases c with
 |true=>exact iteT (kk (h1.1 rfl))
 |false=>exact iteF (kk (h1.2 rfl))
def sCut(t:TDS):TDS:=λL Z=>∃J:DE->Prop,t L {Z with nx:=J}/\∀ρ',J ρ'->Z.nx ρ'
def zj(h:SD Y X st t):SD Y X st (sCut t):=λH_=>impS (h H_) λD σ H h=>by
 obtain⟨L,o,R,Z,⟨J,hZ,hJ⟩,k1,k2,k3,k4⟩:=h;exact⟨L,o,R,_,hZ,λj q H2 o2 g2 R2 I=>k1 j q H2 o2 g2 R2 (hJ j I),k2,k3,k4⟩
def z0q(te:TD):TDS:=λL Z=>te L λ_=>Z.nx L
def Um(q:ED Y X e te)(j:swapsWith e none pos.line X.env=pure false:=by rfl):SD Y X (.Expr e pos) (z0q te):=λH_=>impS (kz (q H_) j) λD σ H h=>by
 obtain⟨L,o,R,Z,I,k1,k2,k3,k4⟩:=h;exact⟨L,o,R,_,I,λv r H1 s1 rv h1=>k1 L σ H1 o (Grow.same s1) (R.to s1) h1⟩
def sSet(i:Nat)(te:TD):TDS:=λL Z=>te L λr=>(match r.k with|.own=>False|_=>True)/\Z.nx (setS L i r.sto)
def tm{r:EV}(h:match r.k with|.own=>False|_=>True):r.k≠.own:=by
 obtain⟨k,d⟩:=r;cases k with
 |own=>exact h.elim
 |val=>exact λz=>nomatch z
 |fre=>exact λz=>nomatch z
 |new=>exact λz=>nomatch z
def zm(i:Nat)(hN:X.N.Nodup)(he:ED Y X e te)(hi:X.N[i]?=some x:=by rfl)(q:Loc X.env.scope x:=by first|exact Or.inl rfl|exact Or.inr rfl)(I:swapsWith e (some (.Name x pos')) pos.line X.env=pure false:=by rfl)(hf:X.fn x=true\/X.env.scope.names.lookup x=some .local:=by first|exact .inl rfl|exact .inr rfl|assumption):SD Y X (.Assign [.Name x pos'] e pos) (sSet i te):=λH_=>impS (Rk hN hi q (he H_) I hf) λD σ H h=>by
 obtain⟨L,o,R,Z,hZ,k1,k2,k3,k4⟩:=h;refine⟨L,o,R,_,hZ,λv r H1 s1 j h1=>?_⟩;obtain⟨o',R',g⟩:=R.put s1 i j (tm h1.1);exact k1 _ _ H1 o' g R' h1.2
abbrev TGD:=D->DE->(DE->Prop)->Prop
def bu(K:W.Frag)(g2:TG)(g:TGD):Prop:=∀(H_ H:Hp)(σ:St)(L:DE)(o:List (Nat×Addr))(d:D)(v:V)(N:DE->Prop)(Q:St->Hp->Prop),REnv K H_ H σ L o->Rep K H (o.map Prod.snd) d v->g d L N ->
 (∀ρ' σ',REnv K H_ H σ' ρ' o->N ρ'->Q σ' H)->g2 v σ H Q
def gN(i:Nat):TGD:=λd L N=>N (setS L i (dv d))
def yk{K:W.Frag}(i:Nat):bu K (j8 i) (gN i):=λH_ H σ L o d v N Q R h j k=>k _ _ (R.setV i h) j
def gT2(i j:Nat):TGD:=λd L N=>match d with
 |.tup [a,b]=>N (setS (setS L i (dv a)) j (dv b))
 |_=>False
def w6{K:W.Frag}(i j:Nat):bu K (gTup K 2 (bz (j8 i) (bz (j8 j) gNil))) (gT2 i j):=λH_ H σ L o d v N Q R h I k=>by
 unfold gT2 at I;split at I
 ·rename_i a b;obtain⟨p,xs,rfl,q,r⟩:=h;obtain⟨v1,r1,rfl,h1,Z,r2,rfl,h2,rfl⟩:=r;refine⟨p,_,rfl,q.1,rfl,v1,_,rfl,Z,_,rfl,rfl,?_⟩;have R1:=R.setV i h1;have R2:=R1.setV j h2;exact k _ _ R2 I
 exact I.elim
def gT4(i j l m:Nat):TGD:=λd L N=>match d with
 |.tup [a,b,c,e]=>N (setS (setS (setS (setS L i (dv a)) j (dv b)) l (dv c)) m (dv e))
 |_=>False
structure ItD(K:W.Frag)(J:It)(ds:List D)(P:Hp->List Addr->Prop):Prop where
 go:∀(H:Hp)(O:List Addr)(i:Nat)(d:D),P H O->ds[i]?=some d->J.go i H/\∀x H',J.yld i H x H'->Same H H'/\Rep K H' O d x
 stop:∀(H:Hp)(O:List Addr),P H O->J.stop ds.length H
 keep:∀(O O':List Addr)(H H':Hp),P H O->Grow O O' H H'->P H' O'
abbrev TID:=DE->(List D->Prop)->Prop
def Jz(K:W.Frag)(H_:Hp)(t:TID):TI:=λσ H R=>∃L o,REnv K H_ H σ L o/\∃U,t L U/\∀J ds P H',Same H H'->ItD K J ds P->P H' (o.map Prod.snd)->U ds->R J H'
def EI(G:Hp->Prop)(X:Cx)(tg iter:Expr)(t:TID):Prop:=∀H_:{H:Hp // G H},PI X tg iter (Jz X.K H_.1 t)
def sFor(ti:TID)(g:TGD)(tb:TDS):TDS:=λL Z=>ti L λds=>∃P:Nat->DE->Prop,P 0 L/\(∀i d L,ds[i]?=some d->P i L->g d L λj=>tb j {Z with nx:=P (i+1),ct:=P (i+1),bk:=Z.nx})/\∀L,P ds.length L->Z.nx L
def Zj{g2:TG}{tb:TDS}(hi:EI Y X tg iter ti)(hg:PG X tg g2)(hl:bu X.K g2 g)(hb:SDs Y X body tb)(hc:X.calm=true:=by rfl)(hp:PassesOwn (model X.prog X.w) X.A X.env X.xe:=by exact PassesOwn.never)(hs:∀ x,foldedSetIterable iter X.env x=pure x:=by intro _;rfl):SD Y X (.For tg iter body [] pos) (sFor ti g tb):=λH_=>impS (Fo hp hc (hi H_) hg (hb H_) hs) λD σ H h=>by
 obtain⟨L,o,R,Z,hZ,k1,k2,k3,k4⟩:=h;refine⟨L,o,R,_,hZ,λJ ds PJ H1 s1 I hP ⟨P,p0,a5,b0⟩=>?_⟩;refine⟨λi m a0 H'=>m=ds.length-i/\i<=ds.length/\∃j o',Grow (o.map Prod.snd) (o'.map Prod.snd) H1 H'/\REnv X.K H_ H' a0 j o'/\P i j,⟨_,rfl,Nat.zero_le _,L,o,Grow.refl,R.to s1,p0⟩,?_⟩;rintro i m a0 H' ⟨rfl,b4,j,o',g',R',p'⟩;have a6:=I.keep _ _ _ _ hP g';have gg:Grow (o.map Prod.snd) (o'.map Prod.snd) H H':=(Grow.same s1).trans g';by_cases hlt:i<ds.length
 ·have ed:ds[i]?=some ds[i]:=by simp[hlt]
  obtain⟨j1,j2⟩:=I.go H' _ i _ a6 ed;refine .inr ⟨j1,λa4 H2=>∃a1 o2,Grow (o.map Prod.snd) (o2.map Prod.snd) H1 H2/\REnv X.K H_ H2 a4 a1 o2/\P (i+1) a1,λa4 H2 ⟨a1,o2,g2,R2,p2⟩=>⟨_,(by omega:ds.length-(i+1)<ds.length-i),rfl,hlt,a1,o2,g2,R2,p2⟩,λx H2 y=>?_⟩
  obtain⟨s2,rp⟩:=j2 x H2 y;refine hl H_.1 H2 a0 j o' _ x _ _ (R'.to s2) rp (a5 i _ j ed p') λa8 b3 R3 q3=>?_;have a7:Grow (o.map Prod.snd) (o'.map Prod.snd) H1 H2:=g'.trans (Grow.same s2);have a9:Grow (o.map Prod.snd) (o'.map Prod.snd) H H2:=gg.trans (Grow.same s2);exact⟨a8,o',R3,_,q3,λq a2 H4 o4 g4 R4 q4=>⟨q,o4,a7.trans g4,R4,q4⟩,λq a2 H4 o4 g4 R4 q4=>k1 q a2 H4 o4 (a9.trans g4) R4 q4,λq a2 H4 o4 g4 R4 q4=>⟨q,o4,a7.trans g4,R4,q4⟩,k4⟩
 have e:i=ds.length:=by omega
 subst e;exact .inl ⟨I.stop H' _ a6,k1 j a0 H' o' gg R' (b0 j p')⟩
end
section
variable{te:TD}{t:TDs}
def impI{t t':TI}(h:PI X tg iter t)(i:∀ σ H R,t' σ H R->t σ H R):PI X tg iter t':=λpn s σ H R I q=>h pn s σ H R I (i σ H R q)
def PV(X:Cx)(tg:Expr)(r:V->Hp->(It->Hp->Prop)->Prop):Prop :=
 ∀(pn:List (Addr×Obj))(s:Shared)(σ:St)(H:Hp)(x:V)(v:Value)(R:It->Hp->Prop),Inv X pn σ H s->RelV x v->r x H R->wpAny (model X.prog X.w) X.A (pyIter v) (PIE X pn σ tg R) X.xe s
def z4x{l:Expr}{tl:TE}{r:V->Hp->(It->Hp->Prop)->Prop}(hl:PE X l tl)(Z:PV X tg r):PI X tg l (λσ H R=>tl σ H λx H1=>r x H1 R):=λpn s σ H R I h =>
 thn (hl pn s σ H _ I h) λv s1 ⟨x,H1,I1,j,q⟩=>Z pn s1 σ H1 x v R I1 j q
def Dw:PV X tg (λx H R=>∃a,x=.ref a/\(∃xs,SqL X.K H a xs)/\R (Itl X.K a) H):=by
 intro pn s1 σ H1 x v R j I Z;obtain⟨a,e,⟨xs,hq⟩,q⟩:=Z;subst e;cases I;obtain⟨its,rv,p,hz⟩:=j.list hq;refine wpAny_pyIter_list p.isList ?_;refine⟨s1.heap.objs.size,[s1.heap.objs.size],_,_,H1,rfl,j.kept (t':=s1.toks) λb o e=>zac _ e,W6 a _,⟨_,zad _ rfl,rfl,rfl⟩,λb hb=>?_,q⟩;have e:b=s1.heap.objs.size:=by simpa using hb
 subst e;exact j.fpOk (zaj _) (j.hok.fresh (zaj _))
def z1d:PV X tg (λx H R=>∃a,x=.ref a/\(∃xs,SqT X.K H a xs)/\R (Itt X.K a) H):=by
 intro pn s1 σ H1 x v R j I Z;obtain⟨a,e,⟨xs,hq⟩,q⟩:=Z;subst e;cases I;obtain⟨its,rv,p,hz⟩:=j.tuple hq;refine wpAny_pyIter_tuple (show s1.heap.IsTuple a its.toArray from p) ?_;refine⟨s1.heap.objs.size,[s1.heap.objs.size],_,_,H1,rfl,j.kept (t':=s1.toks) λb o e=>zac _ e,Qn a _,⟨_,zad _ rfl,rfl,rfl⟩,λb hb=>?_,q⟩;have e:b=s1.heap.objs.size:=by simpa using hb
 subst e;exact j.fpOk (zaj _) (j.hok.fresh (zaj _))
def z1e:PV X tg (λx H R=>∃z,x=.str z/\R (Itv z.cps.size (Ak z)) H):=by
 intro pn s1 σ H1 x v R Z r1 q1;obtain⟨z,e,q⟩:=q1;subst e;obtain⟨t,rfl⟩:=r1;have j:∀(T:String),(∀A:Around,A.handled=none->Walks X.prog X.w A s1.heap.objs.size [s1.heap.objs.size] [s1.heap.objs.size] z.cps.size (SignAt z) (λi h=>h.IsStrIter s1.heap.objs.size T z t i)) ->
   (∀(A:Around)(i:Nat)(s:Shared)(Q:Value->Shared->Prop)(E:Value->Shared->Prop),s.heap.IsStrIter s1.heap.objs.size T z t i->Q (.ref s1.heap.objs.size) s->wpAny (model X.prog X.w) A (pyIter (.ref s1.heap.objs.size)) Q E s) ->
   ["enumerate","zip","dict_itemiterator","dict_reverseitemiterator","odict_iterator","itertools.zip_longest","itertools.pairwise"].contains T=false ->
   PIE X pn σ tg R (.ref s1.heap.objs.size) {s1 with heap:=s1.heap.push {cls:=.type T,data:=.fields #[.str z t,.int 0 0]}}:=λT W hs hT=>by
  have I2:Inv X pn σ H1 {s1 with heap:=s1.heap.push {cls:=.type T,data:=.fields #[.str z t,.int 0 0]}}:=Z.kept (t':=s1.toks) λb u e=>zac _ e;refine⟨s1.heap.objs.size,[s1.heap.objs.size],_,_,H1,rfl,I2,Kh W hs hT,⟨_,zad _ rfl,rfl,rfl⟩,λb hb=>?_,q⟩;have e:b=s1.heap.objs.size:=by simpa using hb
  subst e;exact Z.fpOk (zaj _) Z.fresh
 cases ha:z.cps.all (·<128)
 ·exact wpAny_pyIter_wide ha (j "str_iterator" (λA I=>Walks.strWide I _ z t) (λA i s Q E st q=>wpAny_pyIter_striter_wide st q) (by decide))
 exact wpAny_pyIter_ascii ha (j "str_ascii_iterator" (λA I=>Walks.strAscii I _ z t) (λA i s Q E st q=>wpAny_pyIter_striter_ascii st q) (by decide))
def E3:D->Option (List D)
 |.lst ds=>some ds
 |.tup ds=>some ds
 |.scr ns=>some (ns.map D.int)
 |.str z=>some (z.cps.toList.map λc=>D.str ⟨#[c]⟩)
 |_=>none
def iSeq(te:TD):TID:=λL U=>te L λr=>(match r.k with|.own=>False|_=>True)/\match E3 r.d with
 |some ds=>U ds
 |none=>False
def z2w{K:W.Frag}{a:Addr}{ds:List D}:ItD K (Itl K a) ds (λH O=>∃xs,H a=some (.lst xs)/\a∉O/\Reps K H O ds xs) where
 go:=λH O i d ⟨xs,q,n,r⟩ e=>by
  obtain⟨v,j,I⟩:=r.get e;refine⟨⟨xs,v,SqL.of q,j⟩,λx H' y=>?_⟩;obtain⟨Z,y⟩:=y;subst Z;have:=y xs (SqL.of q);rw[j]at this;cases this;exact⟨Same.refl _,I⟩
 stop:=λH O ⟨xs,q,n,r⟩=>⟨xs,SqL.of q,by rw[r.length];exact zaj _⟩
 keep:=λO O' H H' ⟨xs,q,n,r⟩ g=>⟨xs,(g.keep _ _ q n).1,(g.keep _ _ q n).2,Reps.grow g _ _ r⟩
def z2t{K:W.Frag}{a:Addr}{ds:List D}:ItD K (Itt K a) ds (λH O=>∃xs,SqT K H a xs/\Reps K H O ds xs) where
 go:=λH O i d ⟨xs,q,r⟩ e=>by
  obtain⟨v,j,I⟩:=r.get e;refine⟨⟨xs,v,q,j⟩,λx H' y=>?_⟩;obtain⟨Z,y⟩:=y;subst Z;have:=y xs q;rw[j]at this;cases this;exact⟨Same.refl _,I⟩
 stop:=λH O ⟨xs,q,r⟩=>⟨xs,q,by rw[r.length];exact zaj _⟩
 keep:=λO O' H H' ⟨xs,q,r⟩ g=>⟨xs,Ye g q,Reps.grow g _ _ r⟩
def z2v{K:W.Frag}{a:Addr}{ns:List Int}:ItD K (Itl K a) (ns.map D.int) (λH _=>Scr K H a ns) where
 go:=λH O i d q e=>by
  rw[zai]at e;cases en:ns[i]? with
  |none=>rw[en]at e;cases e
  |some n =>
   rw[en]at e;cases e;have j:(ns.map V.int)[i]?=some (.int n):=by rw[zai,en];rfl
   refine⟨⟨_,_,q.seq,j⟩,λx H' y=>?_⟩;obtain⟨I,y⟩:=y;subst I;have:=y _ q.seq;rw[j]at this;cases this;exact⟨Same.refl _,rfl⟩
 stop:=λH O q=>⟨_,q.seq,by rw[zLm,zLm];exact zaj _⟩
 keep:=λO O' H H' q g=>gl g q
def z2u{K:W.Frag}{z:Str}:ItD K (Itv z.cps.size (Ak z)) (z.cps.toList.map λc=>D.str ⟨#[c]⟩) (λ_ _=>True) where
 go:=λH O i d _ e=>by
  rw[zai]at e;cases en:z.cps.toList[i]? with
  |none=>rw[en]at e;cases e
  |some n =>
   rw[en]at e;cases e;have hl:=(zag.mp en).1;refine⟨(show i<z.cps.size by simpa using hl),λx H' y=>?_⟩
   obtain⟨q,c,j,ex⟩:=y;subst q ex;have:z.cps.toList[i]?=some c:=by rw[Array.getElem?_toList];exact j
   rw[en]at this;cases this;exact⟨Same.refl _,rfl⟩
 stop:=λH O _=>by show _=_;simp
 keep:=λ_ _ _ _ _ _=>trivial
def rngD(lo:Int)(n:Nat):List D:=(List.range n).map λ(i:Nat)=>D.int (lo+(i:Int))
def E4{K:W.Frag}{lo:Int}{n:Nat}:ItD K (Itr lo n) (rngD lo n) (λ_ _=>True) where
 go:=λH O i d _ e=>by
  unfold rngD at e;rw[zai]at e;cases en:(List.range n)[i]? with
  |none=>rw[en]at e;cases e
  |some m =>
   rw[en]at e;cases e;have hl:=(zag.mp en).1;rw[List.length_range]at hl;have:m=i:=by
    rw[List.getElem?_range hl]at en;exact(Option.some.inj en).symm
   subst this;refine⟨hl,λx H' y=>?_⟩;obtain⟨j,ex⟩:=y;subst j ex;exact⟨Same.refl _,rfl⟩
 stop:=λH O _=>by show n<=_;unfold rngD;simp
 keep:=λ_ _ _ _ _ _=>trivial
def PV.or{r Z:V->Hp->(It->Hp->Prop)->Prop}(h:PV X tg r)(h':PV X tg Z):PV X tg (λx H R=>r x H R\/Z x H R):=λpn s σ H x v R I j q=>q.elim (h pn s σ H x v R I j) (h' pn s σ H x v R I j)
def yp(Z:ED Y X e te):EI Y X tg e (iSeq te):=λH_=>impI (z4x (Z H_) (Dw.or (z1d.or z1e))) λσ H R q=>by
 obtain⟨L,o,RE,U,j,k⟩:=q;refine⟨L,o,RE,_,j,λv r H1 s1 I h1=>?_⟩;obtain⟨h0,h1⟩:=h1;have rp:=I.solid (tm h0);obtain⟨kd,d⟩:=r;cases d with
 |lst ds =>
  obtain⟨a,xs,rfl,q,n,r⟩:=rp;exact .inl ⟨a,rfl,⟨xs,SqL.of q⟩,k _ _ _ H1 s1 z2w ⟨xs,q,n,r⟩ h1⟩
 |tup ds =>
  obtain⟨a,xs,rfl,q,r⟩:=rp;exact .inr (.inl ⟨a,rfl,⟨xs,q.1⟩,k _ _ _ H1 s1 z2t ⟨xs,q.1,r⟩ h1⟩)
 |scr ns =>
  obtain⟨a,rfl,q⟩:=rp;exact .inl ⟨a,rfl,⟨_,q.seq⟩,k _ _ _ H1 s1 z2v q h1⟩
 |str z =>
  cases (show v=_ from rp)
  exact .inr (.inr ⟨z,rfl,k _ _ _ H1 s1 z2u trivial h1⟩)
 |_=>exact h1.elim
def iR1(t:TDs):TID:=λL U=>t L λrs=>match rs with
 |[⟨_,.int j⟩]=>-(2 ^ 62)<=j/\j<2 ^ 62/\U (rngD 0 j.toNat)
 |_=>False
def iR2(t:TDs):TID:=λL U=>t L λrs=>match rs with
 |[⟨_,.int i⟩,⟨_,.int j⟩]=>(-(2 ^ 62)<=i/\i<2 ^ 62/\-(2 ^ 62)<=j/\j<2 ^ 62)/\U (rngD i (j-i).toNat)
 |_=>False
def wt(hm:X.mg "range" = none)(ha:EA Y X [a] t)(hg:Gl X "range":=by rfl)(hs:starEach [a] X.env=[(false,eval a X.env)]:=by rfl):EI Y X tg (.Call (.Name "range" p) [a] [] pos) (iR1 t):=λH_=>impI (Nn hg hm (ha H_) hs) λσ H R q=>by
 obtain⟨L,o,RE,U,Z,k⟩:=q;refine⟨L,o,RE,_,Z,λvs rs H1 s1 I h1=>?_⟩;split at h1
 ·rename_i kd j;obtain⟨v,ws,rfl,rv,rfl⟩:=I;cases (show v=_ from rv.view);exact⟨j,rfl,h1.1,h1.2.1,k _ _ _ H1 s1 E4 trivial h1.2.2⟩
 exact h1.elim
def L4(hm:X.mg "range" = none)(ha:EA Y X [a,b] t)(hg:Gl X "range":=by rfl)(hs:starEach [a,b] X.env=[(false,eval a X.env),(false,eval b X.env)]:=by rfl)(a1:starEach [b] X.env=[(false,eval b X.env)]:=by rfl):EI Y X tg (.Call (.Name "range" p) [a,b] [] pos) (iR2 t):=λH_=>impI (Nm hg hm (ha H_) hs a1) λσ H R q=>by
 obtain⟨L,o,RE,U,a0,k⟩:=q;refine⟨L,o,RE,_,a0,λvs rs H1 s1 I h1=>?_⟩;split at h1
 ·rename_i kd i a2 j;obtain⟨v,ws,rfl,rv,v2,ws2,rfl,Z,rfl⟩:=I;cases (show v=_ from rv.view);cases (show v2=_ from Z.view);exact⟨i,j,rfl,h1.1,k _ _ _ H1 s1 E4 trivial h1.2⟩
 exact h1.elim
end
section
variable{scope:Scope}{T F:List Str}{js:List Nat}{iter elt:Expr}{ifs:List Expr}{ti:TID}{g2:TG}{g:TGD}{tc:TDb}{te:TD}
def ρ0(n:Nat)(js:List Nat)(L:DE):DE:=List.replicate n none++js.map λj=>slot L j
def ixO(n:Nat)(js:List Nat)(j:Nat):Nat:=if j∈js then n+js.idxOf j else n+js.length+1+j
def Yg:∀{L:DE}{i:Nat}{r:EV},slot L i=some r ↔ L[i]?=some (some r)
 |[],_,_=>by simp[slot]
 |x::_,0,_=>by simp[slot]
 |_::l,i+1,r=>by rw[slot,List.getElem?_cons_succ];exact Yg (L:=l)
def ky{K:W.Frag}{H_ H H':Hp}{σ:St}{L:DE}{o:List (Nat×Addr)}{n:Nat}{js:List Nat}{D:Addr}{ys:List V}(R:REnv K H_ H σ L o)(nd:js.Nodup)(hD:H D=none)(s:Same H H')(a0:H' D=some (.lst ys))(Tn:List Str)(hT:Tn.length=n) :
  REnv K H_ H' (st0 Tn js σ) (ρ0 n js L) ((n+js.length,D)::o.map λp=>(ixO n js p.1,p.2)):=by
 have hO:((n+js.length,D)::o.map λp=>(ixO n js p.1,p.2)).map Prod.snd=D::o.map Prod.snd:=by
  rw[List.map_cons,List.map_map];rfl
 have g:Grow (o.map Prod.snd) (D::o.map Prod.snd) H H':=⟨λb u h nb=>⟨s b u h,λz=>(zam.mp z).elim (λe=>zp h hD e) nb⟩,λb xs h=>s b _ h,λb ob u h=>s b _ h⟩;have R':=R.to s;exact {
  same:=R'.same
  fresh:=λp I=>by
   rcases zam.mp I with rfl|I
   ·exact R.same.free hD
   obtain⟨q,hq,rfl⟩:=zah.mp I;exact R.fresh q hq
  trk:=λp I=>by
   rcases zam.mp I with rfl|I
   ·exact⟨_,a0⟩
   obtain⟨q,hq,rfl⟩:=zah.mp I;exact R'.trk q hq
  mtb:=λp I=>by
   rcases zam.mp I with rfl|I
   ·exact⟨(λxs z=>by rw[a0]at z;cases z),(λob u z=>by rw[a0]at z;cases z)⟩
   obtain⟨q,hq,rfl⟩:=zah.mp I;exact R'.mtb q hq
  nda:=by
   rw[hO,List.nodup_cons];exact⟨R.ofree hD,R.nda⟩
  len:=by
   unfold st0 ρ0;simp[hT]
  slots:=λi r e=>by
   rw[hO];unfold ρ0 at e;have hi:n<=i:=by
    rcases Nat.lt_or_ge i n with z|z
    ·rw[List.getElem?_append_left (by simpa using z),List.getElem?_replicate]at e
     split at e <;> cases e
    exact z
   rw[List.getElem?_append_right (by simpa using hi),List.length_replicate,zai]at e
   cases ej:js[i-n]? with
   |none=>rw[ej]at e;cases e
   |some j =>
    rw[ej]at e;have e':slot L j=some r:=Option.some.inj e;obtain⟨v,ev,q⟩:=R.slots j r (uw e');refine⟨v,?_,?_⟩
    ·unfold st0;rw[List.getElem?_append_right (by simpa [hT] using hi),List.length_replicate,zai,hT,ej]
     show some ((σ[j]?).join)=_;rw[ev];rfl
    rcases q with⟨k,q⟩|⟨k,a,e1,m,c⟩
    ·exact .inl ⟨k,Rep.grow g _ _ q⟩
    refine .inr ⟨k,a,e1,zal _ (zah.mpr ⟨_,m,?_⟩),c.grow (λu q=>s _ _ q) g⟩;have Z:j∈js:=zan ej;have a1:js.idxOf j=i-n:=by
     have h1:=(zag.mp ej);have h2:=List.getElem_idxOf (List.idxOf_lt_length_iff.mpr Z);exact(List.getElem_inj nd).mp (h2.trans h1.2.symm)
    show(ixO n js j,a)=(i,a);unfold ixO;rw[if_pos Z,a1]
    congr 1
    omega}
def bYes:TDb:=λ_ U=>U true
def A7(ti:TID)(n:Nat)(js:List Nat)(g:TGD)(tc:TDb)(te:TD):TD:=λL U=>ti L λds=>∃f:D->Option D,ds.length<=100000 /\
 (∀d∈ds,g d (ρ0 n js L) λj=>tc j λc=>(c=true->te j λr=>(match r.k with|.own=>False|_=>True)/\f d=some r.d)/\(c=false->f d=none))/\U (df (.lst (ds.filterMap f)))
def EIf(G:Hp->Prop)(X:Cx)(ifs:List Expr)(t:TDb):Prop:=∀H_:{H:Hp // G H},PIf X ifs (dt X.K H_.1 t)
def yg:EIf Y X [] bYes:=λH_ pn s σ H Q I h=>by
 obtain⟨L,o,R,U,j,k⟩:=h;exact C4 pn s σ H Q I (k true H (Same.refl H) j)
def yG{A B C D E:Type}{f:A->B->C->D->E->Cx}:∀a b c d e,EIf Y (f a b c d e) [] bYes:=λ_ _ _ _ _=>yg
def ck(h:ET Y X c tc):EIf Y X [c] tc:=λH_=>C3 (h H_)
def Mb(nd:js.Nodup)(hl:bu X.K g2 g):∀σ H Q,u7 X.K H_ (A7 ti T.length js g tc te) σ H Q->Om (Jz X.K H_ ti) T js g2 (dt X.K H_ tc) (u7 X.K H_ te) σ H Q:=λσ H Q q=>by
  obtain⟨L,o,R,U,b3,k⟩:=q;refine⟨L,o,R,_,b3,λJ ds P H1 s1 I hP ⟨f,b9,a6,b4⟩ Da j=>?_⟩;have R1:=R.to s1;have gD:∀{H':Hp},Same H1 H'->Grow (o.map Prod.snd) (Da::o.map Prod.snd) H1 H':=λs=>⟨λb u h nb=>⟨s b u h,λz=>(zam.mp z).elim (λe=>zp h j e) nb⟩,λb xs h=>s b _ h,λb ob u h=>s b _ h⟩;refine⟨λi m ys H'=>m=ds.length-i/\i<=ds.length/\Same H1 H'/\H' Da=some (.lst ys)/\Reps X.K H' (Da::o.map Prod.snd) ((ds.take i).filterMap f) ys,
   ⟨_,rfl,Nat.zero_le _,yh j _,zu,rfl⟩,?_⟩
  rintro i m ys H' ⟨rfl,c1,s2,a4,rp⟩;refine⟨a4,?_⟩;have a7:=I.keep _ _ _ _ hP (gD s2);by_cases hlt:i<ds.length
  ·have ed:ds[i]?=some ds[i]:=by simp[hlt]
   obtain⟨j1,j2⟩:=I.go H' _ i _ a7 ed;refine .inr ⟨j1,λzs H2=>Same H1 H2/\H2 Da=some (.lst zs)/\Reps X.K H2 (Da::o.map Prod.snd) ((ds.take (i+1)).filterMap f) zs,λzs H2 ⟨a1,a2,a3⟩=>⟨_,(by omega:ds.length-(i+1)<ds.length-i),rfl,hlt,a1,a2,a3⟩,λx H2 y=>?_⟩
   obtain⟨s3,rx⟩:=j2 x H2 y;have Z:=s2.trans s3;have a9:=s3 _ _ a4;have RB:=ky (n:=T.length) R1 nd j Z a9 T rfl;have hO:((T.length+js.length,Da)::o.map λp=>(ixO T.length js p.1,p.2)).map Prod.snd=Da::o.map Prod.snd:=by
    rw[List.map_cons,List.map_map];rfl
   have tk:(ds.take (i+1)).filterMap f=(ds.take i).filterMap f++(f ds[i]).toList:=by
    rw[List.take_succ,ed,List.filterMap_append];cases e:f ds[i] <;> simp[e]
   have b0:ys.length<=100000:=by
    rw[rp.length];refine zak (List.length_filterMap_le _ _) ?_;rw[List.length_take];omega
   refine hl H_ H2 (st0 T js σ) (ρ0 T.length js L) _ _ x _ _ RB (by rw[hO];exact rx) (a6 _ (List.getElem_mem hlt)) λa5 c0 R' q'=>?_
   refine⟨a5,_,R',_,q',λc H3 s4 h4=>?_⟩;have a8:=s4 _ _ a9;cases c with
   |false =>
    refine iteF ⟨Z.trans s4,a8,?_⟩;rw[tk,h4.2 rfl];simpa using Reps.grow (Grow.same (s3.trans s4)) _ _ rp
   |true =>
    refine iteT ⟨a5,_,R'.to s4,_,h4.1 rfl,λv r H4 s5 rv h5=>?_⟩;have a0:=s5 _ _ a8;have rd:=rv.solid (tm h5.1);rw[hO]at rd;have ne:∀b u,H1 b=some u->b≠Da:=λb u h=>zp h j;have gu:Grow (Da::o.map Prod.snd) (Da::o.map Prod.snd) H4 (upd H4 Da (.lst (ys++[v]))) :=
     ⟨λb u h n=>⟨by rw[zv (λz=>n (zam.mpr (.inl z)))];exact h,n⟩,λb xs h=>by rw[zv (λz=>by rw[z,a0]at h;cases h)];exact h,λb ob u h=>by rw[zv (λz=>by rw[z,a0]at h;cases h)];exact h⟩
    refine⟨a0,Nat.lt_of_le_of_lt b0 (by decide),⟨λb u h=>?_,zu,?_⟩⟩
    ·rw[zv (ne b u h)];exact s5 _ _ (s4 _ _ (Z b u h))
    rw[tk,h5.2];exact Reps.grow gu _ _ ((Reps.grow (Grow.same (s3.trans (s4.trans s5))) _ _ rp).append (Reps.one rd))
  have e:i=ds.length:=by omega
  subst e;rw[List.take_length]at rp;refine .inl ⟨I.stop H' _ a7,?_⟩;exact k (.ref Da) (df (.lst (ds.filterMap f))) H' (s1.trans s2) ⟨Da,rfl,s1.free j,R.ofree (s1.free j),ys,a4,rp⟩ b4
def cu(hi:EI Y X tg iter ti)(S:xf X.env.scope scope T F)(q:Paired (λx j=>X.N[j]?=some x) F js)(I:js.Nodup)(hg:∀ cl C fp s H,PG (x8 X (T++F) scope cl C fp s H) tg g2)(hk:Z8 T.length g2)(hl:bu X.K g2 g)(Z:∀ cl C fp s H,EIf Y (x8 X (T++F) scope cl C fp s H) ifs tc)(he:∀ cl C fp s H,ED Y (x8 X (T++F) scope cl C fp s H) elt te)(hc:X.calm=true:=by rfl)(hs:∀ x,foldedSetIterable iter X.env x=pure x:=by intro _;rfl):ED Y X (.ListComp elt [⟨tg,iter,ifs,0⟩] scope pos) (A7 ti T.length js g tc te):=λH_ =>
 impE (Ux (tc:=dt X.K H_.1 tc) (te:=u7 X.K H_.1 te) hc (hi H_) S q hg hk (λcl C fp s H=>Z cl C fp s H H_) (λcl C fp s H=>he cl C fp s H H_) hs) (Mb I hl)
end
section
variable{x:Str}{es:List Expr}{t:TDs}{p:Pos}
structure Kit(K:W.Frag):Prop where
 ne:∀q∈([("NoneType","int"),("NoneType","bool"),("NoneType","str"),("NoneType","tuple"),("NoneType","list"),("NoneType","dict"),("bool","str"),("bool","tuple"),("bool","list"),("bool","dict"),
  ("int","bool"),("int","str"),("int","tuple"),("int","list"),("int","dict"),("str","int"),("str","bool"),("str","tuple"),("str","list"),("str","dict"),
  ("tuple","int"),("tuple","bool"),("tuple","str"),("tuple","list"),("tuple","dict"),("list","int"),("list","bool"),("list","str"),("list","tuple"),("list","dict"),
  ("dict","int"),("dict","bool"),("dict","str"),("dict","tuple"),("dict","list")]:List (String×String)),W.kitOne K (.type q.1) (.type q.2)=some false
 bi:W.kitOne K (.type "bool") (.type "int")=some true
def Mg{K:W.Frag}:Kit K:=by
 constructor
 ·intro q j;simp only[zam,List.not_mem_nil,or_false]at j;rcases j with rfl|rfl|rfl|rfl|rfl|rfl|rfl|rfl|rfl|rfl|rfl|rfl|rfl|rfl|rfl|rfl|rfl|rfl|rfl|rfl|rfl|rfl|rfl|rfl|rfl|rfl|rfl|rfl|rfl|rfl|rfl|rfl|rfl|rfl|rfl <;> kernel_rfl
 kernel_rfl
def Hh{K:W.Frag}{T:String}:W.kitOne K (.type T) (.type T)=some true:=by
 unfold W.kitOne;rw[if_pos (by simp)]
def ug:bootBuiltins "str" = some (.type "str"):=by decide +kernel
def bh:bootBuiltins "int" = some (.type "int"):=by decide +kernel
def Pu:bootBuiltins "bool" = some (.type "bool"):=by decide +kernel
def Sf:bootBuiltins "tuple" = some (.type "tuple"):=by decide +kernel
def boot_list':bootBuiltins "list" = some (.type "list"):=by decide +kernel
def jd:bootBuiltins "dict" = some (.type "dict"):=by decide +kernel
def vv:bootBuiltins "isinstance" = some (.builtin "isinstance"):=by decide +kernel
def z2l{K:W.Frag}(a T:String)(h:(a,T)∈([("NoneType","int"),("NoneType","bool"),("NoneType","str"),("NoneType","tuple"),("NoneType","list"),("NoneType","dict"),("bool","str"),("bool","tuple"),("bool","list"),("bool","dict"),
  ("int","bool"),("int","str"),("int","tuple"),("int","list"),("int","dict"),("str","int"),("str","bool"),("str","tuple"),("str","list"),("str","dict"),
  ("tuple","int"),("tuple","bool"),("tuple","str"),("tuple","list"),("tuple","dict"),("list","int"),("list","bool"),("list","str"),("list","tuple"),("list","dict"),
  ("dict","int"),("dict","bool"),("dict","str"),("dict","tuple"),("dict","list")]:List (String×String))):W.kitOne K (.type a) (.type T)=some false:=Mg.ne (a,T) h
def Gs:D->String
 |.non=>"NoneType"
 |.bl _=>"bool"
 |.int _=>"int"
 |.str _=>"str"
 |.tup _=>"tuple"
 |.lst _=>"list"
 |.dk _ _=>"dict"
 |.ty _=>"type"
 |.cn _=>"tuple"
 |.scr _=>"list"
 |.exc _=>"exc"
 |.fd _=>"exc"
def Hi:List (String×String):=[("NoneType","int"),("NoneType","bool"),("NoneType","str"),("NoneType","tuple"),("NoneType","list"),("NoneType","dict"),("bool","str"),("bool","tuple"),("bool","list"),("bool","dict"),
  ("int","bool"),("int","str"),("int","tuple"),("int","list"),("int","dict"),("str","int"),("str","bool"),("str","tuple"),("str","list"),("str","dict"),
  ("tuple","int"),("tuple","bool"),("tuple","str"),("tuple","list"),("tuple","dict"),("list","int"),("list","bool"),("list","str"),("list","tuple"),("list","dict"),
  ("dict","int"),("dict","bool"),("dict","str"),("dict","tuple"),("dict","list")]
def isN(a T:String):Option Bool:=if a=T then some true else if a = "bool"/\T = "int" then some true else if (a,T)∈Hi then some false else none
def isT(d:D)(T:String):Option Bool:=match d with
 |.ty _=>none
 |.cn _=>none
 |.scr _=>none
 |.exc _=>none
 |.fd _=>none
 |d=>isN (Gs d) T
def Bf{K:W.Frag}{a T:String}{b:Bool}(h:isN a T=some b):W.kitOne K (.type a) (.type T)=some b:=by
 unfold isN at h;split at h
 ·rename_i q;cases h;subst q;exact Hh
 split at h
 ·rename_i q;cases h;obtain⟨rfl,rfl⟩:=q;exact Mg.bi
 split at h
 ·rename_i q;cases h;exact z2l a T q
 cases h
def Bc{K:W.Frag}{d:D}{T:String}{b:Bool}(h:isT d T=some b):W.kitOne K (.type (Gs d)) (.type T)=some b:=by
 cases d with
 |ty _=>cases h
 |cn _=>cases h
 |scr _=>cases h
 |exc _=>cases h
 |fd _=>cases h
 |_=>exact Bf h
def Td:isT .non "int" = some false:=(by decide:isN "NoneType" "int" = some false)
def V3:isT .non "bool" = some false:=(by decide:isN "NoneType" "bool" = some false)
def X6:isT .non "tuple" = some false:=(by decide:isN "NoneType" "tuple" = some false)
def Pd(b:Bool):isT (.bl b) "int" = some true:=(by decide:isN "bool" "int" = some true)
def Tj(b:Bool):isT (.bl b) "bool" = some true:=(by decide:isN "bool" "bool" = some true)
def V8(b:Bool):isT (.bl b) "tuple" = some false:=(by decide:isN "bool" "tuple" = some false)
def Tg(i:Int):isT (.int i) "int" = some true:=(by decide:isN "int" "int" = some true)
def V6(i:Int):isT (.int i) "bool" = some false:=(by decide:isN "int" "bool" = some false)
def Tf(i:Int):isT (.int i) "str" = some false:=(by decide:isN "int" "str" = some false)
def X8(i:Int):isT (.int i) "tuple" = some false:=(by decide:isN "int" "tuple" = some false)
def Tc(x:Str):isT (.str x) "int" = some false:=(by decide:isN "str" "int" = some false)
def V2(x:Str):isT (.str x) "bool" = some false:=(by decide:isN "str" "bool" = some false)
def Tb(x:Str):isT (.str x) "str" = some true:=(by decide:isN "str" "str" = some true)
def X5(x:Str):isT (.str x) "tuple" = some false:=(by decide:isN "str" "tuple" = some false)
def Ta(l:List D):isT (.tup l) "int" = some false:=(by decide:isN "tuple" "int" = some false)
def V1(l:List D):isT (.tup l) "bool" = some false:=(by decide:isN "tuple" "bool" = some false)
def X4(l:List D):isT (.tup l) "tuple" = some true:=(by decide:isN "tuple" "tuple" = some true)
def V0(l:List D):isT (.tup l) "list" = some false:=(by decide:isN "tuple" "list" = some false)
def Te(l:List D):isT (.lst l) "int" = some false:=(by decide:isN "list" "int" = some false)
def V5(l:List D):isT (.lst l) "bool" = some false:=(by decide:isN "list" "bool" = some false)
def X7(l:List D):isT (.lst l) "tuple" = some false:=(by decide:isN "list" "tuple" = some false)
def V4(l:List D):isT (.lst l) "list" = some true:=(by decide:isN "list" "list" = some true)
def Pb(k:List Key)(l:List D):isT (.dk k l) "int" = some false:=(by decide:isN "dict" "int" = some false)
def Ti(k:List Key)(l:List D):isT (.dk k l) "bool" = some false:=(by decide:isN "dict" "bool" = some false)
def V7(k:List Key)(l:List D):isT (.dk k l) "tuple" = some false:=(by decide:isN "dict" "tuple" = some false)
def Th(k:List Key)(l:List D):isT (.dk k l) "dict" = some true:=(by decide:isN "dict" "dict" = some true)
def Gf:ua X (.builtin "isinstance") (λxs H Q=>∃d x T b,xs=[x,.ty T]/\Rep X.K H [] d x/\isT d T=some b/\Q (.bl b) H):=by
 intro pn s σ H xs us Q I r h;obtain⟨d,x,T,b,rfl,rp,e,q⟩:=h;obtain⟨u,v,rfl,Z,rv⟩:=Ke r;cases rv;have ek:=Bc (K:=X.K) e;have j:∀tk,EP X pn σ Q (.bool b) {s with toks:=tk}:=λtk=>⟨.bl b,H,I.tok tk,rfl,q⟩;cases d with
 |non=>cases (show x=_ from rp);exact ut I Z .non ek j
 |bl c=>cases (show x=_ from rp);exact ut I Z (.bl c) ek j
 |int c=>cases (show x=_ from rp);exact ut I Z (.int c) ek j
 |str c=>cases (show x=_ from rp);exact ut I Z (.str c) ek j
 |ty _=>cases e
 |cn _=>cases e
 |scr _=>cases e
 |exc _=>cases e
 |fd _=>cases e
 |lst ds=>obtain⟨a,xs,rfl,q1,_⟩:=rp;exact ut I Z (.lst q1) ek j
 |dk ks ds=>obtain⟨a,xs,rfl,q1,_⟩:=rp;exact ut I Z (.dK q1) ek j
 |tup ds =>
  obtain⟨a,xs,rfl,q1,_⟩:=rp;cases (show u=Value.ref a from Z);obtain⟨its,_,p,_⟩:=I.tuple q1.1;obtain⟨o,h1,h2,_⟩:=p;exact W.kia_one W.kitx_tuple I.kIn ⟨o,h1,h2⟩ ek (λz=>nomatch z) j
def sIsI:FT:=λds U=>match ds with
 |[d,.ty T]=>match isT d T with
  |some b=>U (dv (.bl b))
  |none=>False
 |_=>False
def vn(Z:X.mg "isinstance" = none)(ha:EA Y X (e::es) t)(hg:Gl X "isinstance":=by rfl)(he:S_ X e es:=by rfl)(j:B_ X es pos:=by rfl):ED Y X (.Call (.Name "isinstance" p) (e::es) [] pos) (dCB sIsI t) :=
 fc Gf (λH O ds vs U Q ho I h k=>by
  unfold sIsI at h;split at h
  ·split at h
   ·rename_i d T b eb;obtain⟨v,ws,rfl,h1,q,ws2,rfl,h2,rfl⟩:=I;cases (show q=_ from h2);exact⟨_,v,_,_,rfl,h1.rep0,eb,k _ _ H (Same.refl H) (by exact rfl) h⟩
   exact h.elim
  exact h.elim) Z vv ha hg (by decide) (by decide) he j
def sStr:FT:=λds U=>match ds with
 |[.int i]=>i.natAbs.log2<1920/\U (dv (.str (toString i)))
 |_=>False
def L5(I:X.mg "str" = none)(ha:EA Y X (e::es) t)(Z:Gl X "str":=by rfl)(he:S_ X e es:=by rfl)(j:B_ X es pos:=by rfl):ED Y X (.Call (.Name "str" p) (e::es) [] pos) (dCB sStr t) :=
 vo Vw (λH O ds vs U Q ho q h k=>by
  unfold sStr at h;split at h
  ·obtain⟨v,ws,rfl,h1,rfl⟩:=q;cases (show v=_ from h1);exact⟨_,rfl,h.1,k _ _ H (Same.refl H) (by exact rfl) h.2⟩
  exact h.elim) I ug ha Z (by decide) (by decide) he j
def sTupC:FT:=λds U=>match ds with
 |[.lst l]=>U (dv (.tup l))
 |[.tup l]=>U (dv (.tup l))
 |_=>False
def x5(hm:X.mg "tuple" = none)(ha:EA Y X (e::es) t)(hg:Gl X "tuple":=by rfl)(he:S_ X e es:=by rfl)(j:B_ X es pos:=by rfl):ED Y X (.Call (.Name "tuple" p) (e::es) [] pos) (dCB sTupC t) :=
 vo Xw (λH O ds vs U Q ho I h k=>by
  unfold sTupC at h;split at h
  ·obtain⟨v,Z,rfl,⟨a,xs,rfl,q,r⟩,rfl⟩:=I;exact⟨a,xs,rfl,.inl ⟨SqL.of q,λl hl=>k _ _ _ (yh hl _) (Rf hl r) h⟩⟩
  ·obtain⟨v,Z,rfl,⟨a,xs,rfl,q,r⟩,rfl⟩:=I;exact⟨a,xs,rfl,.inr ⟨q.1,k (.ref a) (dv (.tup _)) H (Same.refl H) ⟨a,xs,rfl,q,r⟩ h⟩⟩
  exact h.elim) hm Sf ha hg (by decide) (by decide) he j
def sIntC:FT:=λds U=>match ds with
 |[.bl b]=>U (dv (.int (if b then 1 else 0)))
 |[.int i]=>U (dv (.int i))
 |_=>False
def Xq(Z:X.mg "int" = none)(ha:EA Y X (e::es) t)(hg:Gl X "int":=by rfl)(he:S_ X e es:=by rfl)(j:B_ X es pos:=by rfl):ED Y X (.Call (.Name "int" p) (e::es) [] pos) (dCB sIntC t) :=
 vo Lq (λH O ds vs U Q ho q h k=>by
  unfold sIntC at h;split at h
  ·obtain⟨v,I,rfl,h1,rfl⟩:=q;cases (show v=_ from h1);exact .inr ⟨_,rfl,k _ _ H (Same.refl H) (by exact rfl) h⟩
  ·obtain⟨v,I,rfl,h1,rfl⟩:=q;cases (show v=_ from h1);exact .inl ⟨_,rfl,k _ _ H (Same.refl H) (by exact rfl) h⟩
  exact h.elim) Z bh ha hg (by decide) (by decide) he j
end
variable{x:Str}{te:TD}{apos np cpos:Pos}
def sApp(i:Nat)(te:TD):TDS:=λL Z=>match slot L i with
 |some ⟨.own,.lst ds⟩=>te L λr=>(match r.k with|.own=>False|_=>True)/\ds.length<=100000/\Z.nx (setS L i (dO (.lst (ds++[r.d]))))
 |_=>False
def qi(i:Nat)(he:ED Y X e te)(hN:X.N[i]?=some x:=by rfl)(hv:Vis X.env.scope x:=by walk_at "o")(hd:D_ x:=by decide)(a1:(x==("__classdict__" : Str))=false:=by decide)(hp:∀ {ta tb:TE},PE X (.Name x np) ta->PE X e tb->PS X (.Expr (.Call (.Attribute (.Name x np) "append" apos) [e] [] cpos) pos) (D7 (tBM X.K "list" Na ta (D8 tb tNil))):=by
   intro ta tb h1 h2;exact kz (Uz PySem.F.plainAttrs_list PySem.F.slot_list_append PySem.F.type_list_append sv h1 (xw h2 vh))) :
  SD Y X (.Expr (.Call (.Attribute (.Name x np) "append" apos) [e] [] cpos) pos) (sApp i te):=λH_=>impS (hp (rk hN hv hd a1) (he H_)) λD σ H h=>by
 obtain⟨L,o,R,Z,q,k1,k2,k3,k4⟩:=h;unfold sApp at q;split at q
 ·rename_i ds es;obtain⟨v0,j,q0⟩:=R.slots i _ (uw es);rcases q0 with⟨k,_⟩|⟨_,a,rfl,m,c⟩
  ·cases k
  obtain⟨xs,hx,rx⟩:=c;refine⟨.ref a,j,.inl ⟨rfl,xs,SqL.of hx⟩,?_⟩;refine⟨L,o,R,_,q,λv r H1 s1 rv h1=>?_⟩;obtain⟨h0,hl,hn⟩:=h1;have a0:=s1 _ _ hx;have R1:=R.to s1;have I:=Reps.grow (Grow.same s1) _ _ rx;refine⟨a,xs,v,rfl,rfl,a0,?_,?_⟩
  ·rw[rx.length];exact Nat.lt_of_le_of_lt hl (by decide)
  obtain⟨R2,g2⟩:=R1.chg (d':=.lst (ds++[r.d])) (ho:=.lst (xs++[v])) (uw es) j m ⟨λ_ z=>(by cases z),λ_ _ z=>(by cases z)⟩ λgr=>⟨xs++[v],zu,gr _ _ (I.append (Reps.one (rv.solid (tm h0))))⟩
  exact k1 _ σ _ o ((Grow.same s1).trans g2) R2 hn
 exact q.elim
def wj(n:Nat)(ds:List D):DE:=ds.map (λd=>some (dv d))++List.replicate (n-ds.length) none
def Ea{x qual:Str}{st:Stmt}{f:Addr}{fd:FuncData}{N ps:List Str}{k:Nat}{T:FT}(F:Fun K x qual st f fd)(S:zt N ps (zh st))(qY:∀ (qZ:Value) (A:Around) (outer:List Env) (s:Shared) (H:Hp) (E:XK) (ds:List D) (U:EV->Prop),Room k (A.deeper (envOfC qual (zh st) s.heap.objs.size f qZ))->ds.length=ps.length->T ds U ->
   ∃ t,SDs (λ_=>True) (cxOf CX0 P w K mg base N qual (zh st) f qZ A outer s H E).nox (xp st) t/\t (wj N.length ds) {nx:=λ_=>U (dv .non),rt:=λr=>vk r/\U r}):FnOk P w K mg base CX0 (k+1) f fd ps (spD K ps.length T):=by
 refine F.ok S (λvs H Q E h=>?_) (λqZ A outer s H vs Q E hr h=>?_)
 ·obtain⟨ds,U,hl,r,_⟩:=h;rw[r.length,hl]
 obtain⟨ds,U,hl,r,hT,Z⟩:=h;obtain⟨t,ht,hq⟩:=qY qZ A outer s H E ds U hr hl hT;have I:=r.length;refine⟨Yz K H t,ht ⟨H,trivial⟩,wj N.length ds,[],⟨Same.refl H,(λ_ z=>absurd z (by simp)),(λ_ z=>absurd z (by simp)),(λ_ z=>absurd z (by simp)),List.nodup_nil,λi r' e=>?_,?_⟩,_,hq,λa1 a0 H' o' g R' q=>?_,λ_ _ _ _ _ _ q=>q.elim,λ_ _ _ _ _ _ q=>q.elim,λv r' H' s' j q=>Z v r' H' s' j q.1 q.2⟩
 ·unfold wj at e;rcases Nat.lt_or_ge i ds.length with hi|hi
  ·rw[List.getElem?_append_left (by simpa using hi),zai]at e
   have ed:ds[i]?=some ds[i]:=by simp[hi]
   rw[ed]at e;have e':some (dv ds[i])=some r':=Option.some.inj e;cases e';obtain⟨v,ev,j⟩:=r.get ed;refine⟨v,?_,.inl ⟨rfl,j⟩⟩;unfold ZZ.start;rw[List.getElem?_append_left (by rw[zLm,I];exact hi),zai,ev]
   rfl
  rw[List.getElem?_append_right (by simpa using hi),List.getElem?_replicate]at e
  split at e <;> cases e
 ·unfold ZZ.start wj;simp[I]
 exact Z .non (dv .non) H' R'.same rfl trivial q
def x6{x qual:Str}{st:Stmt}{f:Addr}{fd:FuncData}{N ps:List Str}{k:Nat}{T:FT}(F:Fun K x qual st f fd)(S:zt N ps (zh st))(b:k8 K fd ps [])(m:mg x=some (.ref f))(j:∀ (qZ:Value) (A:Around) (outer:List Env) (s:Shared) (H:Hp) (E:XK) (ds:List D) (U:EV->Prop),Room k (A.deeper (envOfC qual (zh st) s.heap.objs.size f qZ))->ds.length=ps.length->T ds U ->
   ∃ t,SDs (λ_=>True) (cxOf CX0 P w K mg base N qual (zh st) f qZ A outer s H E).nox (xp st) t/\t (wj N.length ds) {nx:=λ_=>U (dv .non),rt:=λr=>vk r/\U r}):FD P w K mg base (k+1) x ps T:=⟨f,fd,Ea F S j,b,F.kp,m⟩
def lawT:FT:=λds U=>∃ns:List Int,ds=[.scr ns]/\ns.length<=63/\U (dv (.bl true))
def walkD{l:W.OpenLaw}{XP:(Str->Option Value)->Heap->Prop}{YP:World->Heap->Prop}{d:DefRec}{K:Params->W.Frag}{x:Str}{k:Nat}(Z:l.most=some 63)(j:d.params.defaults=[])(hr:Room k callerA)(hY:∀ (w:World) (h:Heap),YP w h->(K w.params).In h)(F:∀ (w:World) (mg:Str->Option Value) (fa:Addr) (h:Heap),(K w.params).In h->h.Ns mainGlobals mg->mg d.name=some (.ref fa) ->
   ∃ fd:FuncData,(∀ (s:Shared) (u:Value),BindsTo s fd ⟨[u],[]⟩ [(x,u)])/\∀ base:Heap,(K w.params).In base->base.Ns mainGlobals mg->FnOk l.prog w (K w.params) mg base CX0 k fa fd [x] (spD (K w.params) 1 lawT)) :
  W.WalkO q loose XP YP l.row.toRowW d [] (λf vs=>PySem.call f vs) :=
 ZZ.walk_of (n:=63) (k:=k) (x:=x) (CX:=λ_=>CX0) (sp:=λw=>spD (K w.params) 1 lawT) Z (by decide) j hr hY F (λw H a ns hl ho hS=>by
  refine⟨[.scr ns],λr=>r=dv (.bl true),rfl,⟨.ref a,[],rfl,⟨a,rfl,?_⟩,rfl⟩,⟨ns,rfl,hl,rfl⟩,λv r H' s I p e=>by subst e;exact I⟩
  rcases hS with(h|⟨o,h⟩)|h
  ·rcases ho a with z|⟨o,xs,z⟩
   ·rw[z]at h;cases h
   rw[z]at h;cases h
  ·exact .inl ⟨o,h⟩
  exact .inr h) λ_ _ _ _ _ z=>z
def Qw{xs:Array Value}{x:Value}(hi:s.heap.IsTupleIter it l i)(hl:s.heap.IsTuple l xs)(Z:xs[i]?=some x)(hQ:∀ g,g.IsTupleIter it l (i+1)->Heap.SameBut it s.heap g->Q x {s with heap:=g}):wpAny (model P w) A (Builtin.SmallTypes.nextOf (.ref it)) Q E s:=by
 obtain⟨o,ho,hc,j⟩:=id hi;obtain⟨ol,q,_,nl,I⟩:=hl;unfold Builtin.SmallTypes.nextOf;refine zaa (wpAny_callSpecial?_slot (name:=Str.ofString "__next__") hi.typeIs F.slot_tuple_iterator_next (wpAny_call_entry F.slot_tuple_iterator_next hi.typeIs F.entry_tuple_iterator_next ?_ (F.args_tuple_iterator_next_1 _)));show wpAny _ _ (field (.ref it) 0 >>= _) _ _ s;refine zaa (wpAny_field ho j (x:=.ref l) rfl ?_);show wpAny _ _ (if (Value.ref l==Value.none)=true then _ else _) _ _ s
 rw[if_neg (show ¬ ((Value.ref l==Value.none)=true) from Bool.false_ne_true)];show wpAny _ _ (field (.ref it) 1 >>= _) _ _ s;refine zaa (wpAny_field ho j (x:=.int i 0) rfl ?_);show wpAny _ _ (seqItems? (.ref l) >>= _) _ _ s;refine zaa (wpAny_seqItems q I ?_);simp only[Int.toNat_natCast,Z];refine zaa (wpAny_setField ho j (by simp) (zab ⟨x,rfl,zab (hQ _ ⟨_,Heap.get?_update_self _ ho (Obj.isFreed_of_fields (Obj.data_mapFields j _)),(Obj.cls_mapFields ..).trans hc,?_⟩ (Heap.SameBut.update ..))⟩))
 rw[Obj.data_mapFields j];simp[rawInt]
def M2{xs:Array Value}(Z:A.handled=none)(hi:s.heap.IsTupleIter it l i)(hl:s.heap.IsTuple l xs)(hx:xs[i]?=none)(hE:∀ g e,Heap.ExtBut it s.heap g->(∃ o,g.get? e=some o/\o.cls=.type "StopIteration")->E (.ref e) {s with heap:=g}):wpAny (model P w) A (Builtin.SmallTypes.nextOf (.ref it)) Q E s:=by
 obtain⟨o,ho,hc,I⟩:=id hi;obtain⟨ol,j,_,nl,q⟩:=hl;unfold Builtin.SmallTypes.nextOf;refine zaa (wpAny_callSpecial?_slot (name:=Str.ofString "__next__") hi.typeIs F.slot_tuple_iterator_next (wpAny_call_entry F.slot_tuple_iterator_next hi.typeIs F.entry_tuple_iterator_next ?_ (F.args_tuple_iterator_next_1 _)));show wpAny _ _ (field (.ref it) 0 >>= _) _ _ s;refine zaa (wpAny_field ho I (x:=.ref l) rfl ?_);show wpAny _ _ (if (Value.ref l==Value.none)=true then _ else _) _ _ s
 rw[if_neg (show ¬ ((Value.ref l==Value.none)=true) from Bool.false_ne_true)];show wpAny _ _ (field (.ref it) 1 >>= _) _ _ s;refine zaa (wpAny_field ho I (x:=.int i 0) rfl ?_);show wpAny _ _ (seqItems? (.ref l) >>= _) _ _ s;refine zaa (wpAny_seqItems j q ?_);simp only[Int.toNat_natCast,hx];refine zaa (wpAny_rule (zaa (wpAny_setField ho I (by simp) ?_)))
 show wpAny _ _ (newExc (.type "StopIteration") [] >>= _) _ _ _;refine zaa ?_;simp only[newExc,newTuple];refine zaa (wpAny_newObj_type ?_ (by size_fits))
 refine zaa (m:=firstArgMember _ _) (wpAny_of_eq (a:=Value.none) (by first|rfl|(simp only[firstArgMember];rfl)) ?_)
 refine wpAny_newObj_type ?_ (by size_fits)
 simp only[raiseNew];refine zaa (wpAny_handled ?_)
 first|rw[show A.in1.handled=none from Z]|rw[Z]
 exact zaa (zab (wpAny_throw (hE _ _ (((Heap.SameBut.update ..).extBut.push _).push _) ⟨_,zad _ rfl,rfl⟩)))
def SqAt(b:Bool)(h:Heap)(l:Addr)(xs:Array Value):Prop:=match b with
 |true=>h.IsTuple l xs
 |false=>h.IsList l xs
def ItAt(b:Bool)(h:Heap)(it l:Addr)(i:Nat):Prop:=match b with
 |true=>h.IsTupleIter it l i
 |false=>h.IsListIter it l i
def SqAt.at{b:Bool}{h g:Heap}{l:Addr}{xs:Array Value}(x:SqAt b h l xs)(k:∀ o,h.get? l=some o->g.get? l=some o):SqAt b g l xs:=by
 cases b with
 |true=>exact Heap.IsTuple.at (show h.IsTuple l xs from x) k
 |false=>exact Heap.IsList.at (show h.IsList l xs from x) k
def ItAt.at{b:Bool}{h g:Heap}{it l:Addr}{i:Nat}(x:ItAt b h it l i)(k:∀ o,h.get? it=some o->g.get? it=some o):ItAt b g it l i:=by
 cases b with
 |true=>exact Heap.IsTupleIter.at (show h.IsTupleIter it l i from x) k
 |false=>exact Heap.IsListIter.at (show h.IsListIter it l i from x) k
def ur{b:Bool}{xs:Array Value}{x:Value}(hi:ItAt b s.heap it l i)(hl:SqAt b s.heap l xs)(j:xs[i]?=some x)(q:∀ g,ItAt b g it l (i+1)->Heap.SameBut it s.heap g->Q x {s with heap:=g}):wpAny (model P w) A (Builtin.SmallTypes.nextOf (.ref it)) Q E s:=by
 cases b with
 |true=>exact Qw hi hl j q
 |false=>exact wpAny_nextOf_list_item hi hl j q
def db{b:Bool}{xs:Array Value}(q:A.handled=none)(hi:ItAt b s.heap it l i)(hl:SqAt b s.heap l xs)(j:xs[i]?=none)(I:∀ g e,Heap.ExtBut it s.heap g->(∃ o,g.get? e=some o/\o.cls=.type "StopIteration")->E (.ref e) {s with heap:=g}):wpAny (model P w) A (Builtin.SmallTypes.nextOf (.ref it)) Q E s:=by
 cases b with
 |true=>exact M2 q hi hl j I
 |false=>exact wpAny_nextOf_list_end q hi hl j I
structure ZAt(b1 b2:Bool)(g:Heap)(z ti to i1 i2 l1 l2:Addr)(f:Value)(k:Nat):Prop where
 zz:IsZip g z ti to f
 its:IsPair g ti (.ref i1) (.ref i2)
 out:∃a b,IsPair g to a b
 one:ItAt b1 g i1 l1 k
 two:ItAt b2 g i2 l2 k
structure ZNe(z ti to i1 i2:Addr):Prop where
 ab:ti≠z
 ac:to≠z
 ad:i1≠z
 ae:i2≠z
 bc:ti≠to
 bd:ti≠i1
 be:ti≠i2
 cd:to≠i1
 ce:to≠i2
 de:i1≠i2
def ZOff(z to i1 i2 c:Addr):Prop:=c≠z/\c≠to/\c≠i1/\c≠i2
def K4{b1 b2:Bool}{k:Nat}{xs ys:Array Value}{x y:Value}{Q:Value->Shared->Prop}(D:ZNe z ti to i1 i2)(d1:ZOff z to i1 i2 l1)(d2:ZOff z to i1 i2 l2)(Z:ZAt b1 b2 s.heap z ti to i1 i2 l1 l2 .none k)(t1:SqAt b1 s.heap l1 xs)(t2:SqAt b2 s.heap l2 ys)(hx:xs[k]?=some x)(hy:ys[k]?=some y)(hQ:∀ g,ZAt b1 b2 g z ti to i1 i2 l1 l2 (rawInt s.heap.objs.size) (k+1)->IsPair g s.heap.objs.size x y->(∀ c o,ZOff z to i1 i2 c->s.heap.get? c=some o->g.get? c=some o)->Q (.ref s.heap.objs.size) {s with heap:=g}) :
  wpAny (model P w) A (Builtin.«zip.__next__» ⟨[.ref z],[]⟩) (λa6 s'=>∃v,a6=.done (.ret v)/\Q v s') E s:=by
 obtain⟨hz,a4,⟨a,b,a5⟩,h1,h2⟩:=Z;show wpAny _ _ (field (.ref z) 2 >>= _) _ _ _;refine zaa (wpAny_field hz rfl (x:=.bool false) rfl ?_);show wpAny _ _ (field (.ref z) 3 >>= _) _ _ _;refine zaa (wpAny_field hz rfl (x:=.ref ti) rfl ?_);refine zaa (wpAny_seqItems a4 rfl ?_);show wpAny _ _ (Builtin.SmallTypes.ownedTupleIsFree (.ref z) >>= _) _ _ _;refine zaa ?_;unfold Builtin.SmallTypes.ownedTupleIsFree;refine zaa (wpAny_field hz rfl (x:=.none) rfl (zab ?_));simp only[if_true];refine zaa (wpAny_rule ?_);refine zaa (wpAny_field hz rfl (x:=.ref to) rfl ?_);refine zaa (wpAny_setField_rec hz (by simp) λg1 z1 s1=>?_)
 replace z1:IsZip g1 z ti to .ellipsis:=z1
 refine zaa ?_;simp only[List.zipIdx_cons,List.zipIdx_nil,List.forIn_cons,List.forIn_nil];refine zaa (zaa (wpAny_onRaise ?_));show wpAny _ _ (Builtin.SmallTypes.nextOf (.ref i1) >>= _) _ _ _;refine zaa (ur (h1.at λo e=>s1.extBut _ o D.ad e) (t1.at λo e=>s1.extBut _ o d1.1 e) hx λg2 p2 s2=>zab ?_);have a1:IsPair g2 to a b:=s2.extBut _ _ D.cd (s1.extBut _ _ D.ac a5);refine zaa (wpAny_seqItems a1 rfl (zaa (wpAny_updateSeq_pair a1 λg3 I s3=>?_)))
 replace I:IsPair g3 to x b:=I
 refine zaa (wpAny_letGo (zab (zaa (zaa (wpAny_onRaise ?_)))));show wpAny _ _ (Builtin.SmallTypes.nextOf (.ref i2) >>= _) _ _ _;refine zaa (ur (h2.at λo e=>s3.extBut _ o D.ce.symm (s2.extBut _ o D.de.symm (s1.extBut _ o D.ae e))) (t2.at λo e=>s3.extBut _ o d2.2.1 (s2.extBut _ o d2.2.2.1 (s1.extBut _ o d2.1 e))) hy λg4 p4 s4=>zab ?_);have a0:IsPair g4 to x b:=s4.extBut _ _ D.ce I;refine zaa (wpAny_seqItems a0 rfl (zaa (wpAny_updateSeq_pair a0 λg5 j s5=>?_)))
 replace j:IsPair g5 to x y:=j
 refine zaa (wpAny_letGo (zab (zab (zaa (wpAny_seqItems j rfl (zaa (wpAny_newTuple ?_)))))));have sz:g5.objs.size=s.heap.objs.size:=by rw[s5.1,s4.1,s3.1,s2.1,s1.1]
 have z5:IsZip g5 z ti to .ellipsis:=s5.extBut _ _ D.ac.symm (s4.extBut _ _ D.ae.symm (s3.extBut _ _ D.ac.symm (s2.extBut _ _ D.ad.symm z1)));have a2:∀c o,ZOff z to i1 i2 c->s.heap.get? c=some o->g5.get? c=some o:=λc o q e=>s5.extBut _ _ q.2.1 (s4.extBut _ _ q.2.2.2 (s3.extBut _ _ q.2.1 (s2.extBut _ _ q.2.2.1 (s1.extBut _ _ q.1 e))));have q1:ItAt b1 g5 i1 l1 (k+1):=p2.at λo e=>s5.extBut _ o D.cd.symm (s4.extBut _ o D.de (s3.extBut _ o D.cd.symm e));have q2:ItAt b2 g5 i2 l2 (k+1):=p4.at λo e=>s5.extBut _ o D.ce.symm e;have lz:z<g5.objs.size:=zae z5;show wpAny _ _ (Builtin.SmallTypes.ownedTupleHandOut (.ref z) (.ref g5.objs.size) >>= _) _ _ _;refine zaa ?_;unfold Builtin.SmallTypes.ownedTupleHandOut;have z6:IsZip (g5.push {cls:=.type "tuple",data:=.seq #[x,y]}) z ti to .ellipsis:=zac _ z5;refine zaa (wpAny_setField_rec z6 (by simp) λg7 z7 s7=>?_)
 replace z7:IsZip g7 z ti to (rawInt g5.objs.size):=z7
 refine wpAny_setField_rec z7 (by simp) λg8 z8 s8=>?_
 replace z8:IsZip g8 z ti to (rawInt g5.objs.size):=z8
 have up:∀c o,c≠z->g5.get? c=some o->g8.get? c=some o:=λc o c1 e=>s8.extBut _ _ c1 (s7.extBut _ _ c1 (zac _ e));have pr:IsPair g8 g5.objs.size x y:=s8.extBut _ _ (Nat.ne_of_gt lz) (s7.extBut _ _ (Nat.ne_of_gt lz) (zad _ rfl));rw[sz]at z8 pr;refine zab ⟨_,rfl,?_⟩;show Q (.ref g5.objs.size) _;rw[sz];exact hQ g8 ⟨z8,up _ _ D.ab (a2 _ _ ⟨D.ab,D.bc,D.bd,D.be⟩ a4),⟨_,_,up _ _ D.ac j⟩,q1.at λo e=>up _ o D.ad e,q2.at λo e=>up _ o D.ae e⟩ pr λc o q e=>up c o q.1 (a2 c o q e)
def Eu{xs ys:Array Value}{Q:Fin->Shared->Prop}(hh:A.handled=none)(D:ZNe z ti to i1 i2)(d1:ZOff z to i1 i2 l1)(d2:ZOff z to i1 i2 l2)(Z:ZAt b1 b2 s.heap z ti to i1 i2 l1 l2 .none k)(t1:SqAt b1 s.heap l1 xs)(t2:SqAt b2 s.heap l2 ys)(a1:xs[k]?=none\/ys[k]?=none)(hE:∀ g e,(∀ c o,ZOff z to i1 i2 c->s.heap.get? c=some o->g.get? c=some o)->(∃ o,g.get? e=some o/\o.cls=.type "StopIteration")->E (.ref e) {s with heap:=g}) :
  wpAny (model P w) A (Builtin.«zip.__next__» ⟨[.ref z],[]⟩) Q E s:=by
 obtain⟨hz,a4,⟨a,b,a2⟩,h1,h2⟩:=Z;show wpAny _ _ (field (.ref z) 2 >>= _) _ _ _;refine zaa (wpAny_field hz rfl (x:=.bool false) rfl ?_);show wpAny _ _ (field (.ref z) 3 >>= _) _ _ _;refine zaa (wpAny_field hz rfl (x:=.ref ti) rfl ?_);refine zaa (wpAny_seqItems a4 rfl ?_);show wpAny _ _ (Builtin.SmallTypes.ownedTupleIsFree (.ref z) >>= _) _ _ _;refine zaa ?_;unfold Builtin.SmallTypes.ownedTupleIsFree;refine zaa (wpAny_field hz rfl (x:=.none) rfl (zab ?_));simp only[if_true];refine zaa (wpAny_rule ?_);refine zaa (wpAny_field hz rfl (x:=.ref to) rfl ?_);refine zaa (wpAny_setField_rec hz (by simp) λg1 z1 s1=>?_)
 replace z1:IsZip g1 z ti to .ellipsis:=z1
 refine zaa ?_;simp only[List.zipIdx_cons,List.zipIdx_nil,List.forIn_cons,List.forIn_nil];refine zaa (zaa (wpAny_onRaise ?_));show wpAny _ _ (Builtin.SmallTypes.nextOf (.ref i1) >>= _) _ _ _;cases hx:xs[k]? with
 |none =>
  refine zaa (db hh (h1.at λo e=>s1.extBut _ o D.ad e) (t1.at λo e=>s1.extBut _ o d1.1 e) hx λg2 e s2 he=>?_);obtain⟨oe,j,I⟩:=he;have z2:IsZip g2 z ti to .ellipsis:=s2 _ _ D.ad.symm z1;have ez:e≠z:=λx=>by subst x;rw[z2]at j;cases j;simp at I
  exact wpAny_setField_rec z2 (by simp) λg3 _ s3=>hE g3 e (λc o q x=>s3.extBut _ _ q.1 (s2 _ _ q.2.2.1 (s1.extBut _ _ q.1 x))) ⟨oe,s3.extBut _ _ ez j,I⟩
 |some x =>
  have hy:ys[k]?=none:=by rcases a1 with h|h;rw[hx]at h;cases h;exact h
  refine zaa (ur (h1.at λo e=>s1.extBut _ o D.ad e) (t1.at λo e=>s1.extBut _ o d1.1 e) hx λg2 p2 s2=>zab ?_);have a0:IsPair g2 to a b:=s2.extBut _ _ D.cd (s1.extBut _ _ D.ac a2);refine zaa (wpAny_seqItems a0 rfl (zaa (wpAny_updateSeq_pair a0 λg3 a5 s3=>?_)));refine zaa (wpAny_letGo (zab (zaa (zaa (wpAny_onRaise ?_)))));show wpAny _ _ (Builtin.SmallTypes.nextOf (.ref i2) >>= _) _ _ _;refine zaa (db hh (h2.at λo e=>s3.extBut _ o D.ce.symm (s2.extBut _ o D.de.symm (s1.extBut _ o D.ae e))) (t2.at λo e=>s3.extBut _ o d2.2.1 (s2.extBut _ o d2.2.2.1 (s1.extBut _ o d2.1 e))) hy λg4 e s4 he=>?_);obtain⟨oe,j,I⟩:=he;have z4:IsZip g4 z ti to .ellipsis:=s4 _ _ D.ae.symm (s3.extBut _ _ D.ac.symm (s2.extBut _ _ D.ad.symm z1));have ez:e≠z:=λx=>by subst x;rw[z4]at j;cases j;simp at I
  exact wpAny_setField_rec z4 (by simp) λg5 _ s5=>hE g5 e (λc o q x=>s5.extBut _ _ q.1 (s4 _ _ q.2.2.2 (s3.extBut _ _ q.2.1 (s2.extBut _ _ q.2.2.1 (s1.extBut _ _ q.1 x))))) ⟨oe,s5.extBut _ _ ez j,I⟩
def Wt{xs ys:Array Value}{x y:Value}{Q:Option Value->Shared->Prop}(D:ZNe z ti to i1 i2)(d1:ZOff z to i1 i2 l1)(d2:ZOff z to i1 i2 l2)(Z:ZAt b1 b2 s.heap z ti to i1 i2 l1 l2 .none k)(q:SqAt b1 s.heap l1 xs)(j:SqAt b2 s.heap l2 ys)(hx:xs[k]?=some x)(I:ys[k]?=some y)(hQ:∀ g,ZAt b1 b2 g z ti to i1 i2 l1 l2 (rawInt s.heap.objs.size) (k+1)->IsPair g s.heap.objs.size x y->(∀ c o,ZOff z to i1 i2 c->s.heap.get? c=some o->g.get? c=some o)->Q (some (.ref s.heap.objs.size)) {s with heap:=g}) :
  wpAny (model P w) A (pyNext (.ref z)) Q E s:=by
 have ty:s.TypeIs (.ref z) "zip":=⟨_,Z.zz,rfl⟩;unfold pyNext;exact zaa (wpAny_attempt (wpAny_callSpecial?_slot (name:=Str.ofString "__next__") ty F.slot_zip_next (wpAny_call_entry F.slot_zip_next ty F.entry_zip_next (K4 D d1 d2 Z q j hx I λg a b c=>zab (hQ g a b c)) (F.args_zip_next_1 _))))
def Rq{xs ys:Array Value}{Q:Option Value->Shared->Prop}(hh:A.handled=none)(D:ZNe z ti to i1 i2)(d1:ZOff z to i1 i2 l1)(d2:ZOff z to i1 i2 l2)(Z:ZAt b1 b2 s.heap z ti to i1 i2 l1 l2 .none k)(I:SqAt b1 s.heap l1 xs)(q:SqAt b2 s.heap l2 ys)(j:xs[k]?=none\/ys[k]?=none)(hQ:∀ g,(∀ c o,ZOff z to i1 i2 c->s.heap.get? c=some o->g.get? c=some o)->Q none {s with heap:=g}):wpAny (model P w) A (pyNext (.ref z)) Q E s:=by
 have ty:s.TypeIs (.ref z) "zip":=⟨_,Z.zz,rfl⟩;unfold pyNext;refine zaa (wpAny_attempt (wpAny_callSpecial?_slot (name:=Str.ofString "__next__") ty F.slot_zip_next (wpAny_call_entry F.slot_zip_next ty F.entry_zip_next (Eu hh D d1 d2 Z I q j λg e kp he=>?_) (F.args_zip_next_1 _))));obtain⟨o,ho,hc⟩:=he;refine zaa (wpAny_isInstance (T:="StopIteration") (b:=true) ⟨o,ho,hc⟩ isSubtype_stop ?_);exact zab (hQ _ kp)
def E5(b:Bool):String:=match b with
 |true=>"tuple_iterator"
 |false=>"list_iterator"
abbrev zh1(b1:Bool)(h:Heap)(l1:Addr):Heap:=h.push {cls:=.type (E5 b1),data:=.fields #[.ref l1,.int 0 0]}
abbrev zh2(b1 b2:Bool)(h:Heap)(l1 l2:Addr):Heap:=(zh1 b1 h l1).push {cls:=.type (E5 b2),data:=.fields #[.ref l2,.int 0 0]}
abbrev zh3(b1 b2:Bool)(h:Heap)(l1 l2:Addr):Heap:=(zh2 b1 b2 h l1 l2).push {cls:=.type "tuple",data:=.seq #[.ref h.objs.size,.ref (zh1 b1 h l1).objs.size]}
abbrev zh4(b1 b2:Bool)(h:Heap)(l1 l2:Addr):Heap:=(zh3 b1 b2 h l1 l2).push {cls:=.type "tuple",data:=.seq #[.none,.none]}
abbrev zh5(b1 b2:Bool)(h:Heap)(l1 l2:Addr):Heap:=(zh4 b1 b2 h l1 l2).push {cls:=.type "zip",data:=.fields #[.none,.bool false,.bool false,.ref (zh2 b1 b2 h l1 l2).objs.size,.ref (zh3 b1 b2 h l1 l2).objs.size]}
def Es(b1 b2:Bool)(l1 l2:Addr)(xs ys:Array Value) :
  Meets (Builtin.«zip.__new__» ⟨[.type "zip",.ref l1,.ref l2],[]⟩) (λ_ R s=>SqAt b1 s.heap l1 xs/\SqAt b2 s.heap l2 ys/\R (.ok (.ret (.ref (zh4 b1 b2 s.heap l1 l2).objs.size))) {s with heap:=zh5 b1 b2 s.heap l1 l2}) :=
 .of_wp λprog w A R s h=>by
  obtain⟨q,g,d,tk,j⟩:=s;obtain⟨Z,I,h⟩:=h;have a0:=sub_zip;cases b1 <;> cases b2
  ·have b1:Heap.IsList (Shared.heap ⟨q,g,d,tk,j⟩) l1 xs:=Z;have b2:Heap.IsList (Shared.heap ⟨q.push {cls:=.type "list_iterator",data:=.fields #[.ref l1,.int 0 0]},g,d,tk,j⟩) l2 ys:=Heap.IsList.push I _;wp_walk using wpAny_pyIter_list b1,wpAny_pyIter_list b2;exact⟨_,rfl,h⟩
  ·have b1:Heap.IsList (Shared.heap ⟨q,g,d,tk,j⟩) l1 xs:=Z;have b2:Heap.IsTuple (Shared.heap ⟨q.push {cls:=.type "list_iterator",data:=.fields #[.ref l1,.int 0 0]},g,d,tk,j⟩) l2 ys:=Heap.IsTuple.push I _;wp_walk using wpAny_pyIter_list b1,wpAny_pyIter_tuple b2;exact⟨_,rfl,h⟩
  ·have b1:Heap.IsTuple (Shared.heap ⟨q,g,d,tk,j⟩) l1 xs:=Z;have b2:Heap.IsList (Shared.heap ⟨q.push {cls:=.type "tuple_iterator",data:=.fields #[.ref l1,.int 0 0]},g,d,tk,j⟩) l2 ys:=Heap.IsList.push I _;wp_walk using wpAny_pyIter_tuple b1,wpAny_pyIter_list b2;exact⟨_,rfl,h⟩
  have b1:Heap.IsTuple (Shared.heap ⟨q,g,d,tk,j⟩) l1 xs:=Z;have b2:Heap.IsTuple (Shared.heap ⟨q.push {cls:=.type "tuple_iterator",data:=.fields #[.ref l1,.int 0 0]},g,d,tk,j⟩) l2 ys:=Heap.IsTuple.push I _;wp_walk using wpAny_pyIter_tuple b1,wpAny_pyIter_tuple b2;exact⟨_,rfl,h⟩
def So{xs ys:Array Value}(t1:SqAt b1 s.heap l1 xs)(t2:SqAt b2 s.heap l2 ys)(h:∀ g,ZAt b1 b2 g (s.heap.objs.size+4) (s.heap.objs.size+2) (s.heap.objs.size+3) s.heap.objs.size (s.heap.objs.size+1) l1 l2 .none 0->(∀ c o,s.heap.get? c=some o->g.get? c=some o)->Q (.ref (s.heap.objs.size+4)) {s with heap:=g}) :
  wpAny (model P w) A (call (.type "zip") [.ref l1,.ref l2]) Q E s:=by
 refine callType_new F.called_zip (by decide) (F.typeCall_zip_2 _ _) (F.newCall_zip_2 _ _) (λj=>F.args_object_init_3 j _ _) F.entry_zip_new (Es b1 b2 l1 l2 xs ys) ⟨t1,t2,?_⟩
 have Z:(zh1 b1 s.heap l1).objs.size=s.heap.objs.size+1:=Heap.size_push ..;have I:(zh2 b1 b2 s.heap l1 l2).objs.size=s.heap.objs.size+2:=by rw[Heap.size_push,Z]
 have q:(zh3 b1 b2 s.heap l1 l2).objs.size=s.heap.objs.size+3:=by rw[Heap.size_push,I]
 have n4:(zh4 b1 b2 s.heap l1 l2).objs.size=s.heap.objs.size+4:=by rw[Heap.size_push,q]
 have g5:(zh5 b1 b2 s.heap l1 l2).get? (zh4 b1 b2 s.heap l1 l2).objs.size=some _:=zad _ rfl;have g4:(zh5 b1 b2 s.heap l1 l2).get? (zh3 b1 b2 s.heap l1 l2).objs.size=some _:=zac _ (zad _ rfl);have g3:(zh5 b1 b2 s.heap l1 l2).get? (zh2 b1 b2 s.heap l1 l2).objs.size=some _:=zac _ (zac _ (zad _ rfl));have g2:(zh5 b1 b2 s.heap l1 l2).get? (zh1 b1 s.heap l1).objs.size=some _:=zac _ (zac _ (zac _ (zad _ rfl)));have g1:(zh5 b1 b2 s.heap l1 l2).get? s.heap.objs.size=some _:=zac _ (zac _ (zac _ (zac _ (zad _ rfl))));show _/\_;rw[I,q,n4]at g5;rw[Z,I]at g3;rw[q]at g4;rw[Z]at g2;rw[n4];exact⟨⟨_,g5,rfl⟩,h _ ⟨g5,g3,⟨_,_,g4⟩,(by cases b1 <;> exact⟨_,g1,rfl,rfl⟩),(by cases b2 <;> exact⟨_,g2,rfl,rfl⟩)⟩ λc o e=>zac _ (zac _ (zac _ (zac _ (zac _ e))))⟩
def ItAt.there{b:Bool}(x:ItAt b h it l i):∃o,h.get? it=some o/\∀v,o.data≠.cell v:=by
 cases b with
 |true =>
  obtain⟨o,e,c,d⟩:=(show h.IsTupleIter it l i from x);exact⟨o,e,λv q=>by rw[d]at q;cases q⟩
 |false =>
  obtain⟨o,e,c,d⟩:=(show h.IsListIter it l i from x);exact⟨o,e,λv q=>by rw[d]at q;cases q⟩
def SqK(b:Bool)(K:W.Frag)(H:Hp)(l:Addr)(xs:List V):Prop:=match b with
 |true=>SqT K H l xs
 |false=>SqL K H l xs
def Wc{b:Bool}(I:Inv X pn σ H s)(h:SqK b X.K H l xs):∃its,Vals xs its/\SqAt b s.heap l its.toArray:=by
 cases b with
 |true =>
  obtain⟨its,r,p,_⟩:=I.tuple h;exact⟨its,r,(show s.heap.IsTuple l its.toArray from p)⟩
 |false =>
  obtain⟨its,r,p,_⟩:=I.list h;exact⟨its,r,p.isList⟩
def Fg{b:Bool}(I:Inv X pn σ H s)(h:SqK b X.K H l xs)(h':SqK b X.K H l ys):xs=ys:=by
 cases b with
 |true=>exact I.tuple_inj h h'
 |false=>exact I.list_inj h h'
def vz{b:Bool}{l c:Addr}(I:Inv X pn σ H s)(h:SqK b X.K H l xs)(f:FpOk X pn H c):l≠c:=by
 have Z:∀{o:Obj},X.K.lookup l=some o->l≠c:=λ{o} j z=>by
  subst z;have e:=I.ok.mod.kin _ _ j;rcases f.2.2.2.1 with q|q
  ·exact I.ok.noex _ _ e q
  exact absurd (Nat.lt_of_lt_of_le (zae e) I.ok.bsz) (Nat.not_lt.mpr q)
 cases b with
 |true =>
  rcases h with(h|⟨o,h⟩)|⟨o,its,n,j,_⟩
  ·exact zp h f.1
  ·exact zp h f.1
  exact Z j
 |false =>
  rcases h with(h|⟨o,h⟩)|⟨o,its,n,j,_⟩
  ·exact zp h f.1
  ·exact zp h f.1
  exact Z j
def Itz(b1 b2:Bool)(K:W.Frag)(l1 l2:Addr):It :=
 ⟨λi H=>∃xs ys x y,SqK b1 K H l1 xs/\SqK b2 K H l2 ys/\xs[i]?=some x/\ys[i]?=some y,
  λi H v H'=>∃T x y,H T=none/\v=.ref T/\(∀xs,SqK b1 K H l1 xs->xs[i]?=some x)/\(∀ys,SqK b2 K H l2 ys->ys[i]?=some y)/\H'=upd H T (.tup [x,y]),
  λi H=>∃xs ys,SqK b1 K H l1 xs/\SqK b2 K H l2 ys/\(xs.length<=i\/ys.length<=i)⟩
def Kg{P:Program}{w:World}{K:W.Frag}{es:List Expr}{kk:Nat}{tp:Pos}{b1 b2:Bool}{z ti to i1 i2 l1 l2:Addr}(D:ZNe z ti to i1 i2) :
  Turn P w K (.Tuple es kk tp) (Itz b1 b2 K l1 l2) [z,ti,to,i1,i2] z (λi h=>ZAt b1 b2 h z ti to i1 i2 l1 l2 .none i) where
 mem:=by simp
 obj:=λi h Z b hb=>by
  obtain⟨hz,a1,⟨u,v,a0⟩,h1,h2⟩:=Z;obtain⟨o1,e1,d1⟩:=h1.there;obtain⟨o2,e2,d2⟩:=h2.there;simp only[zam,List.not_mem_nil,or_false]at hb;rcases hb with rfl|rfl|rfl|rfl|rfl
  ·exact⟨_,hz,λv q=>(by cases q)⟩
  ·exact⟨_,a1,λv q=>(by cases q)⟩
  ·exact⟨_,a0,λv q=>(by cases q)⟩
  ·exact⟨o1,e1,λv q=>d1 v q⟩
  exact⟨o2,e2,λv q=>d2 v q⟩
 keep:=λi h h' Z k=>by
  obtain⟨hz,a1,⟨u,v,a0⟩,h1,h2⟩:=Z;exact⟨k z (by simp) _ hz,k ti (by simp) _ a1,⟨u,v,k to (by simp) _ a0⟩,h1.at λo e=>k i1 (by simp) o e,h2.at λo e=>k i2 (by simp) o e⟩
 item:=by
  intro X hP hw hK hc i pn s σ H E I hf Z hg;subst hP hw hK;obtain⟨xs,ys,x,y,e1,e2,hx,hy⟩:=hg;obtain⟨a8,r1,g1⟩:=Wc I e1;obtain⟨a7,r2,g2⟩:=Wc I e2;obtain⟨u,hu,ru⟩:=r1.get hx;obtain⟨v,hv,rv⟩:=r2.get hy;have fz:=hf z (by simp)
  have a2:=hf to (by simp)
  have f1:=hf i1 (by simp)
  have f2:=hf i2 (by simp)
  have a4:∀b ho,H b=some ho->ZOff z to i1 i2 b:=λb ho e=>⟨zp e fz.1,zp e a2.1,zp e f1.1,zp e f2.1⟩;refine Wt D ⟨vz I e1 fz,vz I e1 a2,vz I e1 f1,vz I e1 f2⟩ ⟨vz I e2 fz,vz I e2 a2,vz I e2 f1,vz I e2 f2⟩ Z g1 g2 (x:=u) (y:=v) (by simpa using hu) (by simpa using hv) λg Z2 pr kp=>?_
  have hn:H s.heap.objs.size=none:=I.fresh;have j:∀b,b∉[z,to,i1,i2]->ZOff z to i1 i2 b:=λb hb=>by
   simp only[zam,List.not_mem_nil,or_false,not_or]at hb;exact hb
  have un:Un (frs X.stack) [z,to,i1,i2] H (upd H s.heap.objs.size (.tup [x,y])) s.heap g :=
   ⟨λb o q _ _ hx=>kp b o (j b hx) q,λb o q _ _ hx=>⟨o.slots,kp b o (j b hx) q⟩,λb o q n _=>by rw[zv (Nat.ne_of_lt (zae q))];exact n,λb o q hx=>⟨o,kp b o (j b hx) q⟩,
    λb zs q=>by rw[zv (zp q hn)];exact q,λb o zs q=>by rw[zv (zp q hn)];exact q,λb ps q=>⟨#[],by rw[zv (zp q hn),q];simp⟩⟩
  have hok:HOk X.prog X.w (upd H s.heap.objs.size (.tup [x,y])) g:=λb o e=>by
   by_cases hb:b=s.heap.objs.size
   ·subst hb;rw[zu]at e;cases e;refine⟨by simp only[zLc,zLn];rw[sizeLine_eq];decide,[u,v],.cons ru (.cons rv .nil),⟨_,pr,rfl,_,rfl⟩,_,pr,rfl⟩
   rw[zv hb]at e;refine(I.hok b o e).stay (λc ob hc q=>kp c ob ?_ q) (λc q=>by rw[zv (zp q hn)];exact q) λc zs q=>by rw[zv (zp q hn)];exact q
   rcases hc with rfl|hc
   ·exact a4 _ _ e
   exact a4 _ _ hc
  have I2:Inv X pn σ (upd H s.heap.objs.size (.tup [x,y])) {s with heap:=g}:=I.call' (s':={s with heap:=g}) (ch:=[z,to,i1,i2]) rfl un hok I.bare λb hb=>by
   have a6:b∈[z,ti,to,i1,i2]:=by
    simp only[zam,List.not_mem_nil,or_false]at hb ⊢;rcases hb with rfl|rfl|rfl|rfl <;> simp
   have q:=hf b a6;exact⟨q.2.2.2.1,q.2.1,q.2.2.2.2.1,q.2.2.2.2.2⟩
  have a5:∀b∈[z,ti,to,i1,i2],upd H s.heap.objs.size (.tup [x,y]) b=none:=λb hb=>by
   have lb:b<s.heap.objs.size:=by
    obtain⟨hz,a1,⟨u,v,a0⟩,h1,h2⟩:=Z;obtain⟨_,q1,_⟩:=h1.there;obtain⟨_,q2,_⟩:=h2.there;simp only[zam,List.not_mem_nil,or_false]at hb;rcases hb with rfl|rfl|rfl|rfl|rfl
    ·exact zae hz
    ·exact zae a1
    ·exact zae a0
    ·exact zae q1
    exact zae q2
   rw[zv (Nat.ne_of_lt lb)];exact(hf b hb).1
  refine⟨_,rfl,wpAny_letOwnedTupleGo_zip Z2.zz λg2 z3 sb=>?_⟩;refine⟨.ref s.heap.objs.size,_,I2.turned (t':=s.toks) (λb o hb e=>sb.extBut b o hb e) (a5 z (by simp)) fz.2.1 fz.2.2.2.1 fz.2.2.2.2.1 fz.2.2.2.2.2,rfl,⟨_,x,y,hn,rfl,(λzs q=>by rw[<- Fg I e1 q];exact hx),(λzs q=>by rw[<- Fg I e2 q];exact hy),rfl⟩,?_,a5⟩
  obtain⟨_,a1,⟨u2,v2,a0⟩,h1,h2⟩:=Z2;exact⟨z3,sb.extBut _ _ D.ab a1,⟨u2,v2,sb.extBut _ _ D.ac a0⟩,h1.at λo e=>sb.extBut _ o D.ad e,h2.at λo e=>sb.extBut _ o D.ae e⟩
 done:=by
  intro X hP hw hK hc i pn s σ H E I hf Z hg;subst hP hw hK;obtain⟨xs,ys,e1,e2,a9⟩:=hg;obtain⟨a8,r1,g1⟩:=Wc I e1;obtain⟨a7,r2,g2⟩:=Wc I e2;have fz:=hf z (by simp)
  have a2:=hf to (by simp)
  have f1:=hf i1 (by simp)
  have f2:=hf i2 (by simp)
  have a4:∀b ho,H b=some ho->ZOff z to i1 i2 b:=λb ho e=>⟨zp e fz.1,zp e a2.1,zp e f1.1,zp e f2.1⟩;have b3:=r1.length;have b0:=r2.length;refine Rq (I.ok.hd hc) D ⟨vz I e1 fz,vz I e1 a2,vz I e1 f1,vz I e1 f2⟩ ⟨vz I e2 fz,vz I e2 a2,vz I e2 f1,vz I e2 f2⟩ Z g1 g2 ?_ λg kp=>?_
  ·rcases a9 with q|q
   ·exact .inl (by simp;omega)
   exact .inr (by simp;omega)
  refine⟨rfl,?_⟩;have j:∀b,b∉[z,to,i1,i2]->ZOff z to i1 i2 b:=λb hb=>by
   simp only[zam,List.not_mem_nil,or_false,not_or]at hb;exact hb
  have un:Un (frs X.stack) [z,to,i1,i2] H H s.heap g :=
   ⟨λb o q _ _ hx=>kp b o (j b hx) q,λb o q _ _ hx=>⟨o.slots,kp b o (j b hx) q⟩,λb o q n _=>n,λb o q hx=>⟨o,kp b o (j b hx) q⟩,
    λb zs q=>q,λb o zs q=>q,λb ps q=>⟨#[],by rw[q];simp⟩⟩
  refine I.call' (s':={s with heap:=g}) (ch:=[z,to,i1,i2]) rfl un (λb o e=>(I.hok b o e).stay (λc ob hc q=>kp c ob ?_ q) (λc q=>q) λc zs q=>q) I.bare λb hb=>?_
  ·rcases hc with rfl|hc
   ·exact a4 _ _ e
   exact a4 _ _ hc
  have a6:b∈[z,ti,to,i1,i2]:=by
   simp only[zam,List.not_mem_nil,or_false]at hb ⊢;rcases hb with rfl|rfl|rfl|rfl <;> simp
  have q:=hf b a6;exact⟨q.2.2.2.1,q.2.1,q.2.2.2.2.1,q.2.2.2.2.2⟩
 self:=λ_ _ _ _ _ Z h=>wpAny_pyIter_zip Z.zz h
def U2:bootBuiltins "zip" = some (.type "zip"):=by kernel_rfl
def iZip(K:W.Frag)(ta:TA):TI:=λσ H R=>ta σ H λvs H1=>∃b1 b2 l1 l2 xs ys,vs=[.ref l1,.ref l2]/\SqK b1 K H1 l1 xs/\SqK b2 K H1 l2 ys/\R (Itz b1 b2 K l1 l2) H1
def z1i{X:Cx}{es:List Expr}{kk:Nat}{tp:Pos}{a b:Expr}{ta:TA}{p pos:Pos}(hg:Gl X "zip")(hm:X.mg "zip" = none)(ha:PA X [a,b] ta)(he:starEach [a,b] X.env=(false,eval a X.env)::starEach [b] X.env:=by rfl)(a1:(backTo pos (starEach [b] X.env)).any (·.1)=false:=by rfl):PI X (.Tuple es kk tp) (.Call (.Name "zip" p) [a,b] [] pos) (iZip X.K ta):=by
 intro pn s σ H R I h;refine wpAny_Call_Name_kw (qo I hg hm U2 ?_ (by decide) (by decide))
 refine PyProof.Rows.callWith_type1 (thn (ha pos pn s σ H _ I h) λus s1 ⟨vs,H1,I1,r1,b1,b2,l1,l2,xs,ys,e,e1,e2,q⟩=>?_) he a1;subst e;obtain⟨u,v,rfl,ru,rv⟩:=Ke r1;cases ru;cases rv;obtain⟨a0,r1,g1⟩:=Wc I1 e1;obtain⟨j,r2,g2⟩:=Wc I1 e2;refine So (xs:=a0.toArray) (ys:=j.toArray) g1 g2 λg Z kp=>wpAny_pyIter_zip Z.zz ?_;have D:ZNe (s1.heap.objs.size+4) (s1.heap.objs.size+2) (s1.heap.objs.size+3) s1.heap.objs.size (s1.heap.objs.size+1):=by
  constructor <;> (intro z;exact absurd (show(_:Nat)=_ from z) (by omega))
 refine⟨_,_,_,_,H1,rfl,I1.kept (t':=s1.toks) kp,Kg D,Z,λb hb=>?_,q⟩;have lb:s1.heap.objs.size<=b:=by
  simp only[zam,List.not_mem_nil,or_false]at hb;rcases hb with rfl|rfl|rfl|rfl|rfl
  ·exact Nat.le_add_right _ _
  ·exact Nat.le_add_right _ _
  ·exact Nat.le_add_right _ _
  ·exact zaj _
  exact Nat.le_add_right _ _
 exact I1.fpOk lb (I1.hok.fresh lb)
def T4{a:Addr}{o:HO}(x:wf P w H h a o):∃ob,h.get? a=some ob:=by
 cases o with
 |lst xs=>obtain⟨_,_,_,_,e⟩:=x;exact⟨_,e⟩
 |tup xs=>obtain⟨_,_,_,⟨ob,e,_⟩,_⟩:=x;exact⟨_,e⟩
 |dK kvs=>obtain⟨_,_,_,_,o,_,_,e,_⟩:=x;exact⟨_,e⟩
 |dT kvs=>obtain⟨_,_,_,_,o,_,_,e,_⟩:=x;exact⟨_,e⟩
 |set S n=>obtain⟨o,_,_,_,e,_⟩:=x;exact⟨_,e⟩
 |ins C dx fs=>obtain⟨_,_,_,e,_⟩:=x;exact⟨_,e⟩
 |own y=>obtain⟨_,e⟩:=x;exact⟨_,e⟩
 |xd fs=>obtain⟨_,⟨_,_,_,e,_⟩,_⟩:=x;exact⟨_,e⟩
 |rng lo hi=>obtain⟨_,_,_,e⟩:=x;exact⟨_,e⟩
 |frz ob u=>obtain⟨e,_⟩:=x;exact⟨_,e⟩
 |tbl ps=>exact⟨_,(show h.get? a=some _ from x)⟩
 |met f y=>exact⟨_,(show h.get? a=some _ from x)⟩
 |ext U=>obtain⟨_,⟨_,e⟩,_⟩:=x;exact⟨_,e⟩
structure FlyB(P:Program)(w:World)(outer:List Env)(H:Hp)(h:Heap)(H':Hp)(B:Heap)(h':Heap):Prop where
 un:Un (frs outer) [] H H' h h'
 hok:HOk P w H' h'
 cov:∀b o,h'.get? b=some o->b∉frs outer->(H' b≠none\/∃o0,h.get? b=some o0)->B.get? b=some o
variable{outer:List Env}{h1 h2 B B':Heap}
def FlyB.there(F:FlyB P w outer H h H' B h1){b:Addr}(c:H' b≠none\/∃ o0,h.get? b=some o0):∃o,h1.get? b=some o:=by
 rcases c with c|⟨o0,c⟩
 ·cases e:H' b with
  |none=>exact absurd e c
  |some u=>exact T4 (F.hok b u e)
 exact F.un.there b o0 c (by simp)
def FlyB.step(F:FlyB P w outer H h H' B h1)(k:B.StaysIn h2)(u:h1.UpToSlots h2)(ff:h1.FunFrames B' outer)(hf:∀ b∈frs outer,H' b=none):FlyB P w outer H h H' B h2:=by
 have nx:∀b:Addr,b∉([]:List Addr):=λb z=>nomatch z;refine⟨⟨λb o q n j hx=>k b o (F.cov b o (F.un.keep b o q n j hx) j (.inr ⟨o,q⟩)),λb o q n j hx=>?_,F.un.free,λb o q hx=>?_,F.un.tups,F.un.frzs,F.un.tbls⟩,λa o e=>?_,λb o q j c=>?_⟩
 ·obtain⟨sl,e1⟩:=F.un.slot b o q n j hx;obtain⟨_,o',I,nf⟩:=ff.mem j;rw[e1]at I;cases I;obtain⟨a0,Z⟩:=u b _ e1 nf;exact⟨a0,Z⟩
 ·obtain⟨o',e1⟩:=F.un.there b o q hx;by_cases j:b∈frs outer
  ·obtain⟨_,o2,I,nf⟩:=ff.mem j;obtain⟨a0,Z⟩:=u b _ I nf;exact⟨_,Z⟩
  exact⟨o',k b o' (F.cov b o' e1 j (.inr ⟨o,q⟩))⟩
 ·refine(F.hok a o e).stay (λb v hc q=>?_) (λ_ q=>q) λ_ _ q=>q;have ht:H' b≠none:=by
   rcases hc with rfl|hc
   ·rw[e];exact λz=>nomatch z
   rw[hc];exact λz=>nomatch z
  exact k b v (F.cov b v q (λz=>ht (hf b z)) (.inl ht))
 obtain⟨o1,e1⟩:=F.there c;have I:=F.cov b o1 e1 j c;have Z:=k b o1 I;rw[q]at Z;cases Z;exact I
def CX1(P:Program)(w:World):CXT:=λouter H s E e s'=>∃(a C:Addr)(t:Value)(H':Hp)(B:Heap),e=.ref a/\s'.os=s.os/\AllBare s'.gens/\FlyB P w outer H s.heap H' B s'.heap /\
 Heap.FlyingW B outer a (.ref C) t s'.heap/\E (.ref C) none H'
variable{s1:Shared}
def FlyB.leave(J:Inv X pn σ H1 s1)(a4:X.ex=[])(F:FlyB X.prog X.w X.stack H1 s1.heap H' B h2):FlyB X.prog X.w X.outer X.H_ X.s₀.heap H' B h2:=by
 have nx:∀b:Addr,b∉([]:List Addr):=λb z=>nomatch z;have j:∀b:Addr,b∉X.ex:=λb z=>by rw[a4]at z;cases z
 have a0:∀b o,X.s₀.heap.get? b=some o->b≠X.env.locals:=λb o e=>Nat.ne_of_lt (Nat.lt_of_lt_of_le (zae e) J.ok.above);have a2:∀b o,X.s₀.heap.get? b=some o->b∉frs X.outer->b∉frs X.stack:=λb o e I z=>by
  rcases zam.mp (J.stkSub b z) with q|q
  ·exact a0 b o e q
  exact I q
 obtain⟨m,hn,_⟩:=J.loc;obtain⟨oL,_,_,hL,_⟩:=hn;have a5:H' X.env.locals=none:=F.un.free _ _ hL J.free (nx _);refine⟨⟨λb o q n I _=>F.un.keep b o (J.base.keep b o q n I (j b)) (J.base.free b o q n (j b)) (a2 b o q I) (nx b),λb o q n I _=>?_,λb o q n _=>?_,λb o q _=>?_,λb xs q=>F.un.tups b xs (J.base.tups b xs q),
  λb o u q=>F.un.frzs b o u (J.base.frzs b o u q),λb ps q=>?_⟩,F.hok,λb o q I c=>?_⟩
 ·obtain⟨sl,Z⟩:=J.base.slot b o q n I (j b);obtain⟨a1,e2⟩:=F.un.any Z (J.base.free b o q n (j b)) (nx b);exact⟨a1,e2⟩
 ·obtain⟨o',Z⟩:=J.base.there b o q (j b);exact F.un.free b o' Z (J.base.free b o q n (j b)) (nx b)
 ·obtain⟨o',Z⟩:=J.base.there b o q (j b);exact F.un.there b o' Z (nx b)
 ·obtain⟨m1,Z⟩:=J.base.tbls b ps q;obtain⟨m2,e2⟩:=F.un.tbls b _ Z;exact⟨m1++m2,by rw[e2,Array.append_assoc]⟩
 refine F.cov b o q (λz=>?_) ?_
 ·rcases zam.mp (J.stkSub b z) with e|e
  ·subst e;rcases c with c|⟨o0,c⟩
   ·exact c a5
   exact a0 _ o0 c rfl
  exact I e
 rcases c with c|⟨o0,c⟩
 ·exact .inl c
 exact .inr (J.base.there b o0 c (j b))
def FlyB.made{a:Addr}(J:Inv X pn σ H1 s1)(I:Heap.MadeExcOf s1.heap h' a cls vs)(k:(W.hideAll s1.heap (frs X.stack)).StaysIn h2)(u:h'.UpToSlots h2) :
  FlyB X.prog X.w X.stack H1 s1.heap H1 (W.hideAll s1.heap (frs X.stack)) h2:=by
 have j:s1.heap.UpToSlots h2:=(Heap.UpToSlots.of_keeps I.keeps).trans u;have F0:FlyB X.prog X.w X.stack H1 s1.heap H1 (W.hideAll s1.heap (frs X.stack)) s1.heap:=⟨Un.refl,J.hok,λb o q Z _=>W.hideAll_get _ q Z⟩;exact F0.step k j J.stack J.stkFree
variable{N:List Str}{qual:Str}{scope:Scope}{f:Addr}{cd:Value}{E:XK}
def Cz{a C:Addr}(J:Inv (cxOf (CX1 P w) P w K mg base N qual scope f cd A outer s H E) pn σ H1 s1)(Z:Heap.MadeExcOf s1.heap h' a (.ref C) vs)(hE:E (.ref C) none H1) :
  (cxOf (CX1 P w) P w K mg base N qual scope f cd A outer s H E).xe (.ref a) {s1 with heap:=h'}:=by
 have j:∀env∈(cxOf (CX1 P w) P w K mg base N qual scope f cd A outer s H E).stack,∀b,env.frame=some b->b∈frs (cxOf (CX1 P w) P w K mg base N qual scope f cd A outer s H E).stack:=λenv he b hb=>List.mem_filterMap.mpr ⟨env,he,hb⟩;refine wpAny_leaves_madeW (s:={s1 with heap:=h'}) (base:=W.hideAll s1.heap (frs (cxOf (CX1 P w) P w K mg base N qual scope f cd A outer s H E).stack)) (L:=(cxOf (CX1 P w) P w K mg base N qual scope f cd A outer s H E).env.locals) J.ok.frames rfl (λb o q=>W.of_hideAll _ q)
  (W.funFrames_hide J.stack j) Z λa0 t I x2 x3 x4=>?_
 exact⟨a,C,.ref t,H1,_,rfl,J.os,J.bare,FlyB.leave J rfl (FlyB.made J Z I.1 x4),I,hE⟩
def Cf{e:Value}(J:Inv (cxOf (CX1 P w) P w K mg base N qual scope f cd A outer s H E) pn σ H1 s1)(hc:CX1 P w (cxOf (CX1 P w) P w K mg base N qual scope f cd A outer s H E).stack H1 s1 E' e s2)(hE:∀ C H',E' (.ref C) none H'->E (.ref C) none H') :
  (cxOf (CX1 P w) P w K mg base N qual scope f cd A outer s H E).xe e s2:=by
 obtain⟨a,C,t,H',B,rfl,q,j,F,fl,I⟩:=hc;refine wpAny_leaves_onW (L:=(cxOf (CX1 P w) P w K mg base N qual scope f cd A outer s H E).env.locals) J.ok.frames rfl fl λa0 Z x2=>?_;have hf:∀b∈frs (cxOf (CX1 P w) P w K mg base N qual scope f cd A outer s H E).stack,H' b=none:=λb j=>by
  obtain⟨_,o,ho,_⟩:=J.stack.mem j;exact F.un.free b o ho (J.stkFree b j) (λz=>nomatch z)
 exact⟨a,C,t,H',B,rfl,q.trans J.os,j,FlyB.leave J rfl (F.step Z.1 x2 fl.2.2.1 hf),Z,hE C H' I⟩
def sg(t b:Int):Int:=if b<0 then -(Int.gcd t b:Int) else Int.gcd t b
def rt(t b:Int):Int×Int:=(t.fdiv (sg t b),b.fdiv (sg t b))
open PySem.Builtin.Int (intBits)
def fdOk{i j:Int}{m:Nat}(h:j≠0)(q:intBits j<=m)(I:m<=8999:=by omega):FdOk i j:=by
 refine⟨h,?_⟩;unfold intBits at q;rw[if_neg (by simpa using h)]at q
 omega
def uc{n:Nat}{i:Int}:okD n (.int i)=True:=by cases n <;> rfl
def z2c{n:Nat}{i:Bool}:okD n (.bl i)=True:=by cases n <;> rfl
def xn{n:Nat}:okD n (.str i)=True:=by cases n <;> rfl
def T3{n:Nat}:okD n .non=True:=by cases n <;> rfl
def Cv{n:Nat}(h:0<n):okD n (.tup ds)=∀x∈ds,okD (n-1) x:=by
 cases n with
 |zero=>omega
 |succ n=>rfl
def su{n:Nat}(h:0<n):okD n (.lst ds)=∀x∈ds,okD (n-1) x:=by
 cases n with
 |zero=>omega
 |succ n=>rfl
def Xp{a b:Int}:eqD (.int a) (.int b)=(a==b):=rfl
def ue{a b:Str}:eqD (.str a) (.str b)=(a==b):=rfl
def z3m{a b:Bool}:eqD (.bl a) (.bl b)=(a==b):=rfl
def w2(g:Int->Int->(EV->Prop)->Prop):FT:=λds U=>match ds with
 |[.int a,.int b]=>g a b U
 |_=>False
def w1(g:Int->(EV->Prop)->Prop):FT:=λds U=>match ds with
 |[.int a]=>g a U
 |_=>False
def z4k{g:Int->(EV->Prop)->Prop}{U:EV->Prop}(h:w1 g ds U):∃a,ds=[.int a]/\g a U:=by
 unfold w1 at h;split at h
 ·exact⟨_,rfl,h⟩
 exact h.elim
def Z9:FT:=w1 λ_ U=>U (dv (.bl true))
def r2(g:Int->Int->Int->Int->(EV->Prop)->Prop):FT:=λds U=>match ds with
 |[.tup [.int a,.int b],.tup [.int c,.int d]]=>g a b c d U
 |_=>False
def jg{α:Type}{x:α}{l:List α}:atI (x::l) 0=some x:=by
 rw[show(0:Int)=((0:Nat):Int) from rfl];exact xx rfl
def jf{α:Type}{x y:α}{l:List α}:atI (x::y::l) 1=some y:=by
 rw[show(1:Int)=((1:Nat):Int) from rfl];exact xx rfl
def Ly{α:Type}{x y z:α}{l:List α}:atI (x::y::z::l) 2=some z:=by
 rw[show(2:Int)=((2:Nat):Int) from rfl];exact xx rfl
variable{κ:Type}[DecidableEq κ]
def valV(j:List (κ×V))(k:κ):Option V:=(j.find? λq=>decide (q.1=k)).map (·.2)
def putK(j:List (κ×V))(k:κ)(v:V):List (κ×V) :=
 if (j.any λq=>decide (q.1=k))=true then j.map (λq=>if q.1=k then(q.1,v) else q) else j++[(k,v)]
def Y7{p:κ×V}{r:List (κ×V)}{k:κ}(e:p.1=k):valV (p::r) k=some p.2:=by simp[valV,List.find?_cons,e]
def Y8{p:κ×V}{r:List (κ×V)}{k:κ}(e:¬ p.1=k):valV (p::r) k=valV r k:=by simp[valV,List.find?_cons,e]
def RelO.isSome_eq{o:Option V}{u:Option Value}(r:RelO o u):o.isSome=u.isSome:=by
 cases o with
 |none=>cases u with
  |none=>rfl
  |some _=>exact(show False from r).elim
 |some _=>cases u with
  |none=>exact(show False from r).elim
  |some _=>rfl
def RelO.getD{o:Option V}{u:Option Value}{d:V}{d':Value}(r:RelO o u)(j:RelV d d'):RelV (o.getD d) (u.getD d'):=by
 cases o with
 |none=>cases u with
  |none=>exact j
  |some _=>exact(show False from r).elim
 |some _=>cases u with
  |none=>exact(show False from r).elim
  |some _=>exact r
def KV.val{j:List (κ×V)}{vs:List (κ×Value)}(r:KV j vs)(k:κ):RelO (valV j k) (valueAt vs k):=by
 unfold KV at r
 induction r with
 |nil=>exact True.intro
 |@cons p q ps qs h t ih =>
  obtain⟨h1,h2⟩:=h;by_cases e:p.1=k
  ·have I:q.1=k:=h1.symm.trans e;have b:valueAt (q::qs) k=some q.2:=by simp[valueAt,List.find?_cons,I]
   rw[Y7 e,b];exact h2
  have I:¬ q.1=k:=λz=>e (h1.trans z);have b:valueAt (q::qs) k=valueAt qs k:=by simp[valueAt,List.find?_cons,I]
  rw[Y8 e,b];exact ih
def KV.length{j:List (κ×V)}{vs:List (κ×Value)}(r:KV j vs):j.length=vs.length:=Paired.length r
def Pa{P:Program}{w:World}{k:Key}{u:Value}(r:RelV (kV k) u):(yy P w).is k u=true:=by
 cases k with
 |inl i=>obtain⟨t,e⟩:=(show ∃t,u=Value.int i t from r);subst e;exact T6 P w i t
 |inr x=>obtain⟨t,e⟩:=(show ∃t,u=Value.str x t from r);subst e;exact dh P w x t
theorem Wz{P:Program}{w:World}:∀{ks:List Key}{us:List Value},Vals (ks.map kV) us->ItemsAre (yy P w) ks us
 |[],_,r=>by rw[List.map_nil]at r;cases r;exact .nil
 |k::ks,_,r=>by
  rw[List.map_cons]at r;cases r with
  |cons h t=>exact .cons (Pa h) (Wz t)
abbrev KT(H:Hp):List (List Key×V)->List (List Key×Addr×Value)->Prop:=Paired λp q=>p.1=q.1/\H q.2.1=some (.tup (p.1.map kV))/\RelV p.2 q.2.2
def KT.val{H:Hp}{j:List (List Key×V)}{xs:List (List Key×Addr×Value)}(r:KT H j xs)(k:List Key):RelO (valV j k) ((atKey xs k).map (·.2)):=by
 induction r with
 |nil=>exact True.intro
 |@cons p q ps qs h t ih =>
  obtain⟨h1,_,h2⟩:=h;by_cases e:p.1=k
  ·have I:q.1=k:=h1.symm.trans e;have b:atKey (q::qs) k=some q.2:=by simp[atKey,List.find?_cons,I]
   rw[Y7 e,b];exact h2
  have I:¬ q.1=k:=λz=>e (h1.trans z);have b:atKey (q::qs) k=atKey qs k:=by simp[atKey,List.find?_cons,I]
  rw[Y8 e,b];exact ih
variable{a:Addr}
def z0w{u:HO}(ok:HOk P w H h)(e:Rd H a u):wf P w H h a u:=e.ok ok
def S7{j:List (Key×V)}(ok:HOk P w H h)(e:Rd H a (.dK j)):j.length<=sizeLine/\(a==sysModules)=false/\∃vs,KV j vs/\h.DictOf (yy P w) a vs :=
 show wf P w H h a (.dK j) from z0w ok e
def A2{j:List (Key×V)}(ok:HOk P w H h)(e:H a=some (.dK j)):j.length<=sizeLine/\(a==sysModules)=false/\∃vs,KV j vs/\h.DictOf (yy P w) a vs:=S7 ok (.inl e)
def Wy{ks:List Key}(ok:HOk P w H h)(e:H a=some (.tup (ks.map kV))):(tupleKind (yy P w)).is h ks a:=by
 obtain⟨_,its,r,⟨o,h1,h2,n,j⟩,_⟩:=(show wf P w H h a (.tup (ks.map kV)) from ok a _ e);exact⟨o,its.toArray,n,h1,h2,j,by simpa using Wz r⟩
def Pm{j:List (List Key×V)}(ok:HOk P w H h)(e:Rd H a (.dT j)):j.length<=sizeLine/\(a==sysModules)=false /\
  ∃xs,KT H j xs/\h.DictOfH (tupleKind (yy P w)) a xs:=by
 obtain⟨z,y,xs,r,o,es,ep,h1,h2,h3,h4,Z⟩:=(show wf P w H h a (.dT j) from z0w ok e);refine⟨z,y,xs,r,o,es,ep,h1,h2,h3,h4,λx I=>?_,Z⟩;have all:∀{l:List (List Key×V)}{m:List (List Key×Addr×Value)},KT H l m->∀x∈m,(tupleKind (yy P w)).is h x.1 x.2.1:=by
  intro l m q
  induction q with
  |nil=>intro x I;exact nomatch I
  |@cons p q ps qs hq t ih =>
   intro x I;rcases zam.mp I with e|I
   ·subst e;exact Wy ok (by rw[<- hq.1];exact hq.2.1)
   exact ih x I
 exact all r x I
def DGet(H:Hp)(a:Addr)(y:V)(r:Option V):Prop :=
 (∃kvs k,Rd H a (.dK kvs)/\y=kV k/\r=valV kvs k)\/∃kvs k b,Rd H a (.dT kvs)/\y=.ref b/\H b=some (.tup (k.map kV))/\r=valV kvs k
def DPut(H:Hp)(a:Addr)(y v:V)(H':Hp):Prop :=
 (∃kvs k,H a=some (.dK kvs)/\y=kV k/\kvs.length<sizeLine/\H'=upd H a (.dK (putK kvs k v))) \/
 ∃kvs k b,H a=some (.dT kvs)/\y=.ref b/\H b=some (.tup (k.map kV))/\kvs.length<sizeLine/\H'=upd H a (.dT (putK kvs k v))
def DGet.k{H:Hp}{a:Addr}{j:List (Key×V)}{k:Key}(e:H a=some (.dK j)):DGet H a (kV k) (valV j k):=.inl ⟨j,k,.inl e,rfl,rfl⟩
def DGet.t{H:Hp}{a b:Addr}{j:List (List Key×V)}{k:List Key}(e:H a=some (.dT j))(q:H b=some (.tup (k.map kV))):DGet H a (.ref b) (valV j k):=.inr ⟨j,k,b,.inl e,rfl,q,rfl⟩
def DPut.t{H:Hp}{a b:Addr}{j:List (List Key×V)}{k:List Key}{v:V}(e:H a=some (.dT j))(q:H b=some (.tup (k.map kV)))(hl:j.length<sizeLine) :
  DPut H a (.ref b) v (upd H a (.dT (putK j k v))):=.inr ⟨j,k,b,e,rfl,q,hl,rfl⟩
variable{y:V}{u:Value}{o:Option V}{E:Value->Shared->Prop}
def Inv.big(I:Inv X pn σ H s):sysModules<s.heap.objs.size:=by
 have h:mainGlobals<s.heap.objs.size:=(I.mod.glob.keeps I.bk).lt;exact Nat.lt_trans (by decide) h
def Lf{Q:Value->Shared->Prop}(hu:A.units+1<cLine)(I:Inv X pn σ H s)(g:DGet H a y (some v))(ry:RelV y u)(h:∀ Z s',Inv X pn σ H s'->RelV v Z->Q Z s') :
  wpAny (model X.prog X.w) A (getItem (.ref a) u) Q E s:=by
 rcases g with⟨a0,k,e,ey,l⟩|⟨a0,k,b,e,ey,eb,l⟩
 ·subst ey;obtain⟨z,hd,vs,q,dd⟩:=S7 I.hok e;obtain⟨Z,hw,j⟩:=RelO.some_of (v:=v) (o:=valueAt vs k) (by rw[l];exact q.val k)
  exact wpAny_getItem_of (Pa ry) dd.mapOf hw (h Z _ (I.tok _) j)
 subst ey;cases (show u=Value.ref b from ry);obtain⟨z,hd,xs,q,dd⟩:=Pm I.hok e;obtain⟨Z,hw,j⟩:=RelO.some_of (v:=v) (o:=(atKey xs k).map (·.2)) (by rw[l];exact q.val k)
 obtain⟨p,hp,a1⟩:=zar.mp hw;refine wpAny_getItem_heap (tupleKind_room_in1 hu) (Wy I.hok eb) dd hp ?_;rw[a1];exact h Z _ (I.tok _) j
def d_in{Q:Value->Shared->Prop}(hu:A.units+1<cLine)(I:Inv X pn σ H s)(g:DGet H a y o)(ry:RelV y u)(h:∀ s',Inv X pn σ H s'->Q (.bool o.isSome) s') :
  wpAny (model X.prog X.w) A (compareOp .In u (.ref a)) Q E s:=by
 rcases g with⟨Z,k,e,ey,l⟩|⟨Z,k,b,e,ey,eb,l⟩
 ·subst ey;obtain⟨z,hd,vs,j,dd⟩:=S7 I.hok e;refine wpAny_in_of (Pa ry) hd dd.mapOf ?_;rw[<- (j.val k).isSome_eq,<- l];exact h _ (I.tok _)
 subst ey;cases (show u=Value.ref b from ry);obtain⟨z,hd,xs,j,dd⟩:=Pm I.hok e;refine wpAny_in_heap (tupleKind_room_in1 hu) (Wy I.hok eb) hd dd ?_;have q:=(j.val k).isSome_eq;rw[Option.isSome_map]at q;rw[<- q,<- l];exact h _ (I.tok _)
def A4{Q:Value->Shared->Prop}(hu:A.units+1<cLine)(I:Inv X pn σ H s)(g:DGet H a y o)(ry:RelV y u)(h:∀ s',Inv X pn σ H s'->Q (.bool (!o.isSome)) s') :
  wpAny (model X.prog X.w) A (compareOp .NotIn u (.ref a)) Q E s:=by
 rcases g with⟨Z,k,e,ey,l⟩|⟨Z,k,b,e,ey,eb,l⟩
 ·subst ey;obtain⟨z,hd,vs,j,dd⟩:=S7 I.hok e;refine wpAny_notIn_of (Pa ry) hd dd.mapOf ?_;rw[<- (j.val k).isSome_eq,<- l];exact h _ (I.tok _)
 subst ey;cases (show u=Value.ref b from ry);obtain⟨z,hd,xs,j,dd⟩:=Pm I.hok e;refine wpAny_notIn_heap (tupleKind_room_in1 hu) (Wy I.hok eb) hd dd ?_;have q:=(j.val k).isSome_eq;rw[Option.isSome_map]at q;rw[<- q,<- l];exact h _ (I.tok _)
def A3{h':Heap}{t':Nat}{j:HO}(I:Inv X pn σ H s)(mu:Mut (H a))(hs:Heap.SameBut a s.heap h')(he:∃ q,h'.get? a=some q)(Z:wf X.prog X.w (upd H a j) h' a j) :
  Inv X pn σ (upd H a j) {s with heap:=h',toks:=t'} :=
 I.write (x:=a) (e:=a) mu (.inl rfl) (λb q hb z=>(hs.2 b hb).trans z) he Z
def Qa{P:Program}{w:World}{H':Hp}{h':Heap}{j:List (Key×V)}{vs:List (Key×Value)}(z:j.length<=sizeLine)(I:(a==sysModules)=false)(q:KV j vs)(dd:h'.DictOf (yy P w) a vs) :
  wf P w H' h' a (.dK j):=⟨z,I,vs,q,dd⟩
def S8{X:Cx}{pn:List (Addr×Obj)}{σ:St}{H:Hp}{s:Shared}{a:Addr}{y:V}{o:Option V}(I:Inv X pn σ H s)(g:DGet H a y o):s.TypeIs (.ref a) "dict":=by
 rcases g with⟨j,k,e,_,_⟩|⟨j,k,b,e,_,_,_⟩
 ·obtain⟨_,_,vs,_,dd⟩:=S7 I.hok e;exact dd.typeIs
 obtain⟨_,_,xs,_,dd⟩:=Pm I.hok e;exact dd.typeIs
structure M1(X:Cx)(o:Expr)(m:Str)(apos:Pos)(e:Expr)(cpos:Pos):Prop where
 base:attributeBase o m X.env (eval o X.env)=eval o X.env
 few:((backTo cpos (starEach [e] X.env)).all (λx=>!x.1)&&(backToKw cpos (keywordEach [] X.env)).all (λx=>x.1.isSome)
  && decide (([e]:List Expr).length+([]:List Keyword).length+(if ([]:List Keyword).isEmpty then 0 else 1)<30))=true
 line:(apos.endLine==cpos.line)=true
 trees:backTo cpos (starEach [e] X.env)=[(false,eval e X.env)]
def IsD(H:Hp)(a:Addr):Prop:=(∃kvs,Rd H a (.dK kvs))\/∃kvs,Rd H a (.dT kvs)
def E6{X:Cx}{pn:List (Addr×Obj)}{σ:St}{H:Hp}{s:Shared}{a:Addr}(I:Inv X pn σ H s)(d:IsD H a) :
  s.TypeIs (.ref a) "dict"/\(∀b,Value.ref a=.ref b->∃j,s.heap.get? b=some j/\j.dict=none)/\(a==sysModules)=false:=by
 rcases d with⟨Z,e⟩|⟨Z,e⟩
 ·obtain⟨_,hd,vs,_,dd⟩:=S7 I.hok e;refine⟨dd.typeIs,λb q=>?_,hd⟩;cases q;obtain⟨j,_,_,h1,h2,_⟩:=dd;exact⟨j,h1,h2.2.1⟩
 obtain⟨_,hd,xs,_,dd⟩:=Pm I.hok e;refine⟨dd.typeIs,λb q=>?_,hd⟩;cases q;obtain⟨j,_,_,h1,h2,_⟩:=dd;exact⟨j,h1,h2.2.1⟩
def z3s{Q:Value->Shared->Prop}(hu:A.units+1<cLine)(I:Inv X pn σ H s)(g:DGet H a y o)(ry:RelV y u)(h:∀ w' s',Inv X pn σ H s'->RelV (o.getD .non) w'->Q w' s') :
  wpAny (model X.prog X.w) A (call (.builtin "dict.get") [.ref a,u]) Q E s:=by
 rcases g with⟨q,k,e,ey,l⟩|⟨q,k,b,e,ey,eb,l⟩
 ·subst ey;obtain⟨z,Z,vs,j,dd⟩:=S7 I.hok e;refine call_meetsIn PySem.F.slot_dict_get dd.typeIs PySem.F.entry_dict_get (PySem.F.args_dict_get_2 _ _) (meets_dict_get (yy X.prog X.w) a (Pa ry) Z) ⟨_,dd.mapOf,h _ _ (I.tok _) ?_⟩;rw[l];exact(j.val k).getD rfl
 subst ey;cases (show u=Value.ref b from ry);obtain⟨z,Z,xs,j,dd⟩:=Pm I.hok e;refine call_meetsIn PySem.F.slot_dict_get dd.typeIs PySem.F.entry_dict_get (PySem.F.args_dict_get_2 _ _) (meetsH_dict_get (tupleKind (yy X.prog X.w)) a b Z) ⟨tupleKind_room_in1 hu,k,xs,Wy I.hok eb,dd,h _ _ (I.tok _) ?_⟩;rw[l];exact(j.val k).getD rfl
def z0b(td ty:TE):TE:=λσ H Q=>td σ H λx H1=>∃a,x=.ref a/\IsD H1 a/\ty σ H1 λy H2=>∃o,DGet H2 a y o/\Q (o.getD .non) H2
variable{o:Expr}{td ty:TE}
def Jf(hu:X.A.units+1<cLine)(ho:PE X o td)(he:PE X e ty)(m:M1 X o "get" apos e cpos):PE X (.Call (.Attribute o "get" apos) [e] [] cpos) (z0b td ty):=by
 intro pn s σ H Q I h;refine wpAny_Call_method m.base m.few m.line PySem.F.plainAttrs_dict PySem.F.slot_dict_get PySem.F.type_dict_get (thn (ho pn s σ H _ I h) λu s1 ⟨x,H1,q,rx,a,ex,d,q1⟩=>?_);subst ex;obtain rfl:u=Value.ref a:=rx;obtain⟨t1,Z,_⟩:=E6 q d;refine⟨t1,Z,?_⟩;rw[m.trees];refine Calls.callWith_builtin rfl (Calls.evalArgs_plain (Calls.spliced_cons (thn (he pn s1 σ H1 _ q q1) λiv s2 ⟨y,H2,I2,ry,ov,g,q2⟩=>Calls.spliced_nil ?_)));exact z3s hu I2 g ry λw' s3 I3 j=>⟨_,H2,I3,j,q2⟩
instance decMemKey (k:Key) (ks:List Key):Decidable (k∈ks):=decidable_of_iff (ks.any (λx=>decide (x=k))=true) (by simp)
variable{α:Type}
def uo:List Key->List α->Key->Option α
 |k'::ks,d::ds,k=>if k'=k then some d else uo ks ds k
 |_,_,_=>none
def kput(ks:List Key)(k:Key):List Key:=if k∈ks then ks else ks++[k]
def dput:List Key->List α->Key->α->List α
 |k'::ks,d'::ds,k,d=>if k'=k then d::ds else d'::dput ks ds k d
 |_,_,_,d=>[d]
theorem gc:∀(ks:List Key)(xs:List V)(k:Key),valV (ks.zip xs) k=uo ks xs k
 |[],xs,k=>by cases xs <;> rfl
 |k'::ks,[],k=>rfl
 |k'::ks,x::xs,k=>by
  rw[List.zip_cons_cons,uo];by_cases e:k'=k
  ·rw[if_pos e,Y7 (by exact e)]
  rw[if_neg e,Y8 (by exact e),gc ks xs k]
theorem j6{α:Type}:∀{ks:List Key}{xs:List α}{k:Key},ks.length=xs.length->(uo ks xs k=none ↔ k∉ks)
 |[],xs,k,h=>by cases xs <;> simp[uo] at *
 |k'::ks,[],k,h=>by simp at h
 |k'::ks,x::xs,k,h=>by
  rw[uo];by_cases e:k'=k
  ·simp[e]
  rw[if_neg e,j6 (by simpa using h)]
  simp[e,Ne.symm e]
theorem qj:∀{ks:List Key}{ds:List D}{xs:List V}{k:Key},Reps K H O ds xs->(∀d,uo ks ds k=some d->∃v,uo ks xs k=some v/\Rep K H O d v)/\(uo ks ds k=none->uo ks xs k=none)
 |[],ds,xs,k,r=>⟨(λd h=>by cases ds <;> cases h),(λ_=>by cases xs <;> rfl)⟩
 |k'::ks,[],xs,k,r=>by
  cases r
  exact⟨(λd h=>by cases h),λ_=>rfl⟩
 |k'::ks,d'::ds,xs,k,r=>by
  obtain⟨v,j,rfl,q,t⟩:=r;rw[uo,uo];by_cases e:k'=k
  ·rw[if_pos e,if_pos e];exact⟨(λd h=>by cases h;exact⟨v,rfl,q⟩),(λh=>by cases h)⟩
  rw[if_neg e,if_neg e];exact qj t
def keyD:D->Option Key
 |.int i=>some (.inl i)
 |.str x=>some (.inr x)
 |_=>none
def X3{K:W.Frag}{H:Hp}{O:List Addr}{d:D}{v:V}{k:Key}(h:View K H O d v)(e:keyD d=some k):v=kV k:=by
 cases d with
 |int i=>cases e;exact h
 |str i=>cases e;exact h
 |_=>cases e
variable{a:Expr}{t:TDs}
def Ft(hu:X.A.units+1<cLine):OpR X (compareOp .In) (λx y H Q=>∃a j k,y=.ref a/\H a=some (.dK j)/\x=kV k/\Q (.bl (valV j k).isSome) H):=by
 intro pn s σ H x y v u Q I rx Z h;obtain⟨a,j,k,rfl,ha,rfl,q⟩:=h;cases Z;exact d_in hu I (DGet.k ha) rx λs' I'=>⟨.bl _,H,I',rfl,q⟩
def Wn(hu:X.A.units+1<cLine):OpR X (compareOp .NotIn) (λx y H Q=>∃a j k,y=.ref a/\H a=some (.dK j)/\x=kV k/\Q (.bl (!(valV j k).isSome)) H):=by
 intro pn s σ H x y v u Q I rx Z h;obtain⟨a,j,k,rfl,ha,rfl,q⟩:=h;cases Z;exact A4 hu I (DGet.k ha) rx λs' I'=>⟨.bl _,H,I',rfl,q⟩
def Tl{α:Type}{ks:List Key}{xs:List α}(h:ks.length=xs.length):(uo ks xs k).isSome=decide (k∈ks):=by
 by_cases hk:k∈ks
 ·rw[decide_eq_true hk];cases e:uo ks xs k with
  |none=>exact absurd hk ((j6 h).mp e)
  |some _=>rfl
 rw[decide_eq_false hk,(j6 h).mpr hk];rfl
def c7:D->Bool
 |.non=>true
 |.bl _=>true
 |.int _=>true
 |.str _=>true
 |_=>false
def inD(x:D)(l:List D):Bool:=l.any λy=>eqD y x
def sIn(j:Bool):D->D->(EV->Prop)->Prop:=λx y U=>match y with
 |.dk ks _=>(match keyD x with|some k=>U (dv (.bl (if j then !decide (k∈ks) else decide (k∈ks))))|none=>False)
 |.lst l=>c7 x=true/\l.all c7=true/\U (dv (.bl (if j then !inD x l else inD x l)))
 |.tup l=>c7 x=true/\l.all c7=true/\U (dv (.bl (if j then !inD x l else inD x l)))
 |.str z=>(match x with|.str p=>U (dv (.bl (if j then !(!(Builtin.Str.occurrences z p 0 z.length 1).isEmpty) else !(Builtin.Str.occurrences z p 0 z.length 1).isEmpty)))|_=>False)
 |_=>False
def qu{K:W.Frag}{H:Hp}{O:List Addr}{d:D}{v:V}(h:View K H O d v)(f:c7 d=true):Z0 v=true/\∀(e:D)(w:V),View K H O e w->c7 e=true->eqV v w=eqD d e:=by
 cases d with
 |non=>cases (show v=_ from h);exact⟨rfl,λe w j q=>by cases e <;> first|(cases (show w=_ from j);rfl)|cases q⟩
 |bl b=>cases (show v=_ from h);exact⟨rfl,λe w j q=>by cases e <;> first|(cases (show w=_ from j);rfl)|cases q⟩
 |int b=>cases (show v=_ from h);exact⟨rfl,λe w j q=>by cases e <;> first|(cases (show w=_ from j);rfl)|cases q⟩
 |str b=>cases (show v=_ from h);exact⟨rfl,λe w j q=>by cases e <;> first|(cases (show w=_ from j);rfl)|cases q⟩
 |_=>cases f
theorem Xa{K:W.Frag}{H:Hp}{O:List Addr}{x:D}{v:V}(j:View K H O x v)(I:c7 x=true):∀{l:List D}{xs:List V},Reps K H O l xs->l.all c7=true->xs.all Z0=true/\inV v xs=inD x l
 |[],_,r,_=>by cases r;exact⟨rfl,rfl⟩
 |d::l,xs,r,f=>by
  obtain⟨w,Z,rfl,q,t⟩:=r;rw[List.all_cons,Bool.and_eq_true]at f;obtain⟨i1,i2⟩:=Xa j I t f.2;obtain⟨g1,g2⟩:=qu q.view f.1;refine⟨by rw[List.all_cons,g1,i1];rfl,?_⟩
  unfold inV inD at *;rw[List.any_cons,List.any_cons,i2,g2 x v j I]
def Yy{K:W.Frag}{I:Bool}:rg K (λx y H Q=>(∃a kvs k,y=.ref a/\H a=some (.dK kvs)/\x=kV k/\Q (.bl (if I then !(valV kvs k).isSome else(valV kvs k).isSome)) H)\/rIn K I x y H Q\/∃i j,x=.str i/\y=.str j/\Q (.bl (if I then !(!(Builtin.Str.occurrences j i 0 j.length 1).isEmpty) else !(Builtin.Str.occurrences j i 0 j.length 1).isEmpty)) H) (sIn I):=by
 intro H O x y vx vy U Q ho Z hy h k;unfold sIn at h;split at h
 ·split at h
  ·rename_i ks ds kk ek;obtain⟨a,xs,rfl,q,l,nd,r⟩:=hy;refine .inl ⟨a,_,kk,rfl,q,X3 Z ek,?_⟩;rw[gc,Tl (by rw[l,r.length])]
   exact k _ _ H (Same.refl H) (by exact rfl) h
  exact h.elim
 ·obtain⟨f1,f2,h⟩:=h;obtain⟨a,xs,rfl,q,r⟩:=hy;obtain⟨g1,g2⟩:=Xa Z f1 r f2;refine .inr (.inl ⟨a,xs,rfl,.inl (SqL.of q),(qu Z f1).1,g1,?_⟩);rw[g2];exact k _ _ H (Same.refl H) (by exact rfl) h
 ·obtain⟨f1,f2,h⟩:=h;obtain⟨a,xs,rfl,q,r⟩:=hy;obtain⟨g1,g2⟩:=Xa Z f1 r f2;refine .inr (.inl ⟨a,xs,rfl,.inr q.1,(qu Z f1).1,g1,?_⟩);rw[g2];exact k _ _ H (Same.refl H) (by exact rfl) h
 ·split at h
  ·exact .inr (.inr ⟨_,_,Z,hy,k _ _ H (Same.refl H) (by exact rfl) h⟩)
  exact h.elim
 exact h.elim
def z3r(hu:X.A.units+64<cLine)(I:ED Y X a ta)(q:ED Y X b tb)(j:behindInMarks .In b=false:=by with_unfolding_all rfl):ED Y X (.Compare a [.In] [b] pos) (d2 (sIn false) ta tb):=jq ((Ft (by omega)).or (qk.or Wo)) Yy I q j
def z5v(hu:X.A.units+64<cLine)(I:ED Y X a ta)(q:ED Y X b tb)(j:behindInMarks .In b=false:=by with_unfolding_all rfl):ET Y X (.Compare a [.In] [b] pos) (tBo (d2 (sIn false) ta tb)):=qy ((Ft (by omega)).or (qk.or Wo)) Yy I q j
def G0(hu:X.A.units+64<cLine)(I:ED Y X a ta)(q:ED Y X b tb)(j:behindInMarks .NotIn b=false:=by with_unfolding_all rfl):ED Y X (.Compare a [.NotIn] [b] pos) (d2 (sIn true) ta tb):=jq ((Wn (by omega)).or (ss.or jm)) Yy I q j
def Hx(hu:X.A.units+64<cLine)(I:ED Y X a ta)(q:ED Y X b tb)(j:behindInMarks .NotIn b=false:=by with_unfolding_all rfl):ET Y X (.Compare a [.NotIn] [b] pos) (tBo (d2 (sIn true) ta tb)):=qy ((Wn (by omega)).or (ss.or jm)) Yy I q j
def sIxx:D->D->(EV->Prop)->Prop:=λx y U=>match x with
 | .dk ks ds=>(match keyD y with
  | some k=>(match uo ks ds k with
   |some d=>U (dv d)
   | none=>False)
  | none=>False)
 |x=>sIx1 x y U
def Bb(hu:X.A.units+1<cLine):IxR X (λx y H Q=>∃a j k v,x=.ref a/\H a=some (.dK j)/\y=kV k/\valV j k=some v/\Q v H):=by
 intro Z a0 pn s σ H x y v u Q I rx ry h hs;obtain⟨a,j,k,w,rfl,ha,rfl,e,q⟩:=h;cases rx;have g:DGet H a (kV k) (some w):=by rw[<- e];exact DGet.k ha
 exact tail_any (S8 I g) PySem.F.slot_dict_getitem.lookup (Lf hu I g ry λw' s' I' a1=>⟨w,H,I',a1,q⟩) hs
def Jt:rg X.K (λx y H Q=>rIx X.K x y H Q\/∃a kvs k v,x=.ref a/\H a=some (.dK kvs)/\y=kV k/\valV kvs k=some v/\Q v H) sIxx:=by
 intro H O x y vx vy U Q ho Z I h k;cases x with
 |dk ks ds =>
  obtain⟨a,xs,rfl,q,l,nd,r⟩:=Z;unfold sIxx at h
  dsimp only at h
  split at h
  ·rename_i j ek;split at h
   ·rename_i d ed;obtain⟨v,ev,rv⟩:=(qj (ks:=ks) (k:=j) r).1 d ed;exact .inr ⟨a,_,j,v,rfl,q,X3 I ek,by rw[gc];exact ev,k _ _ H (Same.refl H) (RV.val rv) h⟩
   exact h.elim
  exact h.elim
 |_=>exact .inl (B2 H O _ y vx vy U Q ho Z I h k)
def zn(hu:X.A.units+64<cLine)(I:ED Y X a ta)(q:ED Y X b tb)(j:jh b:=by intro _ _;rfl):ED Y X (.Subscript a b pos) (d2 sIxx ta tb):=λH_=>impE (Wj (Mk.or (Bb (by omega))) (I H_) (q H_) j) (Me Jt)
variable{tk:TD}
def z0r(i:Nat)(tk te:TD):TDS:=λL Z=>match slot L i with
 | some ⟨.own,.dk ks ds⟩=>te L λr=>tk L λj=>(match r.k with|.own=>False|_=>True)/\ds.length<=100000/\(match keyD j.d with
  |some k=>Z.nx (setS L i (dO (.dk (kput ks k) (dput ks ds k r.d))))
  | none=>False)
 |_=>False
def Xc{Q:Unit->Shared->Prop}(I:Inv X pn σ H s)(hN:X.N.Nodup)(hi:X.N[i]?=some x)(hk:X.env.scope.names.lookup x=some .local)(h:∀ s',Inv X pn (σ.set i none) H s'->Q () s'):wpAny M A (do bindName X.env x .none;unbindBehindTheSuite X.env x pos) Q E s:=by
 obtain⟨m,hn,hl⟩:=id I.loc;have a2:(X.env.scope.kind==.class || (X.env.scope.kind==.module&&X.env.locals != X.env.globals))=false:=by rw[I.ok.kind];rfl
 have a1:i<σ.length:=by rw[I.len];exact(zag.mp hi).1
 have cne:=I.cne;have Z:∀{a:Addr}{h':Heap},(∃o,s.heap.get? a=some o/\H a=none)->Heap.SameBut a s.heap h'->HOk X.prog X.w H h':=λ{a h'} ha hs b ob e=>by
  obtain⟨_,_,a0⟩:=ha;refine(I.hok b ob e).stay (λc w' hc q=>(hs.2 c ?_).trans q) (λ_ q=>q) λ_ _ q=>q;rintro rfl;rcases hc with rfl|hc
  ·rw[a0]at e;cases e
  rw[a0]at hc;cases hc
 refine wpAny_nameGoes_keeps hk hn a2 λh' v a5 hs=>?_;obtain⟨oL,_,_,a4,_⟩:=id hn;refine h _ ⟨I.ok,I.os,I.bare,⟨λb o e n hb hx=>?_,λb o e n hb hx=>?_,I.base.free,λb o e hx=>?_,I.base.tups,I.base.frzs,I.base.tbls⟩,⟨_,a5,λj y v' e1 e2 e3=>?_⟩,λy c e=>?_,I.free,I.freeC,λp hp=>?_,Z ⟨oL,a4,I.free⟩ hs,by simpa using I.len⟩
 ·exact(hs.2 b (Nat.ne_of_lt (Nat.lt_of_lt_of_le (zae e) I.ok.above))).trans (I.base.keep b o e n hb hx)
 ·obtain⟨sl,e1⟩:=I.base.slot b o e n hb hx;exact⟨sl,(hs.2 b (Nat.ne_of_lt (Nat.lt_of_lt_of_le (zae e) I.ok.above))).trans e1⟩
 ·obtain⟨o',e1⟩:=I.base.there b o e hx;exact⟨o',(hs.2 b (Nat.ne_of_lt (Nat.lt_of_lt_of_le (zae e) I.ok.above))).trans e1⟩
 ·by_cases hj:j=i
  ·subst hj;rw[List.getElem?_set_self a1]at e2;cases e2
  rw[List.getElem?_set_ne (Ne.symm hj)]at e2;obtain⟨u',r',q⟩:=hl j y v' e1 e2 e3;refine⟨u',r',?_⟩;rcases q with⟨k,e⟩|⟨k,c,e,z⟩
  ·refine .inl ⟨k,?_⟩;have:y≠x:=λe=>hj (Yv hN e1 (e▸hi));simp[this,e]
  exact .inr ⟨k,c,e,z.sameBut hs (cne y c e)⟩
 ·obtain⟨w',z⟩:=I.cell y c e;exact⟨w',z.sameBut hs (cne y c e)⟩
 obtain⟨e,n,ne,nf,d⟩:=I.pin p hp;exact⟨(hs.2 p.1 ne).trans e,n,ne,nf,d⟩
def clrS:DE->Nat->DE
 |[],_=>[]
 |_::r,0=>none::r
 |x::r,i+1=>x::clrS r i
def Sb:∀(L:DE)(i:Nat),clrS L i=L.set i none
 |[],_=>rfl
 |_::_,0=>rfl
 |x::r,i+1=>by rw[clrS,Sb r i,List.set_cons_succ]
def REnv.clr{K:W.Frag}{H_ H:Hp}{σ:St}{L:DE}{o:List (Nat×Addr)}(R:REnv K H_ H σ L o)(i:Nat):REnv K H_ H (σ.set i none) (clrS L i) o where
 same:=R.same
 fresh:=R.fresh
 trk:=R.trk
 mtb:=R.mtb
 nda:=R.nda
 len:=by rw[Sb,List.length_set,List.length_set];exact R.len
 slots:=λj r e=>by
  rw[Sb]at e;by_cases hj:j=i
  ·subst hj;rcases Nat.lt_or_ge j L.length with z|z
   ·rw[List.getElem?_set_self z]at e;cases e
   rw[List.getElem?_eq_none (by rw[List.length_set];exact z)]at e
   cases e
  rw[List.getElem?_set_ne (Ne.symm hj)]at e;obtain⟨w,I,q⟩:=R.slots j r e;exact⟨w,by rw[List.getElem?_set_ne (Ne.symm hj)];exact I,q⟩
def frzE(L:DE):DE:=L.map λx=>x.map λr=>dv r.d
def REnv.frz{K:W.Frag}{H_ H:Hp}{σ:St}{L:DE}{o:List (Nat×Addr)}(R:REnv K H_ H σ L o):REnv K H H σ (frzE L) [] where
 same:=Same.refl H
 fresh:=λ_ z=>absurd z (by simp)
 trk:=λ_ z=>absurd z (by simp)
 mtb:=λ_ z=>absurd z (by simp)
 nda:=List.nodup_nil
 len:=by unfold frzE;rw[zLm];exact R.len
 slots:=λj r e=>by
  unfold frzE at e;rw[zai]at e;cases e1:L[j]? with
  |none=>rw[e1]at e;cases e
  |some x =>
   rw[e1]at e;cases x with
   |none=>cases e
   |some r' =>
    have Z:some (dv r'.d)=some r:=Option.some.inj e;cases Z;obtain⟨v,I,q⟩:=R.slots j r' e1;refine⟨v,I,.inl ⟨rfl,?_⟩⟩;rcases q with⟨_,q⟩|⟨_,a,rfl,m,c⟩
    ·exact Rep.sub (O':=[]) (λ_ z=>absurd z (by simp)) _ _ q
    exact(c.sub (O':=[]) λ_ z=>absurd z (by simp)).rep (by simp)
def REnv.unfrz{K:W.Frag}{H_ H H1:Hp}{σ:St}{L:DE}{o1:List (Nat×Addr)}(s:Same H_ H)(R:REnv K H H1 σ L o1):REnv K H_ H1 σ L o1 :=
 ⟨s.trans R.same,λp j=>s.free (R.fresh p j),R.trk,R.mtb,R.nda,R.slots,R.len⟩
def REnv.gr{K:W.Frag}{H H1:Hp}{σ:St}{L:DE}{j:List (Nat×Addr)}{O:List Addr}(R:REnv K H H1 σ L j):Grow O (j.map Prod.snd) H H1 :=
 ⟨λb u h n=>⟨R.same b u h,λz=>by
  obtain⟨p,q,e⟩:=zah.mp z;have:=R.fresh p q;rw[e,h]at this;cases this⟩,λb xs h=>R.same b _ h,λb I u h=>R.same b _ h⟩
def XP(Y:Hp->Prop)(X:Cx)(j:DE->Addr->Prop):Prop:=∀(H_:Hp),Y H_->∀(L:DE)(o:List (Nat×Addr))(pn:List (Addr×Obj))(σ:St)(H:Hp)(s:Shared)(e:Value)(s':Shared),Inv X pn σ H s->REnv X.K H_ H σ L o ->
 CX1 X.prog X.w X.stack H s (λcls _ H'=>Same H H'/\∃C,cls=.ref C/\j L C) e s'->X.xe e s'
def XR(Y:Hp->Prop)(X:Cx)(j:DE->Addr->Prop):Prop:=∀(H_:Hp),Y H_->∀(L:DE)(o:List (Nat×Addr))(pn:List (Addr×Obj))(σ:St)(H:Hp)(s:Shared)(a C:Addr)(vs:List Value)(h':Heap),Inv X pn σ H s->REnv X.K H_ H σ L o ->
 Heap.MadeExcOf s.heap h' a (.ref C) vs->j L C->X.xe (.ref a) {s with heap:=h'}
abbrev FTX:=List D->(EV->Prop)->(Addr->Prop)->Prop
def spX(K:W.Frag)(n:Nat)(T:FTX):Sp:=λvs H Q E=>∃ds U χ,ds.length=n/\Reps K H [] ds vs/\T ds U χ/\(∀v r H',Same H H'->RV K H H' [] r v->vk r->U r->Q v H')/\∀C H',Same H H'->χ C->E (.ref C) none H'
structure FX(P:Program)(w:World)(K:W.Frag)(mg:Str->Option Value)(base:Heap)(k:Nat)(x:Str)(ps:List Str)(T:FTX):Prop where
 ex:∃f fd,FnOk P w K mg base (CX1 P w) k f fd ps (spX K ps.length T)/\k8 K fd ps []/\W.keepIn K (.ref f)=true/\mg x=some (.ref f)
def Ej(n:Nat)(T:FTX)(j:DE->Addr->Prop)(t:TDs):TD:=λL U=>t L λrs=>Nat.beq rs.length n=true/\T (rs.map EV.d) U (j L)
def G8(F:FX X.prog X.w X.K X.mg X.base k x ps T)(hr:Room k X.A)(hx:XP Y X χ)(ha:EA Y X (e::es) t)(hg:Gl X x:=by rfl)(a4:D_ x:=by decide)(he:S_ X e es:=by rfl)(a2:B_ X es pos:=by rfl):ED Y X (.Call (.Name x p) (e::es) [] pos) (Ej ps.length T χ t):=λH_ pn s σ H Q I h=>by
 obtain⟨f,fd,ok,b,kp,m⟩:=F.ex;obtain⟨L,o,R,U,a1,kk⟩:=h;refine wpAny_Call_Name_kw (j7 I hg m ?_ a4);refine W.callWith_K (h₀:=X.base) I.ok.mod.kin kp (thn (ha H_ pos pn s σ H (λvs H1=>Same H H1/\spX X.K ps.length T vs H1 Q (λcls _ H'=>Same H1 H'/\∃C,cls=.ref C/\χ L C)) I ⟨L,o,R,_,a1,λvs rs H1 s1 a0 h1=>?_⟩) λus s1 ⟨vs,H1,Z,r,sm,q⟩=>⟨Z.kIn,?_⟩) he a2
 ·refine⟨s1,rs.map EV.d,U,χ L,by rw[zLm];exact Nat.eq_of_beq_eq_true h1.1,a0.reps0,h1.2,λv r H2 s2 rv pr h2=>?_,λC H' sm c=>⟨sm,C,rfl,c⟩⟩
  exact kk v r H2 (s1.trans s2) (RV.start (rv.lift pr λa e=>R.ofree (s1.free e)) s1) h2
 have hl:(us++[]).length=ps.length:=by rw[List.append_nil,<- r.length];exact ok.len _ _ _ _ q
 have hb:=b s1 us Z.kIn hl;rw[List.append_nil]at hb;refine wpAny_call (codeAny_mono (ok.run X.A X.stack s1 H1 ⟨us,[]⟩ us vs Q _ hr Z.env0 hb r q) λr s' j=>?_);cases r with
 |error e=>exact hx H_.1 H_.2 L o pn σ H1 s1 e s' Z (R.to sm) j
 |ok fl =>
  cases fl with
  |ret u=>exact Z.after j
  |next=>exact False.elim j
  |brk=>exact False.elim j
  |cont=>exact False.elim j
def ku(r:Reps K H [] ds vs):REnv K H H (ZZ.start N vs) (wj N.length ds) []:=by
 have j:=r.length;refine⟨Same.refl H,(λ_ z=>absurd z (by simp)),(λ_ z=>absurd z (by simp)),(λ_ z=>absurd z (by simp)),List.nodup_nil,λi r' e=>?_,?_⟩
 ·unfold wj at e;rcases Nat.lt_or_ge i ds.length with hi|hi
  ·rw[List.getElem?_append_left (by simpa using hi),zai]at e
   have q:ds[i]?=some ds[i]:=by simp[hi]
   rw[q]at e;have e':some (dv ds[i])=some r':=Option.some.inj e;cases e';obtain⟨v,Z,I⟩:=r.get q;refine⟨v,?_,.inl ⟨rfl,I⟩⟩;unfold ZZ.start;rw[List.getElem?_append_left (by rw[zLm,j];exact hi),zai,Z]
   rfl
  rw[List.getElem?_append_right (by simpa using hi),List.getElem?_replicate]at e
  split at e <;> cases e
 unfold ZZ.start wj;simp[j]
def z3c{x qual:Str}{st:Stmt}{f:Addr}{fd:FuncData}{N ps:List Str}{k:Nat}{T:FTX}(F:Fun K x qual st f fd)(S:zt N ps (zh st))(qY:∀ (qZ:Value) (A:Around) (outer:List Env) (s:Shared) (H:Hp) (E:XK) (ds:List D) (U:EV->Prop) (j:Addr->Prop),Room k (A.deeper (envOfC qual (zh st) s.heap.objs.size f qZ))->ds.length=ps.length->T ds U j ->
   XP (Same H) (cxOf (CX1 P w) P w K mg base N qual (zh st) f qZ A outer s H E) (λ_=>j)->XR (Same H) (cxOf (CX1 P w) P w K mg base N qual (zh st) f qZ A outer s H E) (λ_=>j) ->
   ∃ t,SDs (Same H) (cxOf (CX1 P w) P w K mg base N qual (zh st) f qZ A outer s H E) (xp st) t/\t (wj N.length ds) {nx:=λ_=>U (dv .non),rt:=λr=>vk r/\U r}):FnOk P w K mg base (CX1 P w) (k+1) f fd ps (spX K ps.length T):=by
 obtain⟨oc,od,kV,a4,pm,an,qZ,ct,a2,rfl,lk,I⟩:=F.ex;refine z3e lk I S (λvs H Q E h=>?_) λA outer s H vs Q E hr h=>?_
 ·obtain⟨ds,U,j,hl,r,_⟩:=h;rw[r.length,hl]
 obtain⟨ds,U,j,hl,r,hT,kk,Z⟩:=h;obtain⟨t,ht,hq⟩:=qY qZ A outer s H E ds U j hr hl hT (λH_ g L o pn σ H1 s1 e s' J R hc=>Cf J hc λC H' ⟨sm,C',e',c⟩=>by cases e';exact Z _ H' ((g.trans R.same).trans sm) c)
  (λH_ g L o pn σ H1 s1 a C vs h' J R hx c=>Cz J hx (Z C H1 (g.trans R.same) c))
 refine⟨Yz K H t,ht ⟨H,Same.refl H⟩,wj N.length ds,[],ku r,_,hq,λa1 a0 H' o' g R' q=>?_,λ_ _ _ _ _ _ q=>q.elim,λ_ _ _ _ _ _ q=>q.elim,λv r' H' s' rv q=>kk v r' H' s' rv q.1 q.2⟩;exact kk .non (dv .non) H' R'.same rfl trivial q
def z5r{x qual:Str}{st:Stmt}{f:Addr}{fd:FuncData}{N ps:List Str}{k:Nat}{T:FTX}(F:Fun K x qual st f fd)(S:zt N ps (zh st))(b:k8 K fd ps [])(m:mg x=some (.ref f))(j:∀ (qZ:Value) (A:Around) (outer:List Env) (s:Shared) (H:Hp) (E:XK) (ds:List D) (U:EV->Prop) (χ:Addr->Prop),Room k (A.deeper (envOfC qual (zh st) s.heap.objs.size f qZ))->ds.length=ps.length->T ds U χ ->
   XP (Same H) (cxOf (CX1 P w) P w K mg base N qual (zh st) f qZ A outer s H E) (λ_=>χ)->XR (Same H) (cxOf (CX1 P w) P w K mg base N qual (zh st) f qZ A outer s H E) (λ_=>χ) ->
   ∃ t,SDs (Same H) (cxOf (CX1 P w) P w K mg base N qual (zh st) f qZ A outer s H E) (xp st) t/\t (wj N.length ds) {nx:=λ_=>U (dv .non),rt:=λr=>vk r/\U r}):FX P w K mg base (k+1) x ps T:=⟨f,fd,z3c F S j,b,F.kp,m⟩
def Lk{K:W.Frag}(X:K.In h)(q:W.excIn K C bmB newId=true) :
  ∃bm N nm q bs hdct sn sub ab col dd k0 k1 k2 k3 k5 mN,h.get? C=some (excClassObj nm q C N bs bm hdct sn sub ab col dd k0 k1 k2 k3 k5 newId)/\h.Ns N mN/\mN "__init__" = none/\OwnTail h bmB bm:=by
 unfold W.excIn at q;split at q
 ·rename_i dd cd sl ho;split at q
  ·rename_i C' bm k0 k1 k2 k3 n k5 hm hs;simp only[Bool.and_eq_true,beq_iff_eq,Bool.not_eq_true']at q;obtain⟨⟨⟨⟨⟨rfl,rfl⟩,j⟩,ht⟩,I⟩,Z⟩:=q;obtain⟨nm,bs,a1,ns,qn,hd,sn,sub,ab,col,a2⟩:=cd
   dsimp only at hm j I Z
   subst hm j;have a0:sl=#[k0,k1,k2,k3,some (.builtin n),k5]:=by
    obtain⟨l⟩:=sl;simp only at hs;rw[hs]
   subst a0;exact⟨bm,ns,nm,qn,bs,hd,sn,sub,ab,col,dd,k0,k1,k2,k3,k5,_,X _ _ ho,.of_isNs (W.isNs_of_in X I),W.nsMap_none_of_in X I Z,W.tail_of_in X ht⟩
  cases q
 cases q
def Fk(j:DE->Addr->Prop)(C:Addr)(t:TDs):TDS:=λL _=>t L λrs=>Nat.ble rs.length 9=true/\j L C
def Ky{X:Cx}{B j a0:String}{e:Expr}{es:List Expr}{t:TDs}{χ:DE->Addr->Prop}(FB:ExcBaseFacts B j a0 bmB)(hm:X.mg x=some (.ref C))(hC:W.excIn X.K C bmB j=true)(hh:X.A.handled=none)(hx:XR Y X χ)(ha:EA Y X (e::es) t)(hg:Gl X x:=by rfl)(a5:D_ x:=by decide)(he:S_ X e es:=by rfl)(a2:B_ X es cpos:=by rfl) :
  SD Y X (.Raise (some (.Call (.Name x np) (e::es) [] cpos)) none pos) (Fk χ C t):=λH_ pn s σ H D I h=>by
 obtain⟨L,o,R,Z,hZ,_⟩:=h;obtain⟨bm,N,nm,q,bs,hdct,sn,sub,ab,col,dd,k0,k1,k2,k3,k5,mN,a6,hN,a4,T⟩:=Lk I.ok.mod.kin hC;refine wpAny_Raise_call_subT (C:=C) (nm:=nm) (q:=q) (N:=N) (bs:=bs) (bm:=bm) (hdct:=hdct) (sn:=sn) (sub:=sub) (ab:=ab) (col:=col) (dd:=dd) (k0:=k0) (k1:=k1) (k2:=k2) (k3:=k3) (k5:=k5)
  FB (mN:=mN) (T.hasType FB.hasBase) hh (by rw[he];show(false || (backTo cpos (starEach es X.env)).any (·.1))=false;rw[a2];rfl) a4 (j7 I hg hm ⟨rfl,?_⟩ a5)
 have go:=ha H_ cpos pn s σ H (λvs H1=>vs.length<=9/\REnv X.K H_.1 H1 σ L o/\χ L C) I ⟨L,o,R,_,hZ,λvs rs H1 s1 a1 h1=>⟨by rw[a1.length];exact Nat.le_of_ble_eq_true h1.1,R.to s1,h1.2⟩⟩
 rw[he]at go ⊢;refine Calls.evalArgs_plain (wpAny_mono go (λus s2 ⟨vs,H1,I1,r,hl,R1,c⟩=>⟨rfl,?_,I1.bk _ _ a6,hN.keeps I1.bk,T.keeps I1.bk,λh' a mx=>hx H_.1 H_.2 L o pn σ H1 s2 a C us h' I1 R1 mx c⟩) λ_ _ y=>y);rw[<- r.length];exact zak hl (by decide)
section
open PySem PySem.Spec PySem.W PySem.Builtin PySem.Builtin.ObjectAttr PySem.Builtin.Getset_descriptor
open PyProof.Rows hiding St InstAt
section
variable{prog:Program}{a:Addr}
def Bv(X:K.In s.heap)(T:Looks (model prog w) s.heap (typeOf (.ref a)) (.ref C))(j:mroIn K C (.type "object")=some true)(h:R (.ok (.ret (.ref C))) s):codeAny (model prog w) A (.call (.builtin "getset_descriptor.__get__") ⟨[.builtin "object.__class__",.ref a,tp],[]⟩) R s:=by
 obtain⟨hh,g,dr,t,Z⟩:=s;have I:=T;have q:=looks_mroIn (M:=model prog w) X j;refine codeAny_call_builtin KF.slot_gs.plain KF.entry_gs (KF.slot_gs.check _ _ _ _ _ _ _ _ KF.type_class (KF.args_gs _ _ _) ?_);unfold Builtin.«getset_descriptor.__get__» descrGet;rw[dga_obj];refine zaa (zab ?_);unfold descrGetter descrCheckInstance descrNameAndClass isInstance;simp only[KF.owner_class]
 repeat lk
 refine⟨Code.quiet_builtin _ (by decide +kernel),codeAny_builtin KF.entry_class ?_⟩
 unfold Builtin.«object.__class__» shownTypeOf
 repeat lk
 exact h
structure Py(K:W.Frag)(C:Addr):Prop where
 ga:findIn K (.ref C) "__getattribute__" = some (some (.builtin "BaseException.__getattribute__"))
 hk:findIn K (.ref C) "__getattr__" = some none
 ha:findIn K (.ref C) "__class__" = some (some (.builtin "object.__class__"))
 hn:specialIn K (.builtin "object.__class__") "__get__" = some (some (.builtin "getset_descriptor.__get__"))
 htk:takesIn K (.builtin "object.__class__")=some true
 hm:mroIn K C (.type "object")=some true
 hb:subIn K (.ref C) (.type "BaseException")=some true
 hd:hasDictIn K C=true
def Mx{Q:Option Value->Shared->Prop}(Y:Py K C)(X:K.In s.heap)(T:Looks (model prog w) s.heap (typeOf (.ref a)) (.ref C))(h:Q (some (.ref C)) {s with toks:=s.toks+1}):wpAny (model prog w) A (getAttr? (.ref a) "__class__") Q E s:=by
 obtain⟨I,g,d,t,os⟩:=s;have a0:=T;have b0:=looks_findIn (M:=model prog w) X Y.ga;have a9:=looks_findIn (M:=model prog w) X Y.hk;have a8:=looks_findIn (M:=model prog w) X Y.ha;have a7:=looks_specialIn (M:=model prog w) X Y.hn;have a6:=looks_takesIn (M:=model prog w) X Y.htk;have a5:=looks_subIn (M:=model prog w) X Y.hb;have LF:Looks (model prog w) I (find (.ref a) (.ref C) "__class__") (.bind (.builtin "getset_descriptor.__get__") (.builtin "object.__class__")) :=
  a8.andThen ((show Looks (model prog w) I (getOf (some (.builtin "object.__class__"))) (some (.builtin "getset_descriptor.__get__")) from a7).andThen ((show Looks (model prog w) I (dataDescriptor? (some (.builtin "object.__class__")) (some (.builtin "getset_descriptor.__get__"))) (some (.builtin "getset_descriptor.__get__",.builtin "object.__class__")) from a6.andThen .now).andThen (Looks.tag .now)))
 have a1:(Value.builtin "BaseException.__getattribute__"==Value.builtin "object.__getattribute__")=false:=by decide +kernel
 unfold getAttr? getAttrBy? getAttrBy;refine zaa (wpAny_mkText (zaa (wpAny_attempt (wpAny_holding (zaa (a0.at (zaa (b0.at ?_))))))))
 dsimp only
 rw[a1,Bool.and_false,if_neg Bool.false_ne_true];unfold getAttrByItsOwn hookBefore;rw[if_pos (show onTheHeap (Value.ref C)=true from rfl)];refine zaa (a9.at ?_);refine zaa (wpAny_attempt (wpAny_holding ?_));unfold callGetattribute boundAndCalled;rw[Bool.false_and,if_neg Bool.false_ne_true];refine zaa (wpAny_of_eq (PySem.F.attr_ValueError.ga.bind (.ref a)) ?_)
 dsimp only
 refine wpAny_call (codeAny_call_builtin PySem.F.attr_ValueError.ga.plain PySem.F.entry_bexc_ga ?_);have a2:builtinKind "BaseException.__getattribute__" = some .slot:=by decide +kernel
 have j:splitId "BaseException.__getattribute__" = some ("BaseException","__getattribute__"):=by decide +kernel
 have LI:Looks (model prog w) I (isInstance (.ref a) (.type "BaseException")) true:=a0.andThen a5;have a4:=PySem.F.args_bexc_ga (.ref a) (.str "__class__" t);have Z:wpAny (model prog w) A.in1 (Builtin.«object.__getattribute__» ⟨[.ref a,.str "__class__" t],[]⟩) (λq s'=>match q with|.done (.ret v)=>v=.ref C/\s'=⟨I,g,d,t+1,os⟩|_=>False) (λ_ _=>False) ⟨I,g,d,t+1,os⟩:=by
  unfold Builtin.«object.__getattribute__» slotArgs
  (repeat (first|(refine zaa (wpAny_holding (wpAny_call (Bv X T Y.hm ?_))))|lk))
  exact⟨rfl,rfl⟩
 simp only[checkBuiltinCall,a2,j];refine zaa (LI.at ?_);rw[if_neg (by decide)]
 refine wpAny_of_eq (a:=()) a4 (wpAny_mono Z (λq s' z=>?_) λ_ _ z=>z.elim);rcases q with(_|_|_|v)|_ <;> first|exact z.elim|skip
 obtain⟨rfl,rfl⟩:=z;exact zab (zab h)
end
end
def Hf{K:W.Frag}{a C:Addr}(Y:Py K C):W.KitX K (.ref a) (.ref C) (λh=>∃o,h.get? a=some o/\o.cls=.ref C/\W.notCls o=true) where
 ty:=λ_ _ _ p=>by
  obtain⟨o,h1,h2,_⟩:=p;exact h2▸(W.Looks.ld h1).andThen .now
 it:=λ_ _ X _=>by
  obtain⟨a0,j,_⟩:=W.any_some Y.hd;unfold W.clsIn at j;split at j
  ·rename_i c' d' a1 I ho;intro A' Q' E' s' k q;unfold isType loadHead;exact zaa (wpAny_loadPart (k _ _ (X _ _ ho)) (zab q))
  cases j
 ne:=λh tp dd its n sl X Z=>by
  obtain⟨a0,j,_⟩:=W.any_some Y.hd;refine Bool.eq_false_iff.mpr λq=>?_;have e:C=tp:=Value.ref.inj (beq_iff_eq.mp q);subst e;unfold W.clsIn at j;split at j
  ·rename_i c' d' a1 I ho;have z:=(X _ _ ho).symm.trans Z;cases z
  cases j
 ca:=λ{prog w A E Q s} X p k=>by
  obtain⟨o,h1,h2,_⟩:=p;exact Mx Y X (h2▸(W.Looks.ld h1).andThen .now) k
section
variable{p:Pos}{c:Str}{C0:Addr}
def z1p(j:X.mg c=some (.ref C0))(q:Gl X c:=by rfl)(Z:D_ c:=by decide):PE X (.Name c np) (λσ H Q=>Q (.ref C0) H):=λpn s σ H Q I h=>j7 I q j ⟨.ref C0,H,I,rfl,h⟩ Z
def Qf:ua X (.builtin "isinstance") (λxs H Q=>∃a C y z b,xs=[.ref a,y]/\(∀u,RelV y u->u=z)/\H a=some (ExcO a C)/\W.kitOne X.K (.ref C) z=some b/\Py X.K C/\Q (.bl b) H):=by
 intro pn s σ H xs us Q I r h;obtain⟨a,C,y,z,b,rfl,hz,hH,ek,Y,q⟩:=h;obtain⟨u,v,rfl,Z,j⟩:=Ke r;cases (show u=Value.ref a from Z);have:=hz v j;subst this;have ob:=I.hok a _ hH;exact W.kia_one (Hf Y) I.kIn ob.1 ek (λz=>nomatch z) λtk=>⟨.bl b,H,I.tok tk,rfl,q⟩
def dIsE(K:W.Frag)(z:Value)(te:TD):TD:=λL U=>te L λr=>match r.d with
 |.exc C=>∃b,W.kitOne K (.ref C) z=some b/\Py K C/\U (dv (.bl b))
 |_=>False
def Ru{t:TA}(hz:∀ u,RelV y u->u=z)(ht:∀ σ H Q,u7 X.K H_ te σ H (λv H1=>Q [v,y] H1)->t σ H Q) :
  ∀σ H Q,u7 X.K H_ (dIsE X.K z te) σ H Q->tCB (λxs H Q=>∃a C y z b,xs=[.ref a,y]/\(∀u,RelV y u->u=z)/\H a=some (ExcO a C)/\W.kitOne X.K (.ref C) z=some b/\Py X.K C/\Q (.bl b) H) t σ H Q:=λσ H Q q=>by
 obtain⟨L,o,R,U,j,kk⟩:=q;refine ht σ H _ ⟨L,o,R,_,j,λv r H1 s1 Z h1=>?_⟩;have I:=Z.view;split at h1
 ·rename_i C hd;rw[hd]at I;obtain⟨b,ek,Y,h2⟩:=h1;obtain⟨a,rfl,hH,_⟩:=I;exact⟨a,C,y,z,b,rfl,hz,hH,ek,Y,kk _ _ H1 s1 (by exact rfl) h2⟩
 exact h1.elim
def vj(hK:X.K=K0)(hi:X.mg "isinstance" = none)(hc:X.mg c=some (.ref C0))(he:ED Y X e te)(hg:Gl X "isinstance":=by rfl)(Z:Gl X c:=by rfl)(hd:D_ c:=by decide)(hs:starEach [e,.Name c np] X.env=(false,eval e X.env)::starEach [.Name c np] X.env:=by rfl)(I:(backTo pos (starEach [.Name c np] X.env)).any (·.1)=false:=by rfl):ED Y X (.Call (.Name "isinstance" p) [e,.Name c np] [] pos) (dIsE K0 (.ref C0) te):=λH_=>by
 subst hK;exact impE (t6 Qf hg hi vv (xw (he H_) (xw (z1p hc Z hd) vh) hs) (by decide) (by decide) hs I) (Ru (y:=.ref C0) (λu h=>h) λσ H Q q=>by
  obtain⟨L,o,R,U,j,kk⟩:=q;exact⟨L,o,R,U,j,kk⟩)
end
def Rw(I:Inv X pn σ H s)(j:A'.frames=X.A.frames)(Z:calm'=true->A'.handled=none)(q:∀ p∈pn'++pins',p∈X.pn++pn) :
  Inv {X with A:=A',calm:=calm',pn:=pn',xe:=xe'} pins' σ H s :=
 ⟨⟨I.ok.mod,I.ok.kind,I.ok.glob,I.ok.blt,I.ok.above,I.ok.inj,I.ok.has,I.ok.cab,Z,j.trans I.ok.frames,I.ok.stk,I.ok.exf,I.ok.bs,I.ok.bsz,I.ok.noex,I.ok.exfs,I.ok.funs,I.ok.frf⟩,
  I.os,I.bare,I.base,I.loc,I.cell,I.free,I.freeC,λp h=>I.pin p (q p h),I.hok,I.len⟩
abbrev Xtry(X:Cx)(pn:List (Addr×Obj))(xe:Value->Shared->Prop):Cx:={X with pn:=pn,xe:=xe}
abbrev Xhan(X:Cx)(a:Addr):Cx:={X with A:=X.A.mark (some (.ref a)),calm:=false,xe:=λ_ _=>False}
def hanZ(j:Nat)(Z:DZ):DZ:={nx:=λL=>Z.nx (clrS L j),rt:=Z.rt,bk:=λL=>Z.bk (clrS L j),ct:=λL=>Z.ct (clrS L j)}
def sTry(K:W.Frag)(C0:Addr)(j:Nat)(tb:(DE->Addr->Prop)->TDS)(ts:TDS):TDS:=λL Z =>
 tb (λq C=>W.exmOne K (.ref C) (.ref C0)=some true/\ts (setS q j (dv (.exc C))) (hanZ j Z)) (frzE L) Z
def Tq{a C:Addr}{t:Value}(F:FlyB P w outer H h H' B h2)(fl:Heap.FlyingW B outer a (.ref C) t h2)(hf:∀ b∈frs outer,H' b=none) :
  H' a=none/\Un (frs outer) [] H (upd H' a (ExcO a C)) h h2/\HOk P w (upd H' a (ExcO a C)) h2:=by
 obtain⟨oe,vs,j,a0,hd,_⟩:=fl.first;have Z:a∉frs outer:=λz=>by
  obtain⟨_,o',e2,nf⟩:=fl.2.2.1.mem z;rw[j]at e2;cases e2;exact nf vs hd
 have nB:=fl.2.1;have I:H' a=none:=by
  cases e:H' a with
  |none=>rfl
  |some u =>
   have:=F.cov a oe j Z (.inl (by rw[e];exact λz=>nomatch z))
   rw[nB]at this;cases this
 have nh:∀o,h.get? a≠some o:=λo q=>by
  have:=F.cov a oe j Z (.inr ⟨o,q⟩);rw[nB]at this;cases this
 refine⟨I,⟨F.un.keep,F.un.slot,λb o q n hx=>?_,F.un.there,λb xs q=>?_,λb o u q=>?_,λb ps q=>?_⟩,λb u e=>?_⟩
 ·rw[zv (λz=>nh o (by rw[<- z];exact q))]
  exact F.un.free b o q n hx
 ·have:=F.un.tups b xs q;rw[zv (zp this I)];exact this
 ·have:=F.un.frzs b o u q;rw[zv (zp this I)];exact this
 ·obtain⟨m,this⟩:=F.un.tbls b ps q;exact⟨m,by rw[zv (zp this I)];exact this⟩
 by_cases hb:b=a
 ·subst hb;rw[zu]at e;cases e;refine⟨⟨oe,j,a0,by unfold W.notCls;rw[hd]⟩,⟨oe,j⟩,λh1 h2 ⟨o,q1,q2⟩ k=>⟨o,k o q1,q2⟩⟩
 rw[zv hb]at e;exact(F.hok b u e).stay (λ_ _ _ q=>q) (λc q=>by rw[zv (zp q I)];exact q) λc xs q=>by rw[zv (zp q I)];exact q
def z0l(hK:X.K=K0)(j:Nat){n c:Str}{tb:(DE->Addr->Prop)->TDS}(hN:X.N.Nodup)(hm:X.mg c=some (.ref C0))(hb:∀ (Γ':Hp->Prop) (pn:List (Addr×Obj)) (xe:Value->Shared->Prop) (χ:DE->Addr->Prop),XP Γ' (Xtry X pn xe) χ->SDs Γ' (Xtry X pn xe) body (tb χ))(hs:∀ a,SDs Y (Xhan X a) (b₀::a2) ts)(b0:X.stack=X.env::X.outer:=by rfl)(f0:X.env.frame=some X.env.locals:=by rfl)(f6:X.calm=true:=by rfl)(hi:X.N[j]?=some n:=by rfl)(hk:X.env.scope.names.lookup n=some .local:=by rfl)(hg:Gl X c:=by rfl)(f1:D_ c:=by decide) :
  SD Y X (.Try body [.ExceptHandler (some (.Name c np)) (some n) (b₀::a2) hpos] [] [] pos) (sTry K0 C0 j tb ts):=λH_ pn s σ H D I h=>by
 subst hK;obtain⟨L,o,R,Z,hZ,k1,k2,k3,k4⟩:=h;refine wpAny_Try_except ?_;have e0:X.A.frames=some (X.env::X.outer):=by rw[<- b0];exact I.ok.frames
 have a6:∀{xe:Value->Shared->Prop}{a0:St}{H':Hp}{s':Shared},Inv (Xtry X (X.pn++pn) xe) [] a0 H' s'->Inv X pn a0 H' s':=λ{xe a0 H' s'} J =>
  Rw (X:=Xtry X (X.pn++pn) xe) (A':=X.A) (calm':=X.calm) (pn':=X.pn) (xe':=X.xe) J rfl (λz=>I.ok.hd z) (λp hp=>List.mem_append_left _ hp)
 have go:=hb (λH'=>H'=H) (X.pn++pn) (λe c3=>wpAny (model X.prog X.w) X.A (noteFrame e X.env) (λ_ c2=>wpAny (model X.prog X.w) X.A (setFlight e none) (λ_ c1=>wpAny (model X.prog X.w) X.A (handleBy e X.env [.ExceptHandler (some (.Name c np)) (some n) (b₀::a2) hpos]) (SP X pn D) X.xe c1) X.xe c2) X.xe c3)
  (λa1 C=>W.exmOne X.K (.ref C) (.ref C0)=some true/\ts (setS a1 j (dv (.exc C))) (hanZ j Z)) (λf3 hH f5 o1 e4 e2 H1 s1 e s' J R1 hc=>?_) ⟨H,rfl⟩ [] s σ H D
  (Rw (A':=X.A) (calm':=X.calm) (pn':=X.pn++pn) I rfl (λz=>I.ok.hd z) (λp hp=>by rwa [List.append_nil]at hp))
  ⟨frzE L,[],R.frz,Z,hZ,λa1 a0 H' o' g R' q=>k1 a1 a0 H' o' R'.gr (R'.unfrz R.same) q,λa1 a0 H' o' g R' q=>k2 a1 a0 H' o' R'.gr (R'.unfrz R.same) q,λa1 a0 H' o' g R' q=>k3 a1 a0 H' o' R'.gr (R'.unfrz R.same) q,
   λv r H' sm rv q=>k4 v r H' (R.same.trans sm) (rv.start R.same) q⟩
 ·refine wpAny_mono go (λf s1 hf=>?_) (λe s1 he=>he);cases f with
  |next=>obtain⟨a0,H',J,q⟩:=hf;exact d4 pn s1 a0 H' D (a6 J) q
  |brk=>obtain⟨a0,H',J,q⟩:=hf;exact⟨a0,H',a6 J,q⟩
  |cont=>obtain⟨a0,H',J,q⟩:=hf;exact⟨a0,H',a6 J,q⟩
  |ret u=>obtain⟨v,a0,H',J,rv,q⟩:=hf;exact⟨v,a0,H',a6 J,rv,q⟩
 subst hH;obtain⟨a,C,t,H',B,rfl,e7,b3,F,fl,sm,C',e',e9,e6⟩:=hc;cases e';have hf:∀b∈frs X.stack,H' b=none:=λb hb=>by
  obtain⟨_,o,ho,_⟩:=J.stack.mem hb;exact F.un.free b o ho (J.stkFree b hb) (λz=>nomatch z)
 have f2:Heap.FlyingW B (X.env::X.outer) a (.ref C) t s'.heap:=by rw[<- b0];exact fl
 refine wpAny_looks_onW e0 f0 f2 λf4 a8 c0=>?_;refine wpAny_landsW a8 λh₅ a4 b9=>?_;have F5:FlyB X.prog X.w X.stack H1 s1.heap H' B h₅:=F.step a4.1 (c0.trans b9) fl.2.2.1 hf;have d3:∀{H2:Hp}{hh:Heap},Un (frs X.stack) [] H1 H2 s1.heap hh->HOk X.prog X.w H2 hh->Inv (Xhan X a) pn e2 H2 {s' with heap:=hh}:=λ{H2 hh} un hok=>by
  have J5:=J.call' (s':={s' with heap:=hh}) e7 un hok b3 (λb z=>absurd z (by simp))
  exact Rw (X:=Xtry X (X.pn++pn) _) (A':=X.A.mark (some (.ref a))) (calm':=false) (pn':=X.pn) J5 rfl (λz=>nomatch z) (λp hp=>List.mem_append_left _ hp)
 have J5:=d3 F5.un F5.hok;refine wpAny_handleBy_cons (codeAny_handlers_test (j7 (X:=Xhan X a) J5 hg hm ?_ f1)) (by intro q;cases q)
 have LT:W.Looks (model X.prog X.w) h₅ (typeOf (.ref a)) (.ref C):=by
  obtain⟨ob,e8,e1⟩:=a4.there;exact e1▸(W.Looks.ld e8).andThen .now
 refine(W.exm_one J5.kIn LT e9).here ?_;refine codeAny_handlers_suite_as ?_;refine lands_againW a4 λh₆ a9 b4=>?_;have F6:FlyB X.prog X.w X.stack H1 s1.heap H' B h₆:=F5.step a9.1 b4 (by rw[b0];exact a4.2.2.1) hf
 obtain⟨na,e3,e5⟩:=Tq F6 (by rw[b0];exact a9) hf
 refine gj (X:=Xhan X a) (i:=j) (v:=.ref a) (d3 e3 e5) hN hi (.inl hk) rfl (λs7 I7=>?_) (.inr hk);have d0:Same H' (upd H' a (ExcO a C)):=λb u e=>by rw[zv (zp e na)];exact e
 have R6:=((R1.unfrz R.same).to sm).to d0;have R7:=R6.setV j (d:=.exc C) (v:=.ref a) ⟨a,rfl,zu,(R1.to sm).ofree na⟩;have gr:Grow (o.map Prod.snd) (o1.map Prod.snd) f3 (upd H' a (ExcO a C)):=(R1.gr.trans (Grow.same sm)).trans (Grow.same d0);have a2:=hs a H_ pn s7 _ _ {nx:=λa7 H2=>D.nx (a7.set j none) H2,rt:=D.rt,bk:=λa7 H2=>D.bk (a7.set j none) H2,ct:=λa7 H2=>D.ct (a7.set j none) H2} I7
  ⟨_,o1,R7,hanZ j Z,e6,λa1 a0 H2 o' g R' q=>k1 _ _ H2 o' (gr.trans g) (R'.clr j) q,λa1 a0 H2 o' g R' q=>k2 _ _ H2 o' (gr.trans g) (R'.clr j) q,λa1 a0 H2 o' g R' q=>k3 _ _ H2 o' (gr.trans g) (R'.clr j) q,k4⟩
 have a5:∀{a0:St}{H':Hp}{s':Shared},Inv (Xhan X a) pn a0 H' s'->Inv X pn a0 H' s':=λ{a0 H' s'} J =>
  Rw (X:=Xhan X a) (A':=X.A) (calm':=X.calm) (pn':=X.pn) (xe':=X.xe) J rfl (λz=>I.ok.hd z) (λp hp=>hp)
 refine wpAny_mono a2 (λf s8 hf=>?_) (λ_ _ z=>z.elim);cases f with
 |next=>obtain⟨a0,H2,J8,q⟩:=hf;exact Xc (X:=X) (a5 J8) hN hi hk λs9 I9=>⟨_,H2,I9,q⟩
 |brk=>obtain⟨a0,H2,J8,q⟩:=hf;exact Xc (X:=X) (a5 J8) hN hi hk λs9 I9=>⟨_,H2,I9,q⟩
 |cont=>obtain⟨a0,H2,J8,q⟩:=hf;exact Xc (X:=X) (a5 J8) hN hi hk λs9 I9=>⟨_,H2,I9,q⟩
 |ret u=>obtain⟨v,a0,H2,J8,rv,q⟩:=hf;exact Xc (X:=X) (a5 J8) hN hi hk λs9 I9=>⟨v,_,H2,I9,rv,q⟩
def Vv(n:Int):List Nat:=(PySem.Str.ofString (toString n)).cps.toList
def rz(x:String):(PySem.Str.ofString x).cps.toList=x.toList.map Char.toNat:=by
 exact signs_ofString x
def b5(m:Nat):Vv (m:Int)=(Nat.toDigits 10 m).map Char.toNat:=by
 unfold Vv;rw[rz,show toString ((m:Nat):Int)=m.repr from rfl,Nat.toList_repr]
def cz(m:Nat):Vv (Int.negSucc m)=45::(Nat.toDigits 10 (m+1)).map Char.toNat:=by
 unfold Vv;rw[rz,show toString (Int.negSucc m) = "-"++(m+1).repr from rfl];rw[String.toList_append,zMa,Nat.toList_repr];rfl
def t9{m c:Nat}(h:c∈(Nat.toDigits 10 m).map Char.toNat):48<=c/\c<=57:=by
 obtain⟨ch,j,rfl⟩:=zah.mp h;have:=Nat.isDigit_of_mem_toDigits (by decide) (by decide) j
 simp only[Char.isDigit,Bool.and_eq_true,decide_eq_true_eq]at this;exact⟨this.1,this.2⟩
def Sa{c:Nat}(h:c∈Vv n):c=45\/(48<=c/\c<=57):=by
 cases n with
 |ofNat m=>rw[show Int.ofNat m=((m:Nat):Int) from rfl,b5]at h;exact .inr (t9 h)
 |negSucc m =>
  rw[cz]at h;rcases zam.mp h with h|h
  ·exact .inl h
  exact .inr (t9 h)
def cp10(h0:0<=j)(h1:j<=1000):CPow 10 j=True:=by
 refine eq_true ⟨h0,by omega,by decide⟩
def Oe:((10:Int) ^ k=0)=False:=by
 refine eq_false ?_;have:(0:Int)<10 ^ k:=Int.pow_pos (by decide)
 omega
def z3i(h:j≠0)(h1:j.natAbs<=1000000000000):FdOk i j=True:=eq_true (fdOk (m:=64) h (PySem.intBits_le_iff.mpr (by omega)))
def cutD_take(l:List D)(k:Nat):cutD l none (some (k:Int))=l.take k:=by
 unfold cutD;rw[ZZ.sIx_none,ZZ.sIx_nat,List.drop_zero,Nat.sub_zero];rw[List.take_eq_take_iff];omega
def cutD_drop(l:List D)(k:Nat):cutD l (some (k:Int)) none=l.drop k:=by
 unfold cutD;rw[ZZ.sIx_none,ZZ.sIx_nat];by_cases h:k<=l.length
 ·rw[Nat.min_eq_left h,List.take_of_length_le (by simp)]
 rw[Nat.min_eq_right (by omega),List.drop_of_length_le (zaj _),List.drop_of_length_le (by omega)]
 simp
def U8{α:Type}{l:List α}{i:Int}{x:α}(h0:0<=i)(h:l[i.toNat]?=some x):atI l i=some x:=by
 have:=xx h
 rwa [Int.toNat_of_nonneg h0]at this
def Lw{α:Type}{l:List α}(h:l≠[])(x:Int):∃r∈l,atI l (x.fmod (l.length:Int))=some r:=by
 have j:(0:Int)<(l.length:Int):=by
  have:=List.length_pos_iff.mpr h;omega
 have h0:=Int.fmod_nonneg_of_pos x j;have h1:=Int.fmod_lt_of_pos x j;have hl:(x.fmod (l.length:Int)).toNat<l.length:=by omega
 exact⟨l[(x.fmod (l.length:Int)).toNat],List.getElem_mem hl,U8 h0 (by simp[hl])⟩
def yt(x m:Int)(h:0<m):0<=x.fmod m/\x.fmod m<m:=⟨Int.fmod_nonneg_of_pos x h,Int.fmod_lt_of_pos x h⟩
def Y3{x:Int}(h:x.natAbs<2 ^ m):intBits x<=m:=PySem.intBits_le_iff.mpr h
def ko{tb:TDS}(ds:List D)(h:∀ U:List D->Prop,U ds->ti L U)(P:Nat->DE->Prop)(h0:P 0 L)(q:∀ i d L,ds[i]?=some d->P i L->g d L λj=>tb j {Z with nx:=P (i+1),ct:=P (i+1),bk:=Z.nx})(I:∀ L,P ds.length L->Z.nx L):sFor ti g tb L Z:=h _ ⟨P,h0,q,I⟩
def k6{tc:TDb}(ds:List D)(h:∀ N:List D->Prop,N ds->ti L N)(f:D->Option D)(hl:ds.length<=100000)(I:∀ d∈ds,g d (ρ0 n js L) λj=>tc j λc=>(c=true->te j λr=>(match r.k with|.own=>False|_=>True)/\f d=some r.d)/\(c=false->f d=none))(q:U (df (.lst (ds.filterMap f)))):A7 ti n js g tc te L U:=h _ ⟨f,hl,I,q⟩
def vt{lo:Int}(h:(rngD lo n)[i]?=some d):i<n/\d=.int (lo+(i:Int)):=by
 unfold rngD at h;rw[zai]at h;cases e:(List.range n)[i]? with
 |none=>rw[e]at h;cases h
 |some m =>
  rw[e]at h;have hi:=(zag.mp e).1;rw[List.length_range]at hi;rw[List.getElem?_range hi]at e;cases e;cases h;exact⟨hi,rfl⟩
def xt{lo:Int}:(rngD lo n).length=n:=by unfold rngD;simp
def bj{α q:Type}(f:α->q)(l:List α)(i:Int):atI (l.map f) i=(atI l i).map f:=by
 unfold atI;rw[zLm];cases ixN l.length i with
 |none=>rfl
 |some j=>simp
def xv{t:TGs}(Z:X.K=K0)(I:X.calm=true)(h:PGs X es t)(q:(assignEach es X.env).length=n:=by rfl)(j:(assignEach es X.env).findIdx? (·.1)=none:=by rfl):PG X (.Tuple es k pos) (gTup K0 n t):=by
 subst Z;exact z1j I h q j
def Gd{K:W.Frag}{C:Addr}(j:W.hasDictIn K C=true):(W.clsIn K C).isSome=true:=by
 obtain⟨cd,q,_⟩:=W.any_some j;rw[q];rfl
def Wx{K:W.Frag}{C C0:Addr}{b:Bool}(ty:W.typeIn K (.ref C0)=some (.type "type"))(j:W.hasDictIn K C0=true)(h:W.subIn K (.ref C) (.ref C0)=some b):W.kitCls K (.ref C) (.ref C0)=some b:=by
 unfold W.kitCls
 dsimp only
 rw[if_pos (by rw[Gd j,ty];rfl)]
 exact h
def z3k{K:W.Frag}{C C0:Addr}{b:Bool}(q:W.subIn K (.ref C0) (.type "BaseException")=some true)(ty:W.typeIn K (.ref C0)=some (.type "type"))(j:W.hasDictIn K C0=true)(h:W.subIn K (.ref C) (.ref C0)=some b):W.exmOne K (.ref C) (.ref C0)=some b:=by
 unfold W.exmOne;rw[if_pos (by rw[q];rfl)]
 exact Wx ty j h
def Hg{K:W.Frag}{C:Addr}:W.kitOne K (.ref C) (.ref C)=some true:=by
 unfold W.kitOne;rw[if_pos (beq_self_eq_true _)]
def B8{K:W.Frag}{C C0:Addr}{b:Bool}(j:C≠C0)(ty:W.typeIn K (.ref C0)=some (.type "type"))(q:W.hasDictIn K C0=true)(h:W.subIn K (.ref C) (.ref C0)=some b):W.kitOne K (.ref C) (.ref C0)=some b:=by
 unfold W.kitOne;rw[if_neg (λz=>j (Value.ref.inj (beq_iff_eq.mp z)))];exact Wx ty q h
abbrev excV(K:W.Frag)(C:Addr):Prop:=W.excIn K C [.type "ValueError",.type "Exception",.type "BaseException",.type "object"] "ValueError.__new__" = true
def zipD(xs ys:List D):List D:=List.zipWith (λx y=>D.tup [x,y]) xs ys
def seqD:D->Option (List D)
 |.lst ds=>some ds
 |.tup ds=>some ds
 |.scr ns=>some (ns.map D.int)
 |_=>none
def Kx:seqD (.lst ds)=some ds:=rfl
def Kv:seqD (.tup ds)=some ds:=rfl
def Kw:seqD (.scr ns)=some (ns.map D.int):=rfl
def SeqP(b:Bool)(K:W.Frag)(H:Hp)(O:List Addr)(l:Addr)(d:D):Prop:=match d with
 |.lst ds=>b=false/\∃xs,H l=some (.lst xs)/\l∉O/\Reps K H O ds xs
 |.tup ds=>b=true/\∃xs,SqT K H l xs/\Reps K H O ds xs
 |.scr ns=>b=false/\Scr K H l ns
 |_=>False
def SeqP.of{K:W.Frag}{H:Hp}{O:List Addr}{d:D}{v:V}{ds:List D}(h:Rep K H O d v)(e:seqD d=some ds):∃b l,v=.ref l/\SeqP b K H O l d:=by
 cases d with
 |lst es=>obtain⟨a,xs,rfl,q,n,r⟩:=h;exact⟨false,a,rfl,rfl,xs,q,n,r⟩
 |tup es=>obtain⟨a,xs,rfl,q,r⟩:=h;exact⟨true,a,rfl,rfl,xs,q.1,r⟩
 |scr ns=>obtain⟨a,rfl,q⟩:=h;exact⟨false,a,rfl,rfl,q⟩
 |_=>cases e
def SeqP.sq{b:Bool}{K:W.Frag}{H:Hp}{O:List Addr}{l:Addr}{d:D}{ds:List D}(h:SeqP b K H O l d)(e:seqD d=some ds):∃xs,SqK b K H l xs/\Reps K H O ds xs:=by
 cases d with
 |lst es=>obtain⟨rfl,xs,q,n,r⟩:=h;cases e;exact⟨xs,SqL.of q,r⟩
 |tup es=>obtain⟨rfl,xs,q,r⟩:=h;cases e;exact⟨xs,q,r⟩
 |scr ns=>obtain⟨rfl,q⟩:=h;cases e;exact⟨_,q.seq,Reps.ints ns⟩
 |_=>cases e
def SeqP.grow{b:Bool}{K:W.Frag}{H H':Hp}{O O':List Addr}{l:Addr}{d:D}(h:SeqP b K H O l d)(g:Grow O O' H H'):SeqP b K H' O' l d:=by
 cases d with
 |lst es=>obtain⟨rfl,xs,q,n,r⟩:=h;exact⟨rfl,xs,(g.keep _ _ q n).1,(g.keep _ _ q n).2,Reps.grow g _ _ r⟩
 |tup es=>obtain⟨rfl,xs,q,r⟩:=h;exact⟨rfl,xs,Ye g q,Reps.grow g _ _ r⟩
 |scr ns=>obtain⟨rfl,q⟩:=h;exact⟨rfl,gl g q⟩
 |_=>exact h.elim
def z2s{K:W.Frag}{b1 b2:Bool}{l1 l2:Addr}{d1 d2:D}{xs ys:List D}(e1:seqD d1=some xs)(e2:seqD d2=some ys):ItD K (Itz b1 b2 K l1 l2) (zipD xs ys) (λH O=>SeqP b1 K H O l1 d1/\SeqP b2 K H O l2 d2) where
 go:=λH O i d ⟨p1,p2⟩ e=>by
  obtain⟨us,Z,r1⟩:=p1.sq e1;obtain⟨vs,I,r2⟩:=p2.sq e2;unfold zipD at e;rw[List.getElem?_zipWith]at e;cases ex:xs[i]? with
  |none=>rw[ex]at e;cases e
  |some x =>
   cases ey:ys[i]? with
   |none=>rw[ex,ey]at e;cases e
   |some y =>
    rw[ex,ey]at e;cases e;obtain⟨u,eu,ru⟩:=r1.get ex;obtain⟨v,ev,rv⟩:=r2.get ey;refine⟨⟨us,vs,u,v,Z,I,eu,ev⟩,λz H' yl=>?_⟩;obtain⟨T,u',v',hT,rfl,q,j,rfl⟩:=yl;have q:=q _ Z;have j:=j _ I;rw[eu]at q;rw[ev]at j;cases q;cases j;have sm:Same H (upd H T (.tup [u,v])):=λb w hb=>by rw[zv (zp hb hT)];exact hb
    refine⟨sm,T,[u,v],rfl,⟨.inl (.inl zu),zu⟩,?_⟩;exact⟨u,[v],rfl,Rep.grow (Grow.same sm) _ _ ru,v,[],rfl,Rep.grow (Grow.same sm) _ _ rv,rfl⟩
 stop:=λH O ⟨p1,p2⟩=>by
  obtain⟨us,Z,r1⟩:=p1.sq e1;obtain⟨vs,I,r2⟩:=p2.sq e2;refine⟨us,vs,Z,I,?_⟩;have h1:=r1.length;have h2:=r2.length;unfold zipD;rw[List.length_zipWith,h1,h2];omega
 keep:=λO O' H H' ⟨p1,p2⟩ g=>⟨p1.grow g,p2.grow g⟩
def iZ(t:TDs):TID:=λL U=>t L λrs=>match rs with
 |[⟨k1,d1⟩,⟨k2,d2⟩]=>(match k1 with|.own=>False|_=>True)/\(match k2 with|.own=>False|_=>True)/\match seqD d1,seqD d2 with
  |some xs,some ys=>U (zipD xs ys)
  |_,_=>False
 |_=>False
def z3o{es:List Expr}{kk:Nat}{tp:Pos}{a b:Expr}{t:TDs}{p pos:Pos}(hm:X.mg "zip" = none)(ha:EA Y X [a,b] t)(hg:Gl X "zip":=by rfl)(he:starEach [a,b] X.env=(false,eval a X.env)::starEach [b] X.env:=by rfl)(Z:(backTo pos (starEach [b] X.env)).any (·.1)=false:=by rfl):EI Y X (.Tuple es kk tp) (.Call (.Name "zip" p) [a,b] [] pos) (iZ t):=λH_=>impI (z1i hg hm (ha H_) he Z) λσ H R q=>by
 obtain⟨L,o,RE,U,I,k⟩:=q;refine⟨L,o,RE,_,I,λvs rs H1 s1 j h1=>?_⟩;split at h1
 ·rename_i k1 d1 k2 d2;obtain⟨n1,n2,h1⟩:=h1;obtain⟨v1,w1,rfl,q1,v2,w2,rfl,q2,rfl⟩:=j;have p1:=q1.solid (tm n1);have p2:=q2.solid (tm n2);split at h1
  ·rename_i xs ys e1 e2;obtain⟨b1,l1,rfl,z1⟩:=SeqP.of p1 e1;obtain⟨b2,l2,rfl,z2⟩:=SeqP.of p2 e2;obtain⟨us,y1,_⟩:=z1.sq e1;obtain⟨ws,y2,_⟩:=z2.sq e2;exact⟨b1,b2,l1,l2,us,ws,rfl,y1,y2,k _ _ _ H1 s1 (z2s e1 e2) ⟨z1,z2⟩ h1⟩
  exact h1.elim
 exact h1.elim
def Bg:List D->Option (List Int)
 |[]=>some []
 |.int n::r=>(Bg r).map (n::·)
 |_::_=>none
def Vb:∀(ns:List Int),Bg (ns.map D.int)=some ns
 |[]=>rfl
 |n::ns=>by rw[List.map_cons,Bg,Vb ns];rfl
def frzS:DE->Nat->DE
 |[],_=>[]
 |x::r,0=>x.map (λr=>dv r.d)::r
 |x::r,i+1=>x::frzS r i
theorem Ry:∀(L:DE)(i j:Nat),(frzS L i)[j]?=if j=i then L[j]?.map (λx=>x.map λr=>dv r.d) else L[j]?
 |[],i,j=>by simp[frzS]
 |x::r,0,0=>rfl
 |x::r,0,j+1=>by simp[frzS]
 |x::r,i+1,0=>by simp[frzS]
 |x::r,i+1,j+1=>by
  have:=Ry r i j;simp only[frzS,List.getElem?_cons_succ,this];by_cases h:j=i
  ·simp[h]
  rw[if_neg h,if_neg (by omega)]
def Rx:∀(L:DE)(i:Nat),(frzS L i).length=L.length
 |[],_=>rfl
 |_::_,0=>rfl
 |x::r,i+1=>by simp[frzS,Rx r i]
def REnv.frz1{K:W.Frag}{H_ H:Hp}{σ:St}{L:DE}{o:List (Nat×Addr)}(R:REnv K H_ H σ L o)(i:Nat):∃o',REnv K H_ H σ (frzS L i) o'/\∀p∈o',p∈o:=by
 refine⟨o.filter λp=>decide (p.1≠i),?_,λp Z=>(List.mem_filter.mp Z).1⟩;have sub:∀p∈o.filter (λp=>decide (p.1≠i)),p∈o:=λp Z=>(List.mem_filter.mp Z).1;have I:∀a∈(o.filter (λp=>decide (p.1≠i))).map Prod.snd,a∈o.map Prod.snd:=λa ha=>by
  obtain⟨p,Z,e⟩:=zah.mp ha;exact zah.mpr ⟨p,sub p Z,e⟩
 exact {
  same:=R.same
  fresh:=λp Z=>R.fresh p (sub p Z)
  trk:=λp Z=>R.trk p (sub p Z)
  mtb:=λp Z=>R.mtb p (sub p Z)
  nda:=List.Nodup.sublist (List.Sublist.map _ List.filter_sublist) R.nda
  len:=by rw[Rx];exact R.len
  slots:=λj r e=>by
   rw[Ry]at e;by_cases hj:j=i
   ·rw[if_pos hj]at e;cases e1:L[j]? with
    |none=>rw[e1]at e;cases e
    |some x =>
     rw[e1]at e;cases x with
     |none=>cases e
     |some r' =>
      have e':some (dv r'.d)=some r:=Option.some.inj e;cases e';obtain⟨v,ev,q⟩:=R.slots j r' e1;refine⟨v,ev,.inl ⟨rfl,?_⟩⟩;rcases q with⟨_,q⟩|⟨_,a,rfl,m,c⟩
      ·exact Rep.sub I _ _ q
      refine(c.sub I).rep λz=>?_;obtain⟨p,Z,ep⟩:=zah.mp z;have:=X9 R.nda (sub p Z) m ep;have a0:=of_decide_eq_true (List.mem_filter.mp Z).2;rw[this]at a0;exact a0 hj
   rw[if_neg hj]at e;obtain⟨v,ev,q⟩:=R.slots j r e;refine⟨v,ev,?_⟩;rcases q with⟨k,q⟩|⟨k,a,e1,m,c⟩
   ·exact .inl ⟨k,Rep.sub I _ _ q⟩
   exact .inr ⟨k,a,e1,List.mem_filter.mpr ⟨m,decide_eq_true hj⟩,c.sub I⟩}
def sFrz(i:Nat)(t:TDS):TDS:=λL Z=>t (frzS L i) Z
def tj(i:Nat){X:Cx}{st:Stmt}{t:TDS}(h:SD Y X st t):SD Y X st (sFrz i t):=λH_=>impS (h H_) λD σ H h=>by
 obtain⟨L,o,R,Z,hZ,k1,k2,k3,k4⟩:=h;obtain⟨o',R',sub⟩:=R.frz1 i;have g:Grow (o.map Prod.snd) (o'.map Prod.snd) H H:=⟨λb u h n=>⟨h,λz=>n (by
  obtain⟨p,hp,e⟩:=zah.mp z;exact zah.mpr ⟨p,sub p hp,e⟩)⟩,λb xs h=>h,λb ob u h=>h⟩
 exact⟨_,o',R',Z,hZ,λq j H2 o2 g2 R2 I=>k1 q j H2 o2 (g.trans g2) R2 I,λq j H2 o2 g2 R2 I=>k2 q j H2 o2 (g.trans g2) R2 I,λq j H2 o2 g2 R2 I=>k3 q j H2 o2 (g.trans g2) R2 I,k4⟩
section
variable{p:Pos}{c:Str}{T:String}
def z1k(Z:X.mg c=none)(j:bootBuiltins c=some (.type T))(hg:Gl X c:=by rfl)(q:c≠"__name__":=by decide)(hd:D_ c:=by decide):PE X (.Name c np) (λσ H Q=>Q (.ty T) H):=λpn s σ H Q I h=>qo I hg Z j ⟨.ty T,H,I,rfl,h⟩ q hd
def L7(hK:X.K=K0)(hi:X.mg "isinstance" = none)(hc:X.mg c=none)(hv:bootBuiltins c=some (.type T))(he:ED Y X e te)(hg:Gl X "isinstance":=by rfl)(Z:Gl X c:=by rfl)(hn:c≠"__name__":=by decide)(hd:D_ c:=by decide)(hs:starEach [e,.Name c np] X.env=(false,eval e X.env)::starEach [.Name c np] X.env:=by rfl)(I:(backTo pos (starEach [.Name c np] X.env)).any (·.1)=false:=by rfl):ED Y X (.Call (.Name "isinstance" p) [e,.Name c np] [] pos) (dIsE K0 (.type T) te):=λH_=>by
 subst hK;exact impE (t6 Qf hg hi vv (xw (he H_) (xw (z1k hc hv Z hn hd) vh) hs) (by decide) (by decide) hs I) (Ru (y:=.ty T) (λu h=>h) λσ H Q q=>by
  obtain⟨L,o,R,U,j,kk⟩:=q;exact⟨L,o,R,U,j,kk⟩)
end
variable{ke:Expr}{pos':Pos}
def Dp(i:Nat)(tk te:TD):TDS:=λL Z=>match slot L i with
 | some ⟨.own,.lst ds⟩=>te L λr=>tk L λq=>(match r.k with|.own=>False|_=>True)/\(match q.d with
  | .int k=>(match ixN ds.length k with
   |some j=>Z.nx (setS L i (dO (.lst (ds.set j r.d))))
   | none=>False)
  | _=>False)
 |_=>False
def Ul(i:Nat)(hu:X.A.units+64<cLine)(hk:ED Y X ke tk)(he:ED Y X e te)(hN:X.N[i]?=some x:=by rfl)(hv:Vis X.env.scope x:=by walk_at "o")(hd:D_ x:=by decide)(a4:(x==("__classdict__" : Str))=false:=by decide)(hs:swapsWithSole [.Subscript (.Name x np) ke pos'] e pos.line X.env=pure false:=by rfl)(hw:swappedStores [.Subscript (.Name x np) ke pos'] e X.env=pure none:=by rfl)(h1:(assignEach [.Subscript (.Name x np) ke pos'] X.env).map (·.2)=[assign (.Subscript (.Name x np) ke pos') X.env]:=by rfl)(ha:∀ v,assign (.Subscript (.Name x np) ke pos') X.env v=(do
   let ov <- holding [v] (eval (.Name x np) X.env)
   let iv <- holding [v,ov] (eval ke X.env)
   standAt pos'
   holding [v,ov,iv] (setItem ov iv v)
   release [v,ov,iv] []):=by intro _;rfl):SD Y X (.Assign [.Subscript (.Name x np) ke pos'] e pos) (Dp i tk te):=λH_ =>
 impS (Fp (he H_) (Fq (rk hN hv hd a4) (hk H_) R8 ha) hs hw h1) λD σ H h=>by
  obtain⟨L,o,R,Z,hZ,k1,k2,k3,k4⟩:=h;unfold Dp at hZ;split at hZ
  ·rename_i ds es;obtain⟨v0,I,q0⟩:=R.slots i _ (uw es);rcases q0 with⟨k,_⟩|⟨_,a,rfl,m,c⟩
   ·cases k
   obtain⟨xs,hx,rx⟩:=c;refine⟨L,o,R,_,hZ,λv r H1 s1 rv h1=>⟨.ref a,I,L,o,R.to s1,_,h1,λv2 r2 H2 s2 a1 h2=>?_⟩⟩;obtain⟨h0,h2⟩:=h2;have vw:=a1.view;split at h2
   ·rename_i k ek;rw[ek]at vw;cases (show v2=_ from vw);split at h2
    ·rename_i j ej;have q:=s1.trans s2;have a2:=q _ _ hx;have a0:=Reps.grow (Grow.same q) _ _ rx;refine⟨a,xs,k,j,rfl,rfl,a2,by rw[rx.length];exact ej,?_⟩
     obtain⟨R3,g3⟩:=(R.to q).chg (d':=.lst (ds.set j r.d)) (ho:=.lst (xs.set j v)) (uw es) I m ⟨λ_ z=>(by cases z),λ_ _ z=>(by cases z)⟩ λgr =>
      ⟨xs.set j v,zu,gr _ _ (a0.set j ((rv.same s2).solid (tm h0)))⟩
     exact k1 _ σ _ o ((Grow.same q).trans g3) R3 h2
    exact h2.elim
   exact h2.elim
  exact hZ.elim
def blsD:List D->Option (List Bool)
 |[]=>some []
 |.bl b::r=>(blsD r).map (b::·)
 |_::_=>none
theorem Ls:∀{ds:List D}{bs:List Bool},blsD ds=some bs->ds=bs.map D.bl
 |[],bs,h=>by cases h;rfl
 |d::r,bs,h=>by
  cases d with
  |bl n =>
   cases e:blsD r with
   |none=>unfold blsD at h;rw[e]at h;cases h
   |some ms =>
    unfold blsD at h;rw[e]at h;cases h;rw[Ls e];rfl
  |_=>cases h
def u9:∀(bs:List Bool),blsD (bs.map D.bl)=some bs
 |[]=>rfl
 |b::bs=>by rw[List.map_cons,blsD,u9 bs];rfl
def Rh{K:W.Frag}{H:Hp}{O:List Addr}:∀{bs:List Bool}{xs:List V},Reps K H O (bs.map D.bl) xs->xs=bs.map V.bl
 |[],_,h=>h
 |n::bs,xs,h=>by
  obtain⟨v,r,rfl,q,t⟩:=h;rw[Rh t];cases (show v=_ from q);rfl
section
variable{es:List Expr}{p:Pos}
def J1(g:List Bool->Bool):FT:=λds U=>match ds with
 |[.lst l]=>match blsD l with
  |some bs=>U (dv (.bl (g bs)))
  |none=>False
 |_=>False
def Jw{f:List V->Bool}{g:List Bool->Bool}(Z:∀ bs:List Bool,f (bs.map V.bl)=g bs):K3 X.K (rAll X.K f) (J1 g):=by
 intro H O ds vs U Q ho I h k;unfold J1 at h;split at h
 ·rename_i l;split at h
  ·rename_i bs en;obtain⟨v,ws,rfl,⟨a,xs,rfl,q,r⟩,rfl⟩:=I;have el:=Ls en;subst el;have:=Rh r;subst this;refine⟨a,_,rfl,.inl (SqL.of q),λy j=>?_,?_⟩
   ·obtain⟨b,_,rfl⟩:=zah.mp j;rfl
   rw[Z];exact k _ _ H (Same.refl H) (by exact rfl) h
  exact h.elim
 exact h.elim
def uq(q:X.mg "all" = none)(ha:EA Y X (e::es) t)(hc:X.calm=true:=by rfl)(I:Gl X "all":=by rfl)(Z:S_ X e es:=by rfl)(j:B_ X es pos:=by rfl):ED Y X (.Call (.Name "all" p) (e::es) [] pos) (dCB (J1 λbs=>bs.all id) t) :=
 fc (U0 hc) (Jw λbs=>by
  induction bs with
  |nil=>rfl
  | cons b bs ih=>rw[List.map_cons,List.all_cons,List.all_cons,ih];cases b <;> rfl) q (by kernel_rfl) ha I (by decide) (by decide) Z j
end
section
variable{prog:Program}
def cat_tup0{t b:Addr}{ws:List Value}{Q:Value->Shared->Prop}(ht:IsTup s.heap t #[])(hb:IsTup s.heap b ws.toArray)(h1:Q (.ref b) s):wpAny (model prog w) A (binaryOp .Add (.ref t) (.ref b)) Q E s:=by
 obtain⟨⟨cls,dd,a2,sl⟩,ho,hc,n,hd⟩:=id ht;obtain⟨⟨a4,a0,a1,Z⟩,j,I,n2,q⟩:=id hb;simp only at hc hd I q;subst hc hd I q;exact concat_meets ⟨_,ho,rfl⟩ ⟨_,j,rfl⟩ noFill_tuple_add seq_tuple_add PySem.F.slot_tuple_add PySem.F.entry_tuple_add (PySem.F.args_tuple_add_2 _ _)
   (tuple_addW0 t b #[] ws.toArray n n2 dd a0 sl Z (by simp)) ⟨ho,j,h1⟩
end
def z0z(K:W.Frag):R2:=λx y H Q=>∃a b ys,x=.ref a/\y=.ref b/\SqT K H a []/\SqT K H b ys/\Q (.ref b) H
def Jj:OpR X (binaryOp .Add) (z0z X.K):=by
 intro pn s σ H x y v u Q I rx Z h;obtain⟨a,b,ys,rfl,rfl,ha,hb,q⟩:=h;cases rx;cases Z;obtain⟨its,r1,p1,_⟩:=I.tuple ha;obtain⟨j,r2,p2,_⟩:=I.tuple hb;cases r1;exact ZZ.cat_tup0 p1 p2 ⟨.ref b,H,I,rfl,q⟩
def z1x:OpR X (compareOp .Is) (λx y H Q=>∃c d,x=.bl c/\y=.bl d/\Q (.bl (c==d)) H):=by
 intro pn s σ H x y v u Q I Z j h;obtain⟨c,d,rfl,rfl,q⟩:=h;cases Z;cases j;exact is_bool (yx I q rfl)
def Co:OpR X (compareOp .IsNot) (λx y H Q=>∃c d,x=.bl c/\y=.bl d/\Q (.bl (c != d)) H):=by
 intro pn s σ H x y v u Q I Z j h;obtain⟨c,d,rfl,rfl,q⟩:=h;cases Z;cases j;exact isnot_bool (yx I q rfl)
def RV.anew{K:W.Frag}{H0 H:Hp}{O:List Addr}{r:EV}{v:V}(h:RV K H0 H O r v)(p:vk r):RepN K H (λa=>a∉O/\H0 a=none) r.d v:=by
 obtain⟨k,d⟩:=r;cases k with
 |val=>exact Rep.toN _ _ p h
 |own=>exact p.elim
 |new=>exact h
 |fre =>
  obtain⟨a,rfl,m,n,c⟩:=h;cases d with
  |lst ds=>obtain⟨xs,q,r⟩:=c;exact⟨a,xs,rfl,q,⟨n,m⟩,Reps.toN _ _ p r⟩
  |dk ks ds=>obtain⟨xs,q,l,j,r⟩:=c;exact⟨a,xs,rfl,q,⟨n,m⟩,l,j,Reps.toN _ _ p r⟩
  |fd m'=>exact⟨a,rfl,c,n,m⟩
  |_=>exact c.elim
def Yr:List EV->Prop
 |[]=>True
 |r::rs=>vk r/\Yr rs
theorem RVs.anew{K:W.Frag}{H0 H:Hp}{O:List Addr}:∀{rs:List EV}{vs:List V},RVs K H0 H O rs vs->Yr rs->xa K H (λa=>a∉O/\H0 a=none) (rs.map EV.d) vs
 |[],_,h,_=>h
 |r::rs,vs,h,p=>by
  obtain⟨v,j,e,h1,t⟩:=h;exact⟨v,j,e,h1.anew p.1,RVs.anew t p.2⟩
theorem RVs.get{K:W.Frag}{H0 H:Hp}{O:List Addr}:∀{rs:List EV}{vs:List V}{i:Nat}{r:EV},RVs K H0 H O rs vs->rs[i]?=some r->∃v,vs[i]?=some v/\RV K H0 H O r v
 |[],_,_,_,_,e=>by simp at e
 |r::rs,vs,0,r',h,e=>by
  obtain⟨v,j,rfl,q,_⟩:=h;simp at e;subst e;exact⟨v,rfl,q⟩
 |r::rs,vs,i+1,r',h,e=>by
  obtain⟨v,j,rfl,_,t⟩:=h;obtain⟨I,e',Z⟩:=RVs.get (i:=i) t (by simpa using e)
  exact⟨I,by simpa using e',Z⟩
def Ag{K:W.Frag}{H0 H:Hp}{O:List Addr}{rs:List EV}{vs:List V}{i:Int}{r:EV}(h:RVs K H0 H O rs vs)(e:atI rs i=some r):∃v,atI vs i=some v/\RV K H0 H O r v:=by
 unfold atI at e ⊢;rw[h.length];cases e':ixN rs.length i with
 |none=>rw[e']at e;cases e
 |some j =>
  rw[e']at e;exact h.get e
variable{ix:Expr}{es:List Expr}
def z3t(t:TDs):TD:=λL U=>t L λrs=>Yr rs/\Nat.ble rs.length 1000=true/\U ⟨.new,.tup (rs.map EV.d)⟩
def yf {x1} (h:EA Y X es t):ED Y X (.Tuple es x1 pos) (z3t t):=λH_=>impE (Np (h H_)) λσ H Q q=>by
 obtain⟨L,o,R,U,I,k⟩:=q;refine⟨L,o,R,_,I,λvs rs H1 s1 j h1=>⟨by rw[j.length];exact dw h1.2.1,λp Z=>?_⟩⟩
 refine k _ ⟨.new,.tup (rs.map EV.d)⟩ _ (s1.trans (yh Z _)) ⟨p,vs,rfl,⟨SqT.of zu,zu⟩,xa.to (yh Z _) (λ_ z=>z) _ _ (j.anew h1.1)⟩ h1.2.2
def z3w(ta tb:TD):TD:=λL U=>ta L λx=>tb L λy=>match x.d,y.d with
 |.tup p,.tup q=>vk x/\vk y/\p.length+q.length<=sizeLine/\U ⟨.new,.tup (p++q)⟩
 |_,_=>False
def L9(ha:ED Y X a ta)(hb:ED Y X b tb):ED Y X (.BinOp a .Add b pos) (z3w ta tb):=λH_=>impE (z1l (Nu.or Jj) (ha H_) (hb H_)) λσ H Q q=>by
 obtain⟨L,o,R,U,a4,k⟩:=q;refine⟨L,o,R,_,a4,λv1 j H1 s1 a0 h1=>⟨L,o,R.to s1,_,h1,λv2 r2 H2 s2 Z h2=>?_⟩⟩;have n1:=λp=>(a0.same s2).anew p;have n2:=λp=>(Z.start s1).anew p;obtain⟨k1,d1⟩:=j;obtain⟨k2,d2⟩:=r2;cases d1 with
 |tup p =>
  cases d2 with
  |tup q =>
   obtain⟨p1,p2,hl,I⟩:=h2;obtain⟨a1,xs,rfl,q1,j⟩:=n1 p1;obtain⟨a2,ys,rfl,q2,r2⟩:=n2 p2;have l1:=j.length;have l2:=r2.length;cases p with
   |nil =>
    have e:xs=[]:=List.eq_nil_of_length_eq_zero l1;subst e;exact .inr ⟨a1,a2,ys,rfl,rfl,q1.1,q2.1,k _ ⟨.new,.tup q⟩ H2 (s1.trans s2) ⟨a2,ys,rfl,q2,r2⟩ I⟩
   |cons d p =>
    refine .inl ⟨a1,a2,xs,ys,rfl,rfl,q1.1,q2.1,(λz=>by subst z;cases l1),by rw[l1,l2];exact hl,λz=>?_,λz p' hp=>?_⟩
    ·subst z;have e:q=[]:=List.eq_nil_of_length_eq_zero l2.symm;subst e;rw[List.append_nil]at I;exact k _ ⟨.new,.tup (d::p)⟩ H2 (s1.trans s2) ⟨a1,xs,rfl,q1,j⟩ I
    exact k _ ⟨.new,.tup (d::p++q)⟩ _ ((s1.trans s2).trans (yh hp _)) ⟨p',xs++ys,rfl,⟨SqT.of zu,zu⟩,xa.to (yh hp _) (λ_ z=>z) _ _ (j.append r2)⟩ I
  |_=>exact h2.elim
 |_=>exact h2.elim
def A6(t:TDs)(tk:TD):TD:=λL U=>t L λrs=>Nat.ble rs.length 1000=true/\tk L λj=>match j.d with
 |.int k=>match atI rs k with
  |some r=>U r
  |none=>False
 |_=>False
def uf{lp:Pos}(h:EA Y X es t)(hk:ED Y X ix tk)(hs:jh ix:=by intro _ _;rfl):ED Y X (.Subscript (.List es lp) ix pos) (A6 t tk):=λH_=>impE (Wj Mk (Wi (h H_)) (hk H_) hs) λσ H Q q=>by
 obtain⟨L,o,R,U,a1,k⟩:=q;refine⟨L,o,R,_,a1,λvs rs H1 s1 j h1=>⟨by rw[j.length];exact dw h1.1,λp hp=>?_⟩⟩
 have s2:=yh hp (.lst vs);refine⟨L,o,R.to (s1.trans s2),_,h1.2,λv r H3 Z rv I=>?_⟩;have vw:=rv.view;split at I
 ·rename_i n en;rw[en]at vw;cases (show v=_ from vw);split at I
  ·rename_i r' er;obtain⟨v',ev,a0⟩:=Ag j er;exact .inl ⟨p,vs,n,v',rfl,rfl,SqL.of (Z _ _ zu),ev,k v' r' H3 (s1.trans (s2.trans Z)) (a0.same (s2.trans Z)) I⟩
  exact I.elim
 exact I.elim
def popD(ds:List D):Option (List D×D):=match ds.getLast? with
 |some d=>some (ds.dropLast,d)
 |none=>none
def Jc(ds:List D)(d:D):popD (ds++[d])=some (ds,d):=by
 unfold popD;simp
def sIsB:D->D->(EV->Prop)->Prop:=λx y U=>match x,y with
 |.bl c,.bl d=>U (dv (.bl (c==d)))
 |_,_=>False
def Yi:D->D->(EV->Prop)->Prop:=λx y U=>match x,y with
 |.bl c,.bl d=>U (dv (.bl (c != d)))
 |_,_=>False
def Jv{K:W.Frag}:rg K (λx y H Q=>∃c d,x=.bl c/\y=.bl d/\Q (.bl (c==d)) H) sIsB:=by
 intro H O x y Z I U Q ho q j h k;unfold sIsB at h;split at h
 ·exact⟨_,_,q,j,k _ _ H (Same.refl H) (by exact rfl) h⟩
 exact h.elim
def T8{K:W.Frag}:rg K (λx y H Q=>∃c d,x=.bl c/\y=.bl d/\Q (.bl (c != d)) H) Yi:=by
 intro H O x y Z I U Q ho q j h k;unfold Yi at h;split at h
 ·exact⟨_,_,q,j,k _ _ H (Same.refl H) (by exact rfl) h⟩
 exact h.elim
def z3p(q:ED Y X a ta)(j:ED Y X b tb):ED Y X (.Compare a [.Is] [b] pos) (d2 sIsB ta tb):=jq z1x Jv q j (rm _)
def L0(q:ED Y X a ta)(j:ED Y X b tb):ET Y X (.Compare a [.IsNot] [b] pos) (tBo (d2 Yi ta tb)):=qy Co T8 q j (rm _)
def g1(g:D->(EV->Prop)->Prop):FT:=λds U=>match ds with
 |[d]=>g d U
 |_=>False
def g2(g:D->D->(EV->Prop)->Prop):FT:=λds U=>match ds with
 |[d,e]=>g d e U
 |_=>False
def g3(g:D->D->D->(EV->Prop)->Prop):FT:=λds U=>match ds with
 |[d,e,f]=>g d e f U
 |_=>False
def vm(h:g1 g ds U):∃d,ds=[d]/\g d U:=by
 unfold g1 at h;split at h
 ·exact⟨_,rfl,h⟩
 exact h.elim
def Bu(h:g2 g ds U):∃d e,ds=[d,e]/\g d e U:=by
 unfold g2 at h;split at h
 ·exact⟨_,_,rfl,h⟩
 exact h.elim
def z3j(h:g3 g ds U):∃d e f,ds=[d,e,f]/\g d e f U:=by
 unfold g3 at h;split at h
 ·exact⟨_,_,_,rfl,h⟩
 exact h.elim
def ze{t u:TDS}(J:DE->Prop)(h1:t L {Z with nx:=J})(h2:∀ ρ2,J ρ2->u ρ2 Z):sSeq (sCut t) u L Z:=⟨J,h1,h2⟩
def z_g{t u:TDS}{L:DE}{Z:DZ}(E:DE)(h1:t L {Z with nx:=λL=>L=E})(h2:u E Z):sSeq (sCut t) u L Z:=⟨λL=>L=E,h1,λ_ e=>by subst e;exact h2⟩
def Yj(e:slot L i=some (dO (.lst ds)))(h:te L λr=>(match r.k with|.own=>False|_=>True)/\ds.length<=100000/\Z.nx (setS L i (dO (.lst (ds++[r.d]))))):sApp i te L Z:=by
 unfold sApp;rw[e];exact h
def h9:bootBuiltins "ValueError" = some (.type "ValueError"):=by decide +kernel
def di:W.kitMeta "ValueError" = true:=by decide +kernel
def B7{K:W.Frag}{C:Addr}{T:String}{b:Bool}(j:W.kitMeta T=true)(h:W.subIn K (.ref C) (.type T)=some b):W.kitOne K (.ref C) (.type T)=some b:=by
 unfold W.kitOne;rw[if_neg (λz=>by cases beq_iff_eq.mp z)]
 unfold W.kitCls
 dsimp only
 rw[if_pos j];exact h
def z2x(d:D):Prop:=∃(ks:List Str)(ns:List Int),d=.dk (ks.map Sum.inr) (ns.map D.int)
def okS(d:D):Prop:=okD 39 d\/z2x d
def Ps:ua X (.type "dict") (λxs H Q=>∃a j,xs=[.ref a]/\H a=some (.dK j)/\∀p,H p=none->Q (.ref p) (upd H p (.dK j))):=by
 intro pn s σ H xs us Q I r h;obtain⟨a,j,rfl,ha,q⟩:=h;obtain⟨u,rfl,ru⟩:=sf r;cases ru;obtain⟨z,na,va,ka,da⟩:=A2 I.hok ha;have hb:=I.big;refine kt_call_dict na da (by rw[<- ka.length];exact z) λh' hd hs=>?_
 have Z:∀b o,s.heap.get? b=some o->h'.get? b=some o:=λb o e=>by
  have a0:b≠s.heap.objs.size:=Nat.ne_of_lt (zae e);rw[hs.2 b a0];exact zac _ e
 refine⟨.ref s.heap.objs.size,_,I.laid (t':=s.toks) (a:=s.heap.objs.size) (o:=.dK j) Z (zaj _) ?_,rfl,q _ (I.hok.fresh (zaj _))⟩;exact Qa z (by simpa using(Nat.ne_of_gt hb)) ka hd
section
variable{p:Pos}
def okL(d:D):Prop:=(∃ds,d=.lst ds/\∀e∈ds,okS e)\/z2x d
def sDictC:FT:=λds U=>match ds with
 |[.dk ks l]=>U (df (.dk ks l))
 |_=>False
def G7(hm:X.mg "dict" = none)(ha:EA Y X (e::es) t)(hg:Gl X "dict":=by rfl)(he:S_ X e es:=by rfl)(I:B_ X es pos:=by rfl):ED Y X (.Call (.Name "dict" p) (e::es) [] pos) (dCB sDictC t) :=
 vo Ps (λH O ds vs U Q ho hv h k=>by
  unfold sDictC at h;split at h
  ·obtain⟨v,ws,rfl,⟨a,xs,rfl,q,l,Z,r⟩,rfl⟩:=hv;exact⟨a,_,rfl,q,λp j=>k _ (df (.dk _ _)) _ (yh j _) ⟨p,rfl,j,ho p j,xs,zu,l,Z,Reps.grow (gy j) _ _ r⟩ h⟩
  exact h.elim) hm jd ha hg (by decide) (by decide) he I
end
variable{tpos:Pos}
def Rj:List EV->Prop
 |[]=>True
 |r::rs=>vk r.ret/\Rj rs
def z0n(t:TDs):TDS:=λL Z=>t L λrs=>Rj rs/\Nat.ble rs.length 1000=true/\Z.rt ⟨.new,.tup (rs.map EV.d)⟩
theorem RVs.rets{K:W.Frag}{H_ H H':Hp}{σ:St}{L:DE}{o:List (Nat×Addr)}(R:REnv K H_ H σ L o):∀{rs:List EV}{vs:List V},RVs K H H' (o.map Prod.snd) rs vs->Rj rs->xa K H' (λa=>a∉([]:List Addr)/\H_ a=none) (rs.map EV.d) vs
 |[],_,h,_=>h
 |r::rs,vs,h,p=>by
  obtain⟨v,I,e,q,t⟩:=h;have j:=(RV.ret R q).anew p.1;exact⟨v,I,e,by
   have:r.ret.d=r.d:=rfl;rw[this]at j;exact j,RVs.rets R t p.2⟩
def N0 {x1} (h:EA Y X es t):SD Y X (.Return (some (.Tuple es x1 tpos)) pos) (z0n t):=λH_=>impS (Zq (Np (h H_))) λD σ H h=>by
 obtain⟨L,o,R,Z,hZ,k1,k2,k3,I⟩:=h;refine⟨L,o,R,_,hZ,λvs rs H1 s1 j h1=>⟨by rw[j.length];exact dw h1.2.1,λp q=>?_⟩⟩
 refine I _ ⟨.new,.tup (rs.map EV.d)⟩ _ (R.same.trans (s1.trans (yh q _))) ?_ h1.2.2;exact⟨p,vs,rfl,⟨SqT.of zu,zu⟩,xa.to (yh q _) (λ_ z=>z) _ _ (RVs.rets R j h1.1)⟩
def rq:entryFor table "dict.update.loop" = some Builtin.«dict.update.loop»:=entryFor_of_tree (by kernel_rfl)
def vi:plainId "dict.update.loop" = true:=by decide +kernel
def bx:typeLookup (.type "list") "keys" = pure none:=by rw[typeLookup_type,builtinLookup_eq_fast];kernel_rfl
section
variable{prog:Program}
def Mi{a:Addr}{xs:Array Value}{Q:Option Value->Shared->Prop}(hl:PlainL s.heap a xs)(hA:A.handled=none)(h:∀ h' tk,(∀ b o,s.heap.get? b=some o->h'.get? b=some o)->Q none {s with heap:=h',toks:=tk}):wpAny (model prog w) A (getAttr? (.ref a) "keys") Q E s:=by
 obtain⟨o,k,Z,hc,hd,j⟩:=hl;obtain⟨c,a0,a1,sl⟩:=o;simp only at hc j hd;subst hc j hd;obtain⟨hp,g,d,tk,os⟩:=s;have hT:∀q,(⟨hp,g,d,q,os⟩:Shared).TypeIs (.ref a) "list":=λ_=>⟨_,Z,rfl⟩;have f1:=sub_AttributeError;have f3:=F.slot_list_getattribute.lookup;have f4:=F.slot_list_getattribute.bind (.ref a);have f5:=am_list_getattr_none;unfold getAttr? getAttrBy? getAttrBy
 repeat (any_goals (first|assumption|exact hT _|((with_reducible show wpAny _ _ (call (Value.builtin "list.__getattribute__") _ _) _ _ _);refine call_meets F.slot_list_getattribute (hT _) am_entry_list_getattribute (F.args_list_getattribute_2 _ _) (meets_getattribute_miss_list a xs k sl "keys" _ bx (by decide +kernel) (by size_fits)) ⟨Z,hA,λh' q e I=>?_⟩)|wp_step))
 obtain⟨t',u',he⟩:=I.there;show wpAny _ _ (getattributeRaised _ _ _ _ _ _ _) _ _ _;unfold getattributeRaised
 repeat (any_goals (first|assumption|wp_step))
 exact h _ _ I.keeps
end
section
variable{prog:Program}{K:Type}[DecidableEq K]{knd:KeyKind prog w K}{R:Result->Shared->Prop}
def Qj(knd:KeyKind prog w K)(h:Heap)(v:Value)(j:K×Value):Prop:=∃b o n key,v=.ref b/\h.get? b=some o/\o.cls=.type "tuple"/\o.data=.seq #[key,j.2] n/\knd.is j.1 key=true
def Zf{j:List (K×Value)}{k:K}{x:Value}(h:k∉j.map (·.1)):stored j k x=j++[(k,x)]:=by
 unfold stored;rw[if_neg];intro z;rw[List.any_eq_true]at z;obtain⟨p,q,e⟩:=z;exact h (zah.mpr ⟨p,q,by simpa using e⟩)
def Kf(hh:A.handled=none)(d it l:Addr)(a4:d≠it)(c3:d≠l)(a8:l≠it)(its:List Value)(more:List (K×Value))(e6:its.length=more.length)(c1:(more.map (·.1)).Nodup)(hsz:more.length<=sizeLine) :
  ∀(k i:Nat)(s:Shared),its.length=i+k->s.heap.IsListIter it l i->s.heap.IsList l its.toArray->s.heap.DictOf knd d (more.take i) ->
  (∀(j:Nat) v kx,its[j]?=some v->more[j]?=some kx->Qj knd s.heap v kx) ->
  (∀h' tk,h'.DictOf knd d more->(∀b o,b≠d->b≠it->s.heap.get? b=some o->h'.get? b=some o)->R (.ok (.ret .none)) {s with heap:=h',toks:=tk}) ->
  codeAny (model prog w) A (.builtin "dict.update.loop" ⟨[.ref d,.ref it,rawInt (i:Int),.none],[]⟩) R s:=by
 intro k
 induction k with
 |zero =>
  intro i s hk hi hl hd hp hR;refine codeAny_builtin rq ?_;rw[Around.under_plainId vi _];have W:=Walks.list (prog:=prog) (w:=w) (A:=A.in1) hh it l a8 its.toArray;show wpAny _ A.in1 (pyNext (.ref it) >>= _) _ _ s;refine zaa (W.done s _ _ ⟨by simpa [hk] using hi,hl⟩ λh' tk a0=>?_)
  show wpAny _ A.in1 (Builtin.Dict.addKeywords d [] >>= _) _ _ _;refine zaa (zab (zab ?_));refine hR h' tk ?_ λb o _ hb e=>a0 b o (by simpa using hb) e
  rw[List.take_of_length_le (by omega)]at hd
  obtain⟨o,es,ep,ho,r⟩:=hd;exact⟨o,es,ep,a0 d o (by simpa using a4) ho,r⟩
 |succ k ih =>
  intro i s hk hi hl hd hp hR;refine codeAny_builtin rq ?_;rw[Around.under_plainId vi _];have W:=Walks.list (prog:=prog) (w:=w) (A:=A.in1) hh it l a8 its.toArray;show wpAny _ A.in1 (pyNext (.ref it) >>= _) _ _ s;refine zaa (W.item i s _ _ (by simp;omega) ⟨hi,hl⟩ λv h' tk hv a2 a0=>?_)
  have c0:its[i]?=some v:=by simpa using hv
  have c2:i<more.length:=by omega
  obtain⟨kx,a5⟩:∃kx,more[i]?=some kx:=⟨more[i],zaf c2⟩;have b3:h'.DictOf knd d (more.take i):=by
   obtain⟨o,es,ep,ho,r⟩:=hd;exact⟨o,es,ep,a0 d o (by simpa using a4) ho,r⟩
  have a6:∀(j:Nat) v kx,its[j]?=some v->more[j]?=some kx->Qj knd h' v kx:=λj v kx h1 h2=>by
   obtain⟨b,o,n,Z,e1,e2,e3,e4,e5⟩:=hp j v kx h1 h2;refine⟨b,o,n,Z,e1,a0 b o ?_ e2,e3,e4,e5⟩;intro z;have:b=it:=by simpa using z
   subst this;obtain⟨o',q,b4,_⟩:=hi;rw[q]at e2;cases e2;rw[b4]at e3;exact absurd e3 (by decide)
  obtain⟨b,o,n,Z,rfl,hb,e0,d0,a9⟩:=a6 i v kx c0 a5;have hT:({s with heap:=h',toks:=tk}:Shared).TypeIs (.ref b) "tuple":=⟨o,hb,e0⟩;refine zaa (wpAny_holding ?_);refine zaa (wpAny_tryCatch ?_);show wpAny _ A.in1 (typeOf (.ref b) >>= _) _ _ _;refine zaa (wpAny_typeOf hT ?_);show wpAny _ A.in1 (seqItems? (.ref b) >>= _) _ _ _;refine zaa (wpAny_seqItems hb d0 (zab ?_));show wpAny _ A.in1 (holding [Z,kx.2] (dictSet d Z kx.2)) _ _ _;have a7:kx.1∉(more.take i).map (·.1):=by
   have e:more.take (i+1)=more.take i++[kx]:=by rw[List.take_succ,a5];rfl
   have h4:((more.take (i+1)).map (·.1)).Nodup:=c1.sublist ((List.take_sublist _ _).map _);rw[e,zMa,List.nodup_append]at h4;intro z;exact h4.2.2 _ z kx.1 (by simp) rfl
  refine wpAny_holding (wpAny_dictSet_pairs (hsz:=by rw[List.length_take];omega) a9 b3 λh2 dd hs=>?_)
  rw[Zf a7,show more.take i++[(kx.1,kx.2)]=more.take (i+1) by rw[List.take_succ,a5];rfl]at dd
  refine zab ⟨plainId_quiet vi _,?_⟩;have I:∀b o,b≠d->h'.get? b=some o->h2.get? b=some o:=λb o hb e=>(hs.2 b hb).trans e;refine ih (i+1) _ (by omega) ?_ ?_ dd ?_ λh3 b9 d3 k3=>?_
  ·obtain⟨o',q,r'⟩:=a2.1;exact⟨o',I _ _ (Ne.symm a4) q,r'⟩
  ·obtain⟨o',q,r'⟩:=a2.2;exact⟨o',I _ _ (Ne.symm c3) q,r'⟩
  ·intro j v kx h1 a1;obtain⟨b,o,n,Z,e1,e2,e3,e4,e5⟩:=a6 j v kx h1 a1;refine⟨b,o,n,Z,e1,I b o ?_ e2,e3,e4,e5⟩;intro z;subst z;obtain⟨o',es,ep,q,b4,b0,_⟩:=b3;rw[q]at e2;cases e2;rw[b0]at e4;cases e4
  exact hR h3 b9 d3 λb o h1 a1 e=>k3 b o h1 a1 (I b o h1 (a0 b o (by simpa using a1) e))
def b7{E:Value->Shared->Prop}{l:Addr}{its:List Value}{more:List (K×Value)}{Q:Value->Shared->Prop}(hh:A.handled=none)(hl:PlainL s.heap l its.toArray)(a2:its.length=more.length)(a6:(more.map (·.1)).Nodup)(hsz:more.length<=sizeLine)(hp:∀ (j:Nat) v kx,its[j]?=some v->more[j]?=some kx->Qj knd s.heap v kx)(h:∀ h' tk,h'.DictOf knd s.heap.objs.size more->(∀ b o,s.heap.get? b=some o->h'.get? b=some o)->Q (.ref s.heap.objs.size) {s with heap:=h',toks:=tk}) :
  wpAny (model prog w) A (call (.type "dict") [.ref l]) Q E s:=by
 refine callType_codes (Q₁:=λa1 I=>a1=.ref s.heap.objs.size/\I={s with heap:=s.heap.push {cls:=.type "dict",data:=.dict #[]}}) F.kt_called_dict (F.kt_typeCall_dict_1 _) F.entry_dict_init (kt_code_dict_new _ ⟨rfl,rfl⟩) ?_;rintro a1 I ⟨rfl,rfl⟩;have q:(s.heap.push {cls:=.type "dict",data:=.dict #[]}).DictOf knd s.heap.objs.size []:=Heap.DictOf.new s.heap;have k1:∀b o,s.heap.get? b=some o->(s.heap.push {cls:=.type "dict",data:=.dict #[]}).get? b=some o:=λb o e=>zac _ e;have hl1:=hl.keeps k1;have a8:l<s.heap.objs.size:=by obtain⟨o,n,e,_⟩:=hl;exact zae e
 refine⟨q.typeIs,F.args_dict_init_2 _ _,?_⟩;unfold Builtin.«dict.__init__»;refine zaa ?_;unfold Builtin.Dict.selfAndRest;refine zaa (wpAny_notOrdered_dict q.typeIs ?_);show wpAny _ _ (pure (s.heap.objs.size,[Value.ref l])) _ _ _;refine zab ?_;show wpAny _ _ (Builtin.Dict.updateFrom "dict.__init__" s.heap.objs.size (.ref l) [] .none) _ _ _;unfold Builtin.Dict.updateFrom;refine zaa (wpAny_typeOf hl1.isList.typeIs ?_);rw[if_pos (by decide)]
 refine zaa (Mi hl1 hh λh2 b0 k2=>?_);rw[if_pos (by rfl)]
 refine zaa (wpAny_rule ?_);have a0:=(hl1.keeps k2).isList;have a7:l<h2.objs.size:=by obtain⟨o,e,_⟩:=a0;exact zae e
 refine zaa (wpAny_pyIter_list a0 ?_);have Z:s.heap.objs.size<h2.objs.size:=by
  obtain⟨o,es,ep,ho,_⟩:=q;exact zae (k2 _ _ ho)
 refine zab ⟨plainId_quiet vi _,?_⟩;refine Kf (knd:=knd) (A:=A.in1) hh s.heap.objs.size h2.objs.size l (Nat.ne_of_lt Z) (Nat.ne_of_gt a8) (Nat.ne_of_lt a7) its more a2 a6 hsz its.length 0 _ (by omega) ?_ ?_ ?_ ?_ λh3 a4 d3 k3=>?_
 ·exact⟨_,zad _ rfl,rfl,rfl⟩
 ·exact a0.push _
 ·obtain⟨o,es,ep,ho,r⟩:=q;exact⟨o,es,ep,zac _ (k2 _ _ ho),r⟩
 ·intro j v kx h1 a9;obtain⟨b,o,n,a5,e1,e2,e3,e4,e5⟩:=hp j v kx h1 a9;exact⟨b,o,n,a5,e1,zac _ (k2 _ _ (k1 _ _ e2)),e3,e4,e5⟩
 refine⟨rfl,h h3 a4 d3 λb o e=>k3 b o ?_ ?_ (zac _ (k2 _ _ (k1 _ _ e)))⟩
 ·exact Nat.ne_of_lt (zae e)
 exact Nat.ne_of_lt (Nat.lt_trans (zae e) Z)
end
def Sm(K:W.Frag)(H:Hp):List V->List (Key×V)->Prop:=Paired λp j=>∃b,p=V.ref b/\SqT K H b [kV j.1,j.2]
def Pr(hc:X.calm=true):ua X (.type "dict") (λxs H Q=>∃a ps Z,xs=[.ref a]/\SqL X.K H a ps/\Sm X.K H ps Z/\(Z.map (·.1)).Nodup/\∀p,H p=none->Q (.ref p) (upd H p (.dK Z))):=by
 intro pn s σ H xs us Q I r h;obtain⟨a,ps,Z,rfl,ha,hp,hn,q⟩:=h;obtain⟨u,rfl,ru⟩:=sf r;cases ru;obtain⟨its,rv,pl,hz⟩:=I.list ha;have a0:ps.length=Z.length:=hp.length;have a6:=rv.length;have ex:∃more:List (Key×Value),KV Z more/\∀(j:Nat) v kx,its[j]?=some v->more[j]?=some kx->Qj (yy X.prog X.w) s.heap v kx:=by
  clear hn q hz pl a0 a6 ha
  induction rv generalizing Z with
  |nil=>cases hp;exact⟨[],.nil,λj v kx e=>by simp at e⟩
  |cons r1 r2 ih =>
   cases hp with
   |cons h t =>
    obtain⟨more,k1,k2⟩:=ih _ t;obtain⟨b,rfl,sq⟩:=h;cases r1;obtain⟨ts,rt,⟨o,e1,e2,n,e3⟩,_⟩:=I.tuple sq;cases rt with
    |cons t1 rt =>
     cases rt with
     |cons t2 rt =>
      cases rt
      rename_i kk a4 x;refine⟨(_,x)::more,.cons ⟨rfl,t2⟩ k1,λj v kx h1 h2=>?_⟩;cases j with
      |zero =>
       simp at h1 h2;subst h1 h2;exact⟨b,o,n,a4,rfl,e1,e2,e3,Pa t1⟩
      |succ j=>exact k2 j v kx (by simpa using h1) (by simpa using h2)
 obtain⟨more,k1,k2⟩:=ex;have a5:Z.length=more.length:=k1.length;have a1:more.map (·.1)=Z.map (·.1):=by
  clear hn q hp a0 k2 a5
  induction k1 with
  |nil=>rfl
  |cons h t ih=>rw[List.map_cons,List.map_cons,ih,h.1]
 have hb:=I.big;refine b7 (knd:=yy X.prog X.w) (I.ok.hd hc) pl (by omega) (by rw[a1];exact hn) (by omega) k2 λh' tk hd a2=>?_
 refine⟨.ref s.heap.objs.size,_,I.laid (t':=tk) (a:=s.heap.objs.size) (o:=.dK Z) a2 (zaj _) ?_,rfl,q _ (I.hok.fresh (zaj _))⟩;exact Qa (by omega) (by simpa using(Nat.ne_of_gt hb)) k1 hd
section
variable{p:Pos}
def kD:Key->D
 |.inl i=>.int i
 |.inr x=>.str x
def Zr(ks:List Key)(ds:List D):List D:=(ks.zip ds).map λq=>.tup [kD q.1,q.2]
def sDictP:FT:=λxs U=>match xs with
 |[.lst l]=>∃ks ds,l=Zr ks ds/\ks.length=ds.length/\ks.Nodup/\U (df (.dk ks ds))
 |_=>False
def z0v{K:W.Frag}{H:Hp}{O:List Addr}{k:Key}{v:V}(h:Rep K H O (kD k) v):v=kV k:=by
 cases k with
 |inl i=>exact h
 |inr x=>exact h
theorem kq{K:W.Frag}{H:Hp}{O:List Addr}:∀(ks:List Key)(ds:List D)(ps:List V),ks.length=ds.length->Reps K H O (Zr ks ds) ps->∃xs,Sm K H ps (ks.zip xs)/\Reps K H O ds xs
 |[],[],ps,_,h=>by
  cases (show ps=[] from h)
  exact⟨[],.nil,rfl⟩
 |[],_::_,_,h,_=>by cases h
 |_::_,[],_,h,_=>by cases h
 |k::ks,d::ds,ps,hl,h=>by
  obtain⟨v,q,rfl,⟨a,zs,rfl,sq,r⟩,hr⟩:=h;obtain⟨Z,w1,rfl,I,j,w2,rfl,r2,rfl⟩:=r;cases z0v I;obtain⟨xs,h1,h2⟩:=kq ks ds q (by simpa using hl) hr
  exact⟨j::xs,.cons ⟨a,rfl,sq.1⟩ h1,j,xs,rfl,r2,h2⟩
theorem gx{α j:Type}:∀(ks:List α)(xs:List j),ks.length=xs.length->(ks.zip xs).map (·.1)=ks
 |[],_,_=>rfl
 |k::ks,[],h=>by cases h
 |k::ks,x::xs,h=>by
  rw[List.zip_cons_cons,List.map_cons,gx ks xs (by simpa using h)]
def Q8(hm:X.mg "dict" = none)(ha:EA Y X (e::es) t)(hc:X.calm=true:=by rfl)(hg:Gl X "dict":=by rfl)(he:S_ X e es:=by rfl)(I:B_ X es pos:=by rfl):ED Y X (.Call (.Name "dict" p) (e::es) [] pos) (dCB sDictP t) :=
 vo (Pr hc) (λH O ds vs U Q ho hv h k=>by
  unfold sDictP at h;split at h
  ·obtain⟨ks,ds,rfl,hl,Z,h⟩:=h;obtain⟨v,ws,rfl,⟨a,xs,rfl,q,r⟩,rfl⟩:=hv;obtain⟨zs,h1,h2⟩:=kq ks ds xs hl r;have hz:ks.length=zs.length:=by rw[hl,h2.length]
   exact⟨a,xs,_,rfl,SqL.of q,h1,by rw[gx ks zs hz];exact Z,λp j=>k _ (df (.dk _ _)) _ (yh j _) ⟨p,rfl,j,ho p j,zs,zu,hl,Z,Reps.grow (gy j) _ _ h2⟩ h⟩
  exact h.elim) hm jd ha hg (by decide) (by decide) he I
end
abbrev TK:=List Key
instance decMemTK (k:TK) (ks:List TK):Decidable (k∈ks):=decidable_of_iff (ks.any (λx=>decide (x=k))=true) (by simp)
section
open PySem PySem.Spec PySem.W PyProof.Rows
def RawD(h:Heap)(d:Addr)(j:Array DictEntry)(q:Nat):Prop:=∃o,h.get? d=some o/\o.ExactDict/\o.data=.dict j q
def RawD.lt(x:RawD h d rows ep):d<h.objs.size:=let ⟨_,g,_⟩:=x;zae g
variable{n:Nat}
abbrev POrd(n:Nat)(p:Array Nat):Prop:=p.Perm (List.toArray (List.range n))
def POrd.lt(h:POrd n p)(j:0<n)(i:Nat):p.getD i 0<n:=by
 by_cases hi:i<p.size
 ·have e:p.getD i 0=p[i]:=by simp[Array.getD,hi]
  rw[e];have m:p[i]∈List.toArray (List.range n):=h.mem_iff.mp (Array.getElem_mem hi);simpa using m
 have e:p.getD i 0=0:=by simp[Array.getD,hi]
 omega
def W4:∀bs:List Addr,Vals (bs.map V.ref) (bs.map Value.ref)
 |[]=>.nil
 |b::bs=>.cons rfl (W4 bs)
def z5i:Key->Option Int
 |.inl i=>some i
 |.inr _=>none
end
def zK1(k:TK):List Int:=k.filterMap z5i
variable{tc:TD}
def Lj(p q:Int->Int->Bool)(ta tb tc:TD):TD:=λL U=>ta L λx=>tb L λy=>match x.d,y.d with
 | .int i,.int j=>(p i j=true->tc L λz=>match z.d with
   |.int k=>U (dv (.bl (q j k)))
   | _=>False)/\(p i j=false->U (dv (.bl false)))
 |_,_=>False
def P6(h1:∀ i j H Q,Q (.bl (p i j)) H->rr (.int i) (.int j) H Q)(h2:∀ i j H Q,Q (.bl (q i j)) H->rr' (.int i) (.int j) H Q) :
  ∀σ H Q,u7 X.K H_ (Lj p q ta tb tc) σ H Q->Fb rr rr' (u7 X.K H_ ta) (u7 X.K H_ tb) (u7 X.K H_ tc) σ H Q:=λσ H Q h=>by
 obtain⟨L,o,R,U,a1,k⟩:=h;refine⟨L,o,R,_,a1,λv1 r1 H1 s1 a0 g1=>⟨L,o,R.to s1,_,g1,λv2 r2 H2 s2 Z g2=>?_⟩⟩;split at g2
 ·rename_i i j ei ej;have e1:=a0.view;have e2:=Z.view;rw[ei]at e1;rw[ej]at e2;cases (show v1=_ from e1);cases (show v2=_ from e2);refine h1 i j H2 _ ⟨p i j,rfl,?_⟩;cases hp:p i j with
  |false=>exact k _ _ H2 (s1.trans s2) (by exact rfl) (g2.2 hp)
  |true =>
   refine⟨L,o,(R.to s1).to s2,_,g2.1 hp,λv3 r3 H3 s3 I g3=>?_⟩;split at g3
   ·rename_i l el;have e3:=I.view;rw[el]at e3;cases (show v3=_ from e3);exact h2 j l H3 _ (k _ _ H3 (s1.trans (s2.trans s3)) (by exact rfl) g3)
   exact g3.elim
 exact g2.elim
def Jy{t:TD}{u:TE}(I:PT X e (D2 u))(hl:∀ σ H Q,u7 X.K H_ t σ H Q->u σ H Q):PT X e (dt X.K H_ (tBo t)):=impT I λσ H Q h=>by
 obtain⟨L,o,R,U,j,k⟩:=h;refine hl σ H _ ⟨L,o,R,_,j,λv r H' s1 q h1=>?_⟩;obtain⟨Z,d⟩:=r;cases d with
 |bl b=>exact⟨b,q.view,k b H' s1 h1⟩
 |_=>exact h1.elim
def Xo(ha:ED Y X a ta)(Z:ED Y X b tb)(I:ED Y X c tc)(q:lastMarks [CmpOp.LtE,.LtE] [b,c]=false:=by with_unfolding_all rfl):ET Y X (.Compare a [.LtE,.LtE] [b,c] pos) (tBo (Lj (λi j=>decide (i<=j)) (λi j=>decide (i<=j)) ta tb tc)):=λH_ =>
 Jy (J7 z1w z1w (ha H_) (Z H_) (I H_) q) (P6 (λi j H Q h=>⟨i,j,rfl,rfl,h⟩) λi j H Q h=>⟨i,j,rfl,rfl,h⟩)
def inR(m:Int)(ns:List Int):Prop:=ns.length<=1000/\(m<=0->1<=ns.length)/\∀n∈ns,0<m->0<=n/\n<m
variable{a:Addr}{m:Int}
theorem Vf:∀(its:List Value),(∀v∈its,∃(i:Int)(t:Tok),v=.int i t/\(0<m->0<=i/\i<m))->∃ns:List Int,ns.length=its.length/\(∀n∈ns,0<m->0<=n/\n<m)/\Vals (ns.map V.int) its
 |[],_=>⟨[],rfl,(λ_ h=>nomatch h),.nil⟩
 |v::its,h=>by
  obtain⟨i,t,rfl,h1⟩:=h v zao;obtain⟨ns,l,r,vs⟩:=Vf its λw q=>h w (zal _ q);refine⟨i::ns,by simp[l],λn j=>?_,.cons ⟨t,rfl⟩ vs⟩
  rcases zam.mp j with rfl|j
  ·exact h1
  exact r n j
theorem se1:∀{ns:List Int}{its:List Value},Vals (ns.map V.int) its->(∀n∈ns,0<m->0<=n/\n<m)->∀v∈its,∃(i:Int)(t:Tok),v=.int i t/\(0<m->0<=i/\i<m)
 |[],_,.nil,_,v,h=>nomatch h
 |n::ns,_,.cons r t,hr,v,h=>by
  obtain⟨tk,e⟩:=r;rcases zam.mp h with rfl|h
  ·exact⟨n,tk,e,hr n zao⟩
  exact se1 t (λk j=>hr k (zal _ j)) v h
def c8(I:Inv X pn σ H s)(h:H a=some (tz a m))(m0:0<=m):∃ns:List Int,inR m ns/\Inv X pn σ (upd H a (.lst (ns.map V.int))) s:=by
 obtain⟨⟨_,its,n,e,sz,j,all⟩|⟨z,_⟩,_⟩:=(show wf X.prog X.w H s.heap a (tz a m) from I.hok a _ h)
 rotate_left
 ·omega
 obtain⟨ns,l,r,vs⟩:=Vf its.toList λv Z=>all v (by simpa using Z)
 have q:ns.length<=1000:=by rw[l,Array.length_toList];exact sz
 refine⟨ns,⟨q,λhm=>by rw[l,Array.length_toList];exact j hm,r⟩,?_⟩
 exact I.write (t':=s.toks) (h':=s.heap) (x:=a) (e:=a) (o:=.lst (ns.map V.int)) (by rw[h];exact True.intro) (.inl rfl) (λ_ _ _ z=>z) ⟨_,e⟩ (show wf X.prog X.w _ s.heap a (.lst _) from⟨by rw[zLm,sizeLine_eq];omega,its.toList,n,vs,by simpa using e⟩)
def Bs(e:h'.get? a=some {cls:=.type "list",dict:=none,data:=.seq its n,slots:=#[]})(sz:its.size<=1000)(j:m<=0->1<=its.size)(all:∀ v∈its,∃ (i:Int) (t:Tok),v=.int i t/\(0<m->0<=i/\i<m))(q:0<=m):wf P w H' h' a (tz a m) :=
 ⟨.inl ⟨q,its,n,e,sz,j,all⟩,⟨_,e⟩,λh1 h2 z k=>z.elim (λ⟨_,its',I,Z,r⟩=>.inl ⟨q,its',I,k _ Z,r⟩) λz=>absurd z.1 (by omega)⟩
def rb(I:Inv X pn σ H s)(h:H a=some (.lst (ns.map V.int)))(r:inR m ns)(j:0<=m):Inv X pn σ (upd H a (tz a m)) s:=by
 obtain⟨z,its,n,vs,e⟩:=(show wf X.prog X.w H s.heap a (.lst (ns.map V.int)) from I.hok a _ h);have l:its.length=ns.length:=by have:=vs.length;rw[zLm]at this;exact this.symm
 exact I.write (t':=s.toks) (h':=s.heap) (x:=a) (e:=a) (o:=tz a m) (by rw[h];exact True.intro) (.inl rfl) (λ_ _ _ z=>z) ⟨_,e⟩ (Bs (its:=its.toArray) e (by rw[zap,l];exact r.1) (λZ=>by rw[zap,l];exact r.2.1 Z) (λv q=>se1 vs r.2.2 v (by simpa using q)) j)
def Zn{K:W.Frag}{H:Hp}{O:List Addr}:∀{ns:List Int}{xs:List V},Reps K H O (ns.map D.int) xs->xs=ns.map V.int
 |[],_,h=>h
 |n::ns,xs,h=>by
  obtain⟨v,r,rfl,q,t⟩:=h;cases (show v=_ from q);rw[Zn t];rfl
def REnv.feed{K:W.Frag}{H_ H:Hp}{σ:St}{L:DE}{o:List (Nat×Addr)}(R:REnv K H_ H σ L o){i:Nat}{ns:List Int}{m:Int}(e:slot L i=some (dO (.lst (ns.map D.int)))) :
  ∃a o',H a=some (.lst (ns.map V.int))/\REnv K H_ (upd H a (tz a m)) σ (setS L i (dv (.fd m))) o'/\Grow (o.map Prod.snd) (o'.map Prod.snd) H (upd H a (tz a m)):=by
 obtain⟨v,ev,q⟩:=R.slots i _ (Yg.mp e);obtain⟨a,rfl,mem,xs,hx,rp⟩:∃a,v=.ref a/\(i,a)∈o/\∃xs,H a=some (.lst xs)/\Reps K H (o.map Prod.snd) (ns.map D.int) xs:=by
  rcases q with⟨k,_⟩|⟨_,a,e1,m,c⟩
  ·cases k
  exact⟨a,e1,m,c⟩
 cases Zn rp
 have sub:∀p∈o.filter (λp=>decide (p.1≠i)),p∈o:=λp I=>(List.mem_filter.mp I).1;have ne:∀p∈o.filter (λp=>decide (p.1≠i)),p.2≠a:=λp I z=>by
  have:=X9 R.nda (sub p I) mem z;have a2:=of_decide_eq_true (List.mem_filter.mp I).2;rw[this]at a2;exact a2 rfl
 have a0:∀b∈(o.filter (λp=>decide (p.1≠i))).map Prod.snd,b∈o.map Prod.snd:=λb hb=>by
  obtain⟨p,I,e⟩:=zah.mp hb;exact zah.mpr ⟨p,sub p I,e⟩
 have a6:a∈o.map Prod.snd:=zah.mpr ⟨_,mem,rfl⟩;have a4:a∉(o.filter (λp=>decide (p.1≠i))).map Prod.snd:=λhb=>by
  obtain⟨p,I,e⟩:=zah.mp hb;exact ne p I e
 have g:Grow (o.map Prod.snd) ((o.filter (λp=>decide (p.1≠i))).map Prod.snd) H (upd H a (tz a m)) :=
  ⟨λb u h n=>⟨by rw[zv (λz=>n (by rw[z];exact a6))];exact h,λz=>n (a0 b z)⟩,λb ys h=>by rw[zv (λz=>by subst z;rw[hx]at h;cases h)];exact h,λb ob u h=>by rw[zv (λz=>by subst z;rw[hx]at h;cases h)];exact h⟩
 refine⟨a,_,hx,?_,g⟩;have a7:=R.len;exact {
  same:=λb u h=>by
   have hb:b≠a:=λz=>by
    subst z;have:=R.fresh _ mem;rw[this]at h;cases h
   rw[zv hb];exact R.same b u h
  fresh:=λp I=>R.fresh p (sub p I)
  trk:=λp I=>by rw[zv (ne p I)];exact R.trk p (sub p I)
  mtb:=λp I=>by rw[zv (ne p I)];exact R.mtb p (sub p I)
  nda:=List.Nodup.sublist (List.Sublist.map _ List.filter_sublist) R.nda
  len:=by rw[ux,List.length_set];exact R.len
  slots:=λj r Z=>by
   rw[ux,List.getElem?_set]at Z;by_cases hj:i=j
   ·subst hj;rw[if_pos rfl]at Z;split at Z
    ·cases Z
     exact⟨.ref a,ev,.inl ⟨rfl,a,rfl,zu,a4⟩⟩
    cases Z
   rw[if_neg hj]at Z;obtain⟨v,a5,q⟩:=R.slots j r Z;refine⟨v,a5,?_⟩;rcases q with⟨k,q⟩|⟨k,b,e1,mb,c⟩
   ·exact .inl ⟨k,Rep.grow g _ _ q⟩
   have a1:(j,b)∈o.filter (λp=>decide (p.1≠i)):=List.mem_filter.mpr ⟨mb,decide_eq_true (Ne.symm hj)⟩;have nb:=ne _ a1;refine .inr ⟨k,b,e1,a1,?_⟩;obtain⟨kk,d⟩:=r;cases d with
   |lst ds=>obtain⟨xs,q,r⟩:=c;exact⟨xs,by rw[zv nb];exact q,Reps.grow g _ _ r⟩
   |dk ks ds=>obtain⟨xs,q,l,nd,r⟩:=c;exact⟨xs,by rw[zv nb];exact q,l,nd,Reps.grow g _ _ r⟩
   |fd m=>have c:H b=some (tz b m):=c;show upd H _ _ b=_;rw[zv nb];exact c
   | _=>exact c.elim}
def z0p(i:Nat)(m:Int)(t:TDS):TDS:=λL Z=>∃ns:List Int,slot L i=some (dO (.lst (ns.map D.int)))/\inR m ns/\t (setS L i (dv (.fd m))) Z
def Dn(i:Nat)(m:Int){X:Cx}{st:Stmt}{t:TDS}(h:SD Y X st t)(a1:0<=m:=by decide):SD Y X st (z0p i m t):=λH_ pn s σ H EE I q=>by
 obtain⟨L,o,R,Z,⟨ns,e,r,hZ⟩,k1,k2,k3,k4⟩:=q;obtain⟨a,o',ha,R',g⟩:=R.feed (m:=m) e;refine h H_ pn s σ _ EE (rb I ha r a1) ⟨_,o',R',Z,hZ,λa0 j H2 o2 g2 R2 q2=>k1 a0 j H2 o2 (g.trans g2) R2 q2,λa0 j H2 o2 g2 R2 q2=>k2 a0 j H2 o2 (g.trans g2) R2 q2,λa0 j H2 o2 g2 R2 q2=>k3 a0 j H2 o2 (g.trans g2) R2 q2,k4⟩
section
variable{T F:List Str}{js:List Nat}{iter elt:Expr}{ifs:List Expr}{ti:TID}{g2:TG}{g:TGD}{tc:TDb}
def Qc(ti:TID)(n:Nat)(js:List Nat)(g:TGD)(tc:TDb)(te:TD):TD:=λL U=>ti L λds=>∃P:Nat->List D->Prop,ds.length<=10000000/\P 0 [] /\
 (∀(i:Nat)(d:D)(es:List D),ds[i]?=some d->es.length<=i->P i es->g d (ρ0 n js L) λj=>tc j λc=>(c=true->te j λr=>(match r.k with|.own=>False|_=>True)/\P (i+1) (es++[r.d]))/\(c=false->P (i+1) es))/\∀es,P ds.length es->U (df (.lst es))
def Zu(nd:js.Nodup)(hl:bu X.K g2 g):∀σ H Q,u7 X.K H_ (Qc ti T.length js g tc te) σ H Q->Om (Jz X.K H_ ti) T js g2 (dt X.K H_ tc) (u7 X.K H_ te) σ H Q:=λσ H Q q=>by
  obtain⟨L,o,R,U,b3,k⟩:=q;refine⟨L,o,R,_,b3,λJ ds P H1 s1 I hP ⟨PP,b9,P0,a6,b4⟩ Da j=>?_⟩;have R1:=R.to s1;have gD:∀{H':Hp},Same H1 H'->Grow (o.map Prod.snd) (Da::o.map Prod.snd) H1 H':=λs=>⟨λb u h nb=>⟨s b u h,λz=>(zam.mp z).elim (λe=>zp h j e) nb⟩,λb xs h=>s b _ h,λb ob u h=>s b _ h⟩;refine⟨λi m ys H'=>m=ds.length-i/\i<=ds.length/\Same H1 H'/\H' Da=some (.lst ys)/\∃es,es.length<=i/\PP i es/\Reps X.K H' (Da::o.map Prod.snd) es ys,
   ⟨_,rfl,Nat.zero_le _,yh j _,zu,[],zaj _,P0,rfl⟩,?_⟩
  rintro i m ys H' ⟨rfl,c1,s2,a4,es,le,pe,rp⟩;refine⟨a4,?_⟩;have a7:=I.keep _ _ _ _ hP (gD s2);by_cases hlt:i<ds.length
  ·have ed:ds[i]?=some ds[i]:=by simp[hlt]
   obtain⟨j1,j2⟩:=I.go H' _ i _ a7 ed;refine .inr ⟨j1,λzs H2=>Same H1 H2/\H2 Da=some (.lst zs)/\∃es,es.length<=i+1/\PP (i+1) es/\Reps X.K H2 (Da::o.map Prod.snd) es zs,λzs H2 ⟨a1,a2,a3⟩=>⟨_,(by omega:ds.length-(i+1)<ds.length-i),rfl,hlt,a1,a2,a3⟩,λx H2 y=>?_⟩
   obtain⟨s3,rx⟩:=j2 x H2 y;have Z:=s2.trans s3;have a9:=s3 _ _ a4;have RB:=ky (n:=T.length) R1 nd j Z a9 T rfl;have hO:((T.length+js.length,Da)::o.map λp=>(ixO T.length js p.1,p.2)).map Prod.snd=Da::o.map Prod.snd:=by
    rw[List.map_cons,List.map_map];rfl
   have b0:ys.length<=10000000:=by
    rw[rp.length];omega
   refine hl H_ H2 (st0 T js σ) (ρ0 T.length js L) _ _ x _ _ RB (by rw[hO];exact rx) (a6 i _ es ed le pe) λa5 c0 R' q'=>?_
   refine⟨a5,_,R',_,q',λc H3 s4 h4=>?_⟩;have a8:=s4 _ _ a9;cases c with
   |false =>
    exact iteF ⟨Z.trans s4,a8,es,Nat.le_succ_of_le le,h4.2 rfl,Reps.grow (Grow.same (s3.trans s4)) _ _ rp⟩
   |true =>
    refine iteT ⟨a5,_,R'.to s4,_,h4.1 rfl,λv r H4 s5 rv h5=>?_⟩;have a0:=s5 _ _ a8;have rd:=rv.solid (tm h5.1);rw[hO]at rd;have ne:∀b u,H1 b=some u->b≠Da:=λb u h=>zp h j;have gu:Grow (Da::o.map Prod.snd) (Da::o.map Prod.snd) H4 (upd H4 Da (.lst (ys++[v]))) :=
     ⟨λb u h n=>⟨by rw[zv (λz=>n (zam.mpr (.inl z)))];exact h,n⟩,λb xs h=>by rw[zv (λz=>by rw[z,a0]at h;cases h)];exact h,λb ob u h=>by rw[zv (λz=>by rw[z,a0]at h;cases h)];exact h⟩
    refine⟨a0,Nat.lt_of_le_of_lt b0 (by decide),⟨λb u h=>?_,zu,es++[r.d],by rw[zLa];exact Nat.succ_le_succ le,h5.2,?_⟩⟩
    ·rw[zv (ne b u h)];exact s5 _ _ (s4 _ _ (Z b u h))
    exact Reps.grow gu _ _ ((Reps.grow (Grow.same (s3.trans (s4.trans s5))) _ _ rp).append (Reps.one rd))
  have e:i=ds.length:=by omega
  subst e;refine .inl ⟨I.stop H' _ a7,?_⟩;exact k (.ref Da) (df (.lst es)) H' (s1.trans s2) ⟨Da,rfl,s1.free j,R.ofree (s1.free j),ys,a4,rp⟩ (b4 es pe)
def yo(hi:EI Y X tg iter ti)(S:xf X.env.scope scope T F)(q:Paired (λx j=>X.N[j]?=some x) F js)(I:js.Nodup)(hg:∀ cl C fp s H,PG (x8 X (T++F) scope cl C fp s H) tg g2)(hk:Z8 T.length g2)(hl:bu X.K g2 g)(Z:∀ cl C fp s H,EIf Y (x8 X (T++F) scope cl C fp s H) ifs tc)(he:∀ cl C fp s H,ED Y (x8 X (T++F) scope cl C fp s H) elt te)(hc:X.calm=true:=by rfl)(hs:∀ x,foldedSetIterable iter X.env x=pure x:=by intro _;rfl):ED Y X (.ListComp elt [⟨tg,iter,ifs,0⟩] scope pos) (Qc ti T.length js g tc te):=λH_ =>
 impE (Ux (tc:=dt X.K H_.1 tc) (te:=u7 X.K H_.1 te) hc (hi H_) S q hg hk (λcl C fp s H=>Z cl C fp s H H_) (λcl C fp s H=>he cl C fp s H H_) hs) (Zu I hl)
def y9(ds:List D)(h:∀ N:List D->Prop,N ds->ti L N)(P:Nat->List D->Prop)(hl:ds.length<=10000000)(h0:P 0 [])(I:∀ (i:Nat) (d:D) (es:List D),ds[i]?=some d->es.length<=i->P i es->g d (ρ0 n js L) λj=>tc j λc=>(c=true->te j λr=>(match r.k with|.own=>False|_=>True)/\P (i+1) (es++[r.d]))/\(c=false->P (i+1) es))(q:∀ es,P ds.length es->U (df (.lst es))):Qc ti n js g tc te L U:=h _ ⟨P,hl,h0,I,q⟩
end
def Vp{α j:Type}(f:α->j):∀(l:List α)(i:Nat),(l.map f).eraseIdx i=(l.eraseIdx i).map f
 |[],_=>rfl
 |_::_,0=>rfl
 |x::l,i+1=>by simp[Vp f l i]
def Gq{o u:HO}(h:H a=some u):upd (upd H a o) a u=H:=by
 rw[Oa]
 funext b
 by_cases e:b=a
 ·subst e;rw[zu,h]
 rw[zv e]
def Ba:IxR X (λx y H Q=>∃a m,x=.ref a/\H a=some (tz a m)/\m=0/\y=.int 0/\∀c:Int,Q (.int c) H):=by
 intro j Z pn s σ H x y v u Q I rx ry h hs;obtain⟨a,m,rfl,ha,m0,rfl,q⟩:=h;obtain⟨ns,hr,I1⟩:=c8 I ha (by omega)
 obtain⟨n,hn⟩:∃n,ns[0]?=some n:=⟨ns[0]'(hr.2.1 (by omega)),by simp⟩
 refine thn (c4 j Z pn s σ _ (.ref a) (.int 0) v u (λx' H'=>x'=.int n/\H'=upd H a (.lst (ns.map V.int))) I1 rx ry ⟨a,_,0,.int n,rfl,rfl,SqL.of zu,?_,rfl,rfl⟩ hs) λw s' ⟨x',H',I',r',e1,e2⟩=>?_
 ·exact U8 (by decide) (by rw[zai];show(ns[0]?).map _=_;rw[hn];rfl)
 subst e1 e2;have:=rb (m:=m) I' zu hr (by omega)
 rw[Gq ha]at this;exact⟨.int n,H,this,r',q n⟩
def Ku:PSet X (λo i v H Q=>∃a m c,o=.ref a/\H a=some (tz a m)/\m=0/\i=.int 0/\v=.int c/\Q H):=by
 intro pn s σ H o i v ov iv u Q I ro ri Z h;obtain⟨a,m,c,rfl,j,m0,rfl,rfl,q⟩:=h;obtain⟨ns,hr,I1⟩:=c8 I j (by omega)
 have h1:=hr.2.1 (by omega)
 refine thn (R8 pn s σ _ (.ref a) (.int 0) (.int c) ov iv u (λH'=>H'=upd (upd H a (.lst (ns.map V.int))) a (.lst ((ns.map V.int).set 0 (.int c)))) I1 ro ri Z ⟨a,ns.map V.int,0,0,rfl,rfl,zu,?_,rfl⟩) λ_ s' ⟨H',I',e⟩=>?_
 ·unfold ixN;rw[if_pos (by decide),if_pos (by rw[zLm];omega)]
  rfl
 subst e;have hq:upd (upd H a (.lst (ns.map V.int))) a (.lst ((ns.map V.int).set 0 (.int c))) a=some (.lst ((ns.set 0 c).map V.int)):=by
  rw[zu,<- List.map_set]
 have:=rb (m:=m) I' hq ⟨by rw[List.length_set];exact hr.1,λ_=>by rw[List.length_set];exact h1,λn hn hm=>absurd m0 (by omega)⟩ (by omega)
 rw[Oa,Gq j]at this;exact⟨H,this,q⟩
def dFd0(i:Nat):TD:=λL U=>match slot L i with
 |some ⟨.val,.fd m⟩=>m=0/\∀c:Int,U (dv (.int c))
 |_=>False
def Tt{K:W.Frag}{H_ H:Hp}{σ:St}{L:DE}{o:List (Nat×Addr)}(R:REnv K H_ H σ L o){i:Nat}{m:Int}(e:slot L i=some ⟨.val,.fd m⟩):∃a,σ[i]?=some (some (.ref a))/\H a=some (tz a m):=by
 obtain⟨v,j,q⟩:=R.slots i _ (Yg.mp e);rcases q with⟨_,a,rfl,h,_⟩|⟨k,_⟩
 ·exact⟨a,j,h⟩
 cases k
def Q7(i:Nat) {j p2} (hN:X.N[i]?=some x:=by rfl) (hv:Vis X.env.scope x:=by walk_at "o") (hd:D_ x:=by decide) (Z:(x==("__classdict__" : Str))=false:=by decide) (hs:jh (.Constant (.int 0) j p2):=by intro _ _;rfl):ED Y X (.Subscript (.Name x np) (.Constant (.int 0) j p2) pos) (dFd0 i):=λH_ =>
 impE (Wj Ba (rk hN hv hd Z) sr hs) λσ H Q q=>by
  obtain⟨L,oo,R,U,I,kk⟩:=q;unfold dFd0 at I;split at I
  ·rename_i m es;obtain⟨m0,I⟩:=I;obtain⟨a,ev,ha⟩:=Tt R es;exact⟨.ref a,ev,a,m,rfl,ha,m0,rfl,λc=>kk _ (dv (.int c)) H (Same.refl H) (by exact rfl) (I c)⟩
  exact I.elim
def N5(i:Nat)(te:TD):TDS:=λL Z=>match slot L i with
 | some ⟨.val,.fd m⟩=>m=0/\te L λr=>(match r.d with
  |.int _=>Z.nx L
  | _=>False)
 |_=>False
def Ra(i:Nat) {j p2} (he:ED Y X e te) (hN:X.N[i]?=some x:=by rfl) (hv:Vis X.env.scope x:=by walk_at "o") (hd:D_ x:=by decide) (a0:(x==("__classdict__" : Str))=false:=by decide) (hs:swapsWithSole [.Subscript (.Name x np) (.Constant (.int 0) j p2) pos'] e pos.line X.env=pure false:=by rfl) (hw:swappedStores [.Subscript (.Name x np) (.Constant (.int 0) j p2) pos'] e X.env=pure none:=by rfl) (h1:(assignEach [.Subscript (.Name x np) (.Constant (.int 0) j p2) pos'] X.env).map (·.2)=[assign (.Subscript (.Name x np) (.Constant (.int 0) j p2) pos') X.env]:=by rfl) (ha:∀v,assign (.Subscript (.Name x np) (.Constant (.int 0) j p2) pos') X.env v=(do
   let I <- holding [v] (eval (.Name x np) X.env)
   let iv <- holding [v,I] (eval (.Constant (.int 0) j p2) X.env)
   standAt pos'
   holding [v,I,iv] (setItem I iv v)
   release [v,I,iv] []):=by intro _;rfl):SD Y X (.Assign [.Subscript (.Name x np) (.Constant (.int 0) j p2) pos'] e pos) (N5 i te):=λH_ =>
 impS (Fp (he H_) (Fq (rk hN hv hd a0) sr Ku ha) hs hw h1) λD σ H h=>by
  obtain⟨L,o,R,Z,q,k1,k2,k3,k4⟩:=h;unfold N5 at q;split at q
  ·rename_i m es;obtain⟨m0,q⟩:=q;obtain⟨a,ev,ha⟩:=Tt R es;refine⟨L,o,R,_,q,λv r H1 s1 rv hz=>?_⟩;obtain⟨kd,d⟩:=r;cases d with
   |int c =>
    cases (show v=_ from rv.view)
    exact⟨.ref a,ev,a,m,c,rfl,s1 _ _ ha,m0,rfl,rfl,k1 L σ H1 o (Grow.same s1) (R.to s1) hz⟩
   |_=>exact hz.elim
  exact q.elim
def N2(i:Nat):TDS:=λL Z=>match slot L i with
 |some ⟨.val,.fd m⟩=>m=0/\∀c:Int,Z.rt (dv (.int c))
 |_=>False
def Ko(i:Nat){p0 p1 p2 p3 p4 p6 p7 p8 p9 a6 a5 a4 a2:Pos} {j1 j2 j3} (b4:X.mg "len" = none) (hN:X.N[i]?=some x:=by rfl) (hv:Vis X.env.scope x:=by walk_at "o") (hd:D_ x:=by decide) (a8:(x==("__classdict__" : Str))=false:=by decide) (hg:Gl X "len":=by rfl) (hm:behindInMarks .Gt (.Constant (.int 1) j1 p2)=false:=by with_unfolding_all rfl) (he:starEach [.Name x p1] X.env=(false,eval (.Name x p1) X.env)::starEach [] X.env:=by rfl) (b3:(backTo p3 (starEach [] X.env)).any (·.1)=false:=by rfl) (hq:∀{to:TE},PE X (.Name x p7) to->PE X (.Call (.Attribute (.Name x p7) "pop" p8) [.Constant (.int 1) j2 p9] [] a6) (tBM X.K "list" Fl to (D8 (tC (.int 1)) tNil)):=by
   intro to h1;exact Uz PySem.F.plainAttrs_list PySem.F.slot_list_pop PySem.F.type_list_pop Jn h1 (xw sr vh)) :
  SDs Y X [.If (.Compare (.Call (.Name "len" p0) [.Name x p1] [] p3) [.Gt] [.Constant (.int 1) j1 p2] p4) [.Return (some (.Call (.Attribute (.Name x p7) "pop" p8) [.Constant (.int 1) j2 p9] [] a6)) a5] [] p6,.Return (some (.Constant (.int 0) j3 a4)) a2] (N2 i):=λH_ pn s σ H EE I h=>by
 obtain⟨L,o,R,Z,hZ,k1,k2,k3,k4⟩:=h;unfold N2 at hZ;split at hZ
 ·rename_i m es;obtain⟨m0,hZ⟩:=hZ;obtain⟨a,ev,ha⟩:=Tt R es;obtain⟨ns,hr,I1⟩:=c8 I ha (by omega)
  have a9:=uz (Ut (qb Jh (t6 ul hg b4 PySem.boot_len (xw (rk hN hv hd a8 (pos:=p1)) vh he) (by decide) (by decide) he b3 (p:=p0)) (sr (i:=1) (j:=j1) (pos:=p2)) hm (pos:=p4)) (ub (Zq (hq (rk hN hv hd a8 (pos:=p7))) (pos:=a5))) d4 (pos:=p6)) (ub (Zq (sr (i:=0) (j:=j3) (pos:=a4)) (pos:=a2)))
  let D1:Ends:={EE with nx:=λ_ _=>False,bk:=λ_ _=>False,ct:=λ_ _=>False,rt:=λv H2=>∃(c:Int)(a0:List Int),v=.int c/\H2 a=some (.lst (a0.map V.int))/\inR m a0/\∀b u,b≠a->H b=some u->H2 b=some u}
  refine thn (a9 pn s σ _ D1 I1 ?_) λfl s' p=>?_
  ·have h1:upd H a (HO.lst (ns.map V.int)) a=some (.lst (ns.map V.int)):=zu;have hk:∀b u,b≠a->H b=some u->upd H a (HO.lst (ns.map V.int)) b=some u:=λb u q a1=>by rw[zv q];exact a1
   refine⟨.ref a,ev,a,ns.map V.int,rfl,.inl (SqL.of h1),_,_,rfl,rfl,_,rfl,?_⟩;rw[zLm]
   dsimp only
   by_cases hl:(1:Int)<ns.length
   ·rw[if_pos (decide_eq_true hl)];have a7:1<ns.length:=by omega
    refine⟨.ref a,ev,.inl ⟨rfl,_,SqL.of h1⟩,a,_,1,1,.int ns[1],rfl,rfl,h1,by decide,by decide,?_,?_,?_⟩
    ·have:(1:Int)<(ns.map V.int).length:=by rw[zLm];exact hl
     simp[seqIndex?];omega
    ·rw[zai,zaf a7];rfl
    refine⟨ns[1],ns.eraseIdx 1,rfl,?_,⟨?_,λ_=>?_,λn hn hm=>absurd m0 (by omega)⟩,λb u q a1=>by rw[zv q];exact hk b u q a1⟩
    ·rw[zu,Vp]
    ·exact zak (List.length_eraseIdx_le ..) hr.1
    rw[List.length_eraseIdx_of_lt a7];omega
   rw[if_neg (by simpa using hl)]
   exact⟨0,ns,rfl,h1,hr,hk⟩
  cases fl with
  |ret u =>
   obtain⟨v,b0,H2,I2,rv,c,a0,rfl,e2,r2,kp⟩:=p;refine⟨.int c,b0,upd H2 a (tz a m),rb I2 e2 r2 (by omega),rv,k4 _ (dv (.int c)) _ (R.same.trans λb u q=>?_) (by exact rfl) (hZ c)⟩
   by_cases hba:b=a
   ·subst hba;rw[zu];rw[ha]at q;exact q
   rw[zv hba];exact kp b u hba q
  |next=>obtain⟨_,_,_,f⟩:=p;exact f.elim
  |brk=>obtain⟨_,_,_,f⟩:=p;exact f.elim
  |cont=>obtain⟨_,_,_,f⟩:=p;exact f.elim
 exact hZ.elim
section
variable{T F:List Str}{js:List Nat}{iter elt:Expr}{ifs:List Expr}{ti:TID}{g2:TG}{g:TGD}{tc:TDb}
def yn(i:Nat){y:Str}(hN:X.N.Nodup)(hi:EI Y X tg iter ti)(S:xf X.env.scope scope T F)(a0:Paired (λx j=>X.N[j]?=some x) F js)(nd:js.Nodup)(hg:∀ cl C fp s H,PG (x8 X (T++F) scope cl C fp s H) tg g2)(hk:Z8 T.length g2)(hl:bu X.K g2 g)(ht:∀ cl C fp s H,EIf Y (x8 X (T++F) scope cl C fp s H) ifs tc)(he:∀ cl C fp s H,ED Y (x8 X (T++F) scope cl C fp s H) elt te)(hc:X.calm=true:=by rfl)(hs:∀ x,foldedSetIterable iter X.env x=pure x:=by intro _;rfl)(hy:X.N[i]?=some y:=by rfl)(q:X.env.scope.names.lookup y=some .local:=by rfl)(I:swapsWith (.ListComp elt [⟨tg,iter,ifs,0⟩] scope pos) (some (.Name y py)) spos.line X.env=pure true:=by rfl):SD Y X (.Assign [.Name y py] (.ListComp elt [⟨tg,iter,ifs,0⟩] scope pos) spos) (sSet i (Qc ti T.length js g tc te)):=λH_ =>
 impS (Qp (tc:=dt X.K H_.1 tc) (te:=u7 X.K H_.1 te) hc hN hy (.inl q) (hi H_) S a0 hg hk (λcl C fp s H=>ht cl C fp s H H_) (λcl C fp s H=>he cl C fp s H H_) I hs (.inr q)) λD σ H h=>by
  obtain⟨L,o,R,Z,hZ,k1,k2,k3,k4⟩:=h;refine Zu nd hl σ H _ ⟨L,o,R,_,hZ,λv r H1 s1 rv h1=>?_⟩;obtain⟨o',R',g'⟩:=R.put s1 i rv (tm h1.1);exact k1 _ _ H1 o' g' R' h1.2
end
def z0h{K:W.Frag}{H H':Hp}{a:Addr}{xs:List V}(j:∀ b xs,H b=some (.tup xs)->H' b=some (.tup xs))(q:∀ b o u,H b=some (.frz o u)->H' b=some (.frz o u))(h:SqR K H a xs):SqR K H' a xs:=by
 obtain⟨h1,h2⟩:=h;refine⟨?_,j _ _ h2⟩;rcases h1 with(h|⟨o,h⟩)|h
 ·exact .inl (.inl (j _ _ h))
 ·exact .inl (.inr ⟨o,q _ _ _ h⟩)
 exact .inr h
def z0m{K:W.Frag}{H H':Hp}{a:Addr}{ns:List Int}(j:∀ b o u,H b=some (.frz o u)->H' b=some (.frz o u))(h:Scr K H a ns):Scr K H' a ns:=by
 rcases h with⟨o,h⟩|h
 ·exact .inl ⟨o,j _ _ _ h⟩
 exact .inr h
mutual
theorem RepN.go{K:W.Frag}{P Z:Addr->Prop}{H H':Hp}(I:∀ b xs,H b=some (.tup xs)->H' b=some (.tup xs))(j:∀ b o u,H b=some (.frz o u)->H' b=some (.frz o u))(g:∀ b u,P b->H b=some u->H' b=some u/\Z b):∀(d:D)(v:V),RepN K H P d v->RepN K H' Z d v
 |.non,_,h=>h
 |.bl _,_,h=>h
 |.int _,_,h=>h
 |.str _,_,h=>h
 |.ty _,_,h=>h
 |.cn _,_,h=>h
 |.tup ds,v,h=>by
  obtain⟨a,xs,e,q,r⟩:=h;exact⟨a,xs,e,z0h I j q,xa.go I j g ds xs r⟩
 |.lst ds,v,h=>by
  obtain⟨a,xs,e,q,n,r⟩:=h;exact⟨a,xs,e,(g a _ n q).1,(g a _ n q).2,xa.go I j g ds xs r⟩
 |.scr ns,v,h=>by
  obtain⟨a,e,q⟩:=h;exact⟨a,e,z0m j q⟩
 |.exc C,v,h=>by
  obtain⟨a,e,q,n⟩:=h;exact⟨a,e,(g a _ n q).1,(g a _ n q).2⟩
 |.fd C,v,h=>by
  obtain⟨a,e,q,n⟩:=h;exact⟨a,e,(g a _ n q).1,(g a _ n q).2⟩
 |.dk ks ds,v,h=>by
  obtain⟨a,xs,e,q,n,l,nd,r⟩:=h;exact⟨a,xs,e,(g a _ n q).1,(g a _ n q).2,l,nd,xa.go I j g ds xs r⟩
theorem xa.go{K:W.Frag}{P Z:Addr->Prop}{H H':Hp}(j:∀ b xs,H b=some (.tup xs)->H' b=some (.tup xs))(I:∀ b o u,H b=some (.frz o u)->H' b=some (.frz o u))(g:∀ b u,P b->H b=some u->H' b=some u/\Z b):∀(ds:List D)(xs:List V),xa K H P ds xs->xa K H' Z ds xs
 |[],_,h=>h
 |d::ds,xs,h=>by
  obtain⟨v,r,e,q,t⟩:=h;exact⟨v,r,e,RepN.go j I g d v q,xa.go j I g ds r t⟩
end
section
variable{T F:List Str}{js:List Nat}{iter elt:Expr}{ifs:List Expr}{ti:TID}{g2:TG}{g:TGD}{tc:TDb}
def Li(ti:TID)(n:Nat)(js:List Nat)(g:TGD)(tc:TDb)(te:TD):TD:=λL U=>ti L λds=>∃P:Nat->List D->Prop,ds.length<=100000/\P 0 [] /\
 (∀(i:Nat)(d:D)(es:List D),ds[i]?=some d->es.length<=i->P i es->g d (ρ0 n js L) λj=>tc j λc=>(c=true->te j λr=>vk r/\P (i+1) (es++[r.d]))/\(c=false->P (i+1) es))/\∀es,P ds.length es->U ⟨.new,.lst es⟩
def P5{H_:Hp}(nd:js.Nodup)(hl:bu X.K g2 g):∀σ H Q,u7 X.K H_ (Li ti T.length js g tc te) σ H Q->Om (Jz X.K H_ ti) T js g2 (dt X.K H_ tc) (u7 X.K H_ te) σ H Q:=λσ H Q q=>by
  obtain⟨L,o,R,U,b3,k⟩:=q;refine⟨L,o,R,_,b3,λJ ds P H1 s1 I hP ⟨PP,b9,P0,a6,b4⟩ Da j=>?_⟩;have R1:=R.to s1;have gD:∀{H':Hp},Same H1 H'->Grow (o.map Prod.snd) (Da::o.map Prod.snd) H1 H':=λs=>⟨λb u h nb=>⟨s b u h,λz=>(zam.mp z).elim (λe=>zp h j e) nb⟩,λb xs h=>s b _ h,λb ob u h=>s b _ h⟩;refine⟨λi m ys H'=>m=ds.length-i/\i<=ds.length/\Same H1 H'/\H' Da=some (.lst ys)/\∃es,es.length<=i/\PP i es/\xa X.K H' (λb=>b∉Da::o.map Prod.snd/\H1 b=none) es ys,
   ⟨_,rfl,Nat.zero_le _,yh j _,zu,[],zaj _,P0,rfl⟩,?_⟩
  rintro i m ys H' ⟨rfl,c1,s2,a4,es,le,pe,rp⟩;refine⟨a4,?_⟩;have a7:=I.keep _ _ _ _ hP (gD s2);by_cases hlt:i<ds.length
  ·have ed:ds[i]?=some ds[i]:=by simp[hlt]
   obtain⟨j1,j2⟩:=I.go H' _ i _ a7 ed;refine .inr ⟨j1,λzs H2=>Same H1 H2/\H2 Da=some (.lst zs)/\∃es,es.length<=i+1/\PP (i+1) es/\xa X.K H2 (λb=>b∉Da::o.map Prod.snd/\H1 b=none) es zs,λzs H2 ⟨a1,a2,a3⟩=>⟨_,(by omega:ds.length-(i+1)<ds.length-i),rfl,hlt,a1,a2,a3⟩,λx H2 y=>?_⟩
   obtain⟨s3,rx⟩:=j2 x H2 y;have Z:=s2.trans s3;have a9:=s3 _ _ a4;have RB:=ky (n:=T.length) R1 nd j Z a9 T rfl;have hO:((T.length+js.length,Da)::o.map λp=>(ixO T.length js p.1,p.2)).map Prod.snd=Da::o.map Prod.snd:=by
    rw[List.map_cons,List.map_map];rfl
   have b0:ys.length<=100000:=by
    rw[rp.length];omega
   refine hl H_ H2 (st0 T js σ) (ρ0 T.length js L) _ _ x _ _ RB (by rw[hO];exact rx) (a6 i _ es ed le pe) λa5 c0 R' q'=>?_
   refine⟨a5,_,R',_,q',λc H3 s4 h4=>?_⟩;have a8:=s4 _ _ a9;cases c with
   |false =>
    exact iteF ⟨Z.trans s4,a8,es,Nat.le_succ_of_le le,h4.2 rfl,xa.to (s3.trans s4) (λ_ z=>z) _ _ rp⟩
   |true =>
    refine iteT ⟨a5,_,R'.to s4,_,h4.1 rfl,λv r H4 s5 rv h5=>?_⟩;have a0:=s5 _ _ a8;have rd:=rv.anew h5.1;rw[hO]at rd;have ne:∀b u,H1 b=some u->b≠Da:=λb u h=>zp h j;have gu:Grow (Da::o.map Prod.snd) (Da::o.map Prod.snd) H4 (upd H4 Da (.lst (ys++[v]))) :=
     ⟨λb u h n=>⟨by rw[zv (λz=>n (zam.mpr (.inl z)))];exact h,n⟩,λb xs h=>by rw[zv (λz=>by rw[z,a0]at h;cases h)];exact h,λb ob u h=>by rw[zv (λz=>by rw[z,a0]at h;cases h)];exact h⟩
    refine⟨a0,Nat.lt_of_le_of_lt b0 (by decide),⟨λb u h=>?_,zu,es++[r.d],by rw[zLa];exact Nat.succ_le_succ le,h5.2,?_⟩⟩
    ·rw[zv (ne b u h)];exact s5 _ _ (s4 _ _ (Z b u h))
    refine xa.append (xa.go (λb xs h=>gu.tups b xs h) (λb ob u h=>gu.frzs b ob u h) (λb u z h=>⟨(gu.keep b u h z.1).1,z⟩) _ _ (xa.to (s3.trans (s4.trans s5)) (λ_ z=>z) _ _ rp)) ⟨v,[],rfl,?_,rfl⟩;exact RepN.go (λb xs h=>gu.tups b xs h) (λb ob u h=>gu.frzs b ob u h) (λb u z h=>⟨(gu.keep b u h z.1).1,z.1,(Z.trans s4).free z.2⟩) _ _ rd
  have e:i=ds.length:=by omega
  subst e;refine .inl ⟨I.stop H' _ a7,?_⟩;exact k (.ref Da) ⟨.new,.lst es⟩ H' (s1.trans s2) ⟨Da,ys,rfl,a4,⟨R.ofree (s1.free j),s1.free j⟩,xa.to (Same.refl _) (λb z=>⟨λy=>z.1 (zal _ y),s1.free z.2⟩) _ _ rp⟩ (b4 es pe)
def Q9(hi:EI Y X tg iter ti)(S:xf X.env.scope scope T F)(q:Paired (λx j=>X.N[j]?=some x) F js)(I:js.Nodup)(hg:∀ cl C fp s H,PG (x8 X (T++F) scope cl C fp s H) tg g2)(hk:Z8 T.length g2)(hl:bu X.K g2 g)(Z:∀ cl C fp s H,EIf Y (x8 X (T++F) scope cl C fp s H) ifs tc)(he:∀ cl C fp s H,ED Y (x8 X (T++F) scope cl C fp s H) elt te)(hc:X.calm=true:=by rfl)(hs:∀ x,foldedSetIterable iter X.env x=pure x:=by intro _;rfl):ED Y X (.ListComp elt [⟨tg,iter,ifs,0⟩] scope pos) (Li ti T.length js g tc te):=λH_ =>
 impE (Ux (tc:=dt X.K H_.1 tc) (te:=u7 X.K H_.1 te) hc (hi H_) S q hg hk (λcl C fp s H=>Z cl C fp s H H_) (λcl C fp s H=>he cl C fp s H H_) hs) (P5 I hl)
def Vu(ds:List D)(h:∀ N:List D->Prop,N ds->ti L N)(P:Nat->List D->Prop)(hl:ds.length<=100000)(h0:P 0 [])(I:∀ (i:Nat) (d:D) (es:List D),ds[i]?=some d->es.length<=i->P i es->g d (ρ0 n js L) λj=>tc j λc=>(c=true->te j λr=>vk r/\P (i+1) (es++[r.d]))/\(c=false->P (i+1) es))(q:∀ es,P ds.length es->U ⟨.new,.lst es⟩):Li ti n js g tc te L U:=h _ ⟨P,hl,h0,I,q⟩
end
def cstD:Cst->D
 |.int i=>.int i
 |.str x=>.str x
 |.tup cs=>.cn (.tup cs)
def Yn:∀{c:Cst}{v:V},CRep K c v->Rep K H O (cstD c) v
 |.int _,_,h=>h
 |.str _,_,h=>h
 |.tup _,_,h=>h
def gm:∀{cs:List Cst}{xs:List V},Ug K cs xs->Reps K H O (cs.map cstD) xs
 |[],_,h=>h
 |c::cs,xs,h=>by
  obtain⟨v,r,e,q,t⟩:=h;exact⟨v,r,e,Yn q,gm t⟩
def Qd{cs:List Cst}(h:CRep K (.tup cs) v):∃a xs,v=.ref a/\SqT K H a xs/\Ug K cs xs:=by
 obtain⟨a,o,its,n,xs,e,l,c,d,z,r,t⟩:=h;exact⟨a,xs,e,.inr ⟨o,its,n,l,c,d,z,r⟩,t⟩
def cy:∀{cs:List Cst}{xs:List V},Ug K cs xs->xs.length=cs.length
 |[],_,h=>by cases (show _=[] from h);rfl
 |c::cs,xs,h=>by
  obtain⟨v,r,e,q,t⟩:=h;subst e;simp[cy t]
def Gc(j:List Str):(j.map Cst.str).map cstD=j.map D.str:=by
 rw[List.map_map];rfl
def dd(l:List Str)(k:Str):List Str:=if k∈l then l else l++[k]
def fm(val:Nat->Str)(i:Nat):List Str:=((List.range i).map val).foldl dd []
def Ms(val:Nat->Str)(i:Nat):fm val (i+1)=dd (fm val i) (val i):=by
 unfold fm;rw[List.range_succ,zMa,List.foldl_append];rfl
def z2i{l:List Str}:x∈dd l k ↔ x∈l\/x=k:=by
 unfold dd;split
 ·rename_i h;exact⟨.inl,λq=>q.elim (λz=>z) λz=>z▸h⟩
 rw[zas,List.mem_singleton]
def Fz(l:List Str)(k:Str):(dd l k).length=if k∈l then l.length else l.length+1:=by
 unfold dd;split <;> simp
def fold_dd_le:∀(l acc:List Str),(l.foldl dd acc).length<=acc.length+l.length
 |[],acc=>zaj _
 |x::r,acc=>by
  have q:=fold_dd_le r (dd acc x);have z:=Fz acc x;rw[List.foldl_cons,zLc];split at z <;> omega
theorem Zx:∀(l acc:List Str),((l.foldl dd acc).length=acc.length+l.length) ↔ (l.Nodup/\∀x∈l,x∉acc)
 |[],acc=>by simp
 |x::r,acc=>by
  rw[List.foldl_cons,zLc,List.nodup_cons];by_cases h:x∈acc
  ·have e:dd acc x=acc:=by unfold dd;rw[if_pos h]
   rw[e];have q:=fold_dd_le r acc;constructor
   ·intro z;omega
   intro z;exact absurd h (z.2 x (zao ..))
  have e:dd acc x=acc++[x]:=by unfold dd;rw[if_neg h]
  have q:=Zx r (acc++[x]);rw[e];rw[zLa,List.length_singleton]at q;constructor
  ·intro z;obtain⟨Z,I⟩:=q.mp (by omega)
   refine⟨⟨λhx=>I x hx (by simp),Z⟩,λy j=>?_⟩
   rcases zam.mp j with rfl|j
   ·exact h
   exact λz=>I y j (List.mem_append_left _ z)
  rintro⟨⟨n0,Z⟩,I⟩;have:=q.mpr ⟨Z,λy j z=>by
   rcases zas.mp z with z|z
   ·exact I y (zal _ j) z
   rw[List.mem_singleton]at z;subst z;exact n0 j⟩
  omega
def many(l:List Str):Nat:=(l.foldl dd []).length
def many_eq(l:List Str):many l=l.length ↔ l.Nodup:=by
 have q:=Zx l [];unfold many;rw[zLn,Nat.zero_add]at q;rw[q];exact⟨λz=>z.1,λz=>⟨z,λ_ _ h=>(by cases h)⟩⟩
def z5t(val:Nat->Str)(i:Nat):(fm val i).length<=i:=by
 have:=fold_dd_le ((List.range i).map val) [];unfold fm;simpa using this
def R9{h:Heap}{S S':Str->Bool}{n n':Nat}(q:h.SetOf (strKind P w) a S n)(e:∀ k,S k=S' k)(j:n=n'):h.SetOf (strKind P w) a S' n':=by
 have z:S=S':=funext e;subst z j;exact q
section
variable{R:Result->Shared->Prop}{it:Addr}{fp wr:List Addr}{G:Array GenState->Array GenState->Prop}{n:Nat}{Pv:Nat->Value->Prop}{St:Nat->Shared->Prop}
def Kt(W:WalksS P w A.in1 it fp wr G n Pv St)(d:Addr)(hd:d∉fp)(val:Nat->Str)(hv:∀ i v,Pv i v->∃ t,v=.str (val i) t)(j:n+1<scanBound) :
  ∀(k i:Nat)(s:Shared),n-i=k->i<=n->St i s->s.heap.SetOf (strKind P w) d (λx=>decide (x∈fm val i)) (fm val i).length ->
   (∀z,Moved (d::wr) G s z->z.heap.SetOf (strKind P w) d (λx=>decide (x∈fm val n)) (fm val n).length->R (.ok (.ret .none)) z) ->
   codeAny (model P w) A (.builtin "set.update.loop" ⟨[.ref d,.ref it],[]⟩) R s:=by
 have a0:d∉wr:=λh=>hd (W.sub _ h);have sub:∀b∈wr,b∈d::wr:=λb j=>zal _ j;intro k
 induction k with
 |zero =>
  intro i s hk hi st q hR;have e:i=n:=by omega
  subst e;refine codeAny_builtin F.entry_set_update_loop ?_;rw[Around.under_plainId F.plain_set_update_loop _];show wpAny _ A.in1 (pyNext (.ref it) >>= _) _ _ s;refine zaa (W.done s _ _ st λz Z=>?_);show wpAny _ A.in1 (ret Value.none) _ _ z;refine zab (hR z (Z.mono sub) ?_);obtain⟨o,es,ep,t,ho,more⟩:=q;exact⟨o,es,ep,t,Z.heap d _ a0 ho,more⟩
 |succ k ih =>
  intro i s hk hi st q hR;have lt:i<n:=by omega
  refine codeAny_builtin F.entry_set_update_loop ?_;rw[Around.under_plainId F.plain_set_update_loop _];show wpAny _ A.in1 (pyNext (.ref it) >>= _) _ _ s;refine zaa (W.item i s _ _ lt st λv z hP a1 Z=>?_);obtain⟨t,rfl⟩:=hv i v hP;have q2:z.heap.SetOf (strKind P w) d (λx=>decide (x∈fm val i)) (fm val i).length:=by
   obtain⟨o,es,ep,tb,ho,more⟩:=q;exact⟨o,es,ep,tb,Z.heap d _ a0 ho,more⟩
  show wpAny _ A.in1 (holding [Value.str (val i) t] (setAdd d (.str (val i) t)) >>= _) _ _ z;refine zaa (wpAny_holding ?_);unfold setAdd;refine wpAny_holding (zaa ((strKind P w).pyHash (k:=val i) (dy (val i) t) ?_));have I:(fm val i).length+1<scanBound:=by have:=z5t val i;omega
  refine wpAny_setAddHashed_of (knd:=strKind P w) (s:={z with toks:=z.toks+1}) (dy (val i) t) rfl q2 I λh1 sb q3=>?_;have q4:h1.SetOf (strKind P w) d (λx=>decide (x∈fm val (i+1))) (fm val (i+1)).length :=
   R9 q3 (λx=>by rw[Ms,Bool.eq_iff_iff];simp[z2i]) (by rw[Ms,Fz];simp)
  refine zab ⟨plainId_quiet F.plain_set_update_loop _,ih (i+1) _ (by omega) lt (W.frame _ z _ _ a1 (Nat.le_succ _) λb j o e=>?_) q4 λy a2 q5=>?_⟩
  ·rw[sb.2 b λh=>hd (by rw[<- h];exact j)];exact e
  refine hR y (Moved.trans W.gtrans ((Z.mono sub).then_heap (Nat.le_succ _) λb o j e=>?_) a2) q5;rw[sb.2 b λh=>j (by rw[h];exact zao)];exact e
end
def Ks(hh:A.handled=none)(hl:s.heap.IsList l its)(hv:∀ (i:Nat) (v:Value),its[i]?=some v->∃ t,v=.str (val i) t)(hb:its.size+1<scanBound)(h:∀ (g:Heap) (tk:Nat),g.SetOf (strKind P w) s.heap.objs.size (λx=>decide (x∈fm val its.size)) (fm val its.size).length->(∀ b o,s.heap.get? b=some o->g.get? b=some o)->Q (.ref s.heap.objs.size) {s with heap:=g,toks:=tk}) :
  wpAny (model P w) A (call (.type "set") [.ref l]) Q E s:=by
 obtain⟨c,tl,d3⟩:=F.called_set.mro;have b9:=F.called_set.made;have d0:=F.called_set.sub;refine wpAny_call (codeAny_of_tree ?_);show wpAny _ _ (callAny (.type "set") _) _ _ _;refine zab ⟨Code.quiet_builtin _ (by decide +kernel),codeAny_builtin F.entry_type_call ?_⟩
 rw[Around.under_plain (weight_type_call_type "set" [.ref l] []) rfl];have n1:=F.called_set.notType;have n2:=F.called_set.canCreate;have n3:=F.typeCall_set_1 (.ref l)
 repeat (any_goals (first|assumption|wp_step))
 refine codeAny_mono (code_set_new_1 (.ref l) (E:=E) (Q₁:=λa1 z=>∃j:Bool,a1=.ref s.heap.objs.size/\z={s with heap:=s.heap.push {cls:=.type "set",dict:=none,data:=.set #[] 0 (.fresh 0 0 j)}}) λj=>⟨j,rfl,rfl⟩) λr z hr=>?_;cases r with
 |error e=>exact hr
 |ok fl =>
  cases fl with
  |ret a1 =>
   obtain⟨j,rfl,rfl⟩:=hr;have there:(s.heap.push {cls:=.type "set",dict:=none,data:=.set #[] 0 (.fresh 0 0 j)}).get? s.heap.objs.size=some {cls:=.type "set",dict:=none,data:=.set #[] 0 (.fresh 0 0 j)}:=zad _ rfl;have ty:Shared.TypeIs {s with heap:=s.heap.push {cls:=.type "set",dict:=none,data:=.set #[] 0 (.fresh 0 0 j)}} (.ref s.heap.objs.size) "set":=⟨_,there,rfl⟩;have i1:=F.called_set.init.lookup;have i2:=F.called_set.init.bind (.ref s.heap.objs.size)
   repeat (any_goals (first|assumption|wp_step))
   refine codeAny_mono (codeAny_call_builtin (R:=wants (λr z=>r=.none/\∃g tk,z={s with heap:=g,toks:=tk}/\g.SetOf (strKind P w) s.heap.objs.size (λx=>decide (x∈fm val its.size)) (fm val its.size).length /\
     (∀b o,s.heap.get? b=some o->g.get? b=some o)) E) F.called_set.init.plain F.entry_set_init (check_set_init_1 ty ?_)) λr2 z2 a0=>?_
   ·obtain⟨ol,a4,a7,nl,a6⟩:=hl;obtain⟨c3,Z,b0,I⟩:=ol;simp only at a7 a6;subst a7 a6;have a2:(s.heap.push {cls:=.type "set",dict:=none,data:=.set #[] 0 (.fresh 0 0 j)}).get? l=some {cls:=.type "list",dict:=Z,data:=.seq its nl,slots:=I}:=zac _ a4;have b1:=F.sub_list_set;have b2:=F.sub_list_frozenset;have b3:(Value.type "list"==Value.type "dict")=false:=by decide
    have a5:(s.heap.push {cls:=.type "set",dict:=none,data:=.set #[] 0 (.fresh 0 0 j)}).IsList l its:=⟨_,a2,rfl,nl,rfl⟩;unfold Builtin.«set.__init__» noKeywords Builtin.Frozenset.updateFrom;generalize hPI:pyIter=PI;wp_walk;subst hPI;refine wpAny_pyIter_list a5 ?_;refine zaa (wpAny_runValue ?_);have ll:l<s.heap.objs.size:=zae a4;have c0:A.in1.in1.in1.handled=none:=by simp[hh]
    have b4:l≠(s.heap.push {cls:=.type "set",dict:=none,data:=.set #[] 0 (.fresh 0 0 j)}).objs.size:=by
     rw[Heap.size_push];exact Nat.ne_of_lt (Nat.lt_succ_of_lt ll)
    have dn:s.heap.objs.size∉[(s.heap.push {cls:=.type "set",dict:=none,data:=.set #[] 0 (.fresh 0 0 j)}).objs.size,l]:=by
     rw[Heap.size_push];simp only[zam,List.mem_singleton,List.not_mem_nil,or_false,not_or];exact⟨Nat.ne_of_lt (Nat.lt_succ_self _),Nat.ne_of_gt ll⟩
    refine Kt ((Walks.list c0 _ l b4 its).toS) s.heap.objs.size dn val (λi v hx=>hv i v hx) hb (its.size-0) 0 _ (by omega) (Nat.zero_le _) ⟨⟨_,zad _ rfl,rfl,rfl⟩,(a5.push _)⟩ ?first ?last
    case first =>
     have e1:((s.heap.push {cls:=.type "set",dict:=none,data:=.set #[] 0 (.fresh 0 0 j)}).push {cls:=.type "list_iterator",data:=.fields #[.ref l,.int 0 0]}).get? s.heap.objs.size
       = some {cls:=.type "set",dict:=none,data:=.set #[] 0 (.fresh 0 0 j)}:=zac _ there
     exact R9 ((setObjOf_fresh (knd:=strKind P w) j).setOf e1 (by unfold scanBound;omega)) (λx=>by simp[fm]) rfl
    case last =>
     intro z hm q;obtain⟨g,g',d',a8,a9⟩:=z;have eg:g'=s.gens:=hm.gens;have ed:d'=s.drawn:=hm.drawn;have eo:a9=s.os:=hm.os;subst eg ed eo;show wpAny _ _ _ _ _ _;refine zab ?_;show wpAny _ _ (ret Value.none) _ _ _;refine zab ⟨rfl,g,a8,rfl,q,λb o e=>?_⟩;have lb:=zae e;have c1:b≠s.heap.objs.size:=Nat.ne_of_lt lb;have c2:b≠(s.heap.push {cls:=.type "set",dict:=none,data:=.set #[] 0 (.fresh 0 0 j)}).objs.size:=by
      rw[Heap.size_push];exact Nat.ne_of_lt (Nat.lt_succ_of_lt lb)
     exact hm.heap b o (by simp only[zam,List.mem_singleton,List.not_mem_nil,or_false,not_or];exact⟨c1,c2⟩) (zac _ (zac _ e))
   cases r2 with
   |error e=>exact a0
   |ok f2 =>
    cases f2 with
    |ret r =>
     obtain⟨rfl,g,tk,rfl,q,kp⟩:=a0
     repeat (any_goals (first|assumption|wp_step))
     exact h _ _ q kp
    |_=>exact a0.elim
  |_=>exact hr.elim
def setO(P:Program)(w:World)(a:Addr)(n:Nat):HO:=.ext λh=>∃S,h.SetOf (strKind P w) a S n
theorem O8:∀{ns:List Str}{us:List Value},Vals (ns.map V.str) us->∀(i:Nat)(v:Value),us[i]?=some v->∃t,v=.str (ns.getD i "") t
 |[],_,.nil,i,v,e=>by simp at e
 |n::ns,_,.cons r t,0,v,e=>by
  obtain⟨t',rfl⟩:=r;simp at e;exact⟨t',by rw[<- e];rfl⟩
 |n::ns,_,.cons r t,i+1,v,e=>by
  obtain⟨t',q⟩:=O8 (ns:=ns) t i v (by simpa using e)
  exact⟨t',by rw[q];rfl⟩
def z3f(ns:List Str):fm (λi=>ns.getD i "") ns.length=ns.foldl dd []:=by
 unfold fm
 congr 1
 apply List.ext_getElem
 ·simp
 intro i h1 h2;simp only[List.getElem_map,List.getElem_range,zaq];rw[zaf h2,Option.getD_some]
def call_set_strs(hc:X.calm=true):ua X (.type "set") (λxs H Q=>∃p ns,xs=[.ref p]/\SqL X.K H p (ns.map V.str)/\ns.length<=1000/\∀l,H l=none->Q (.ref l) (upd H l (setO X.prog X.w l (many ns)))):=by
 intro pn s σ H xs us Q I r h;obtain⟨p,ns,rfl,hq,hn,q⟩:=h;obtain⟨u,rfl,rx⟩:=sf r;cases rx;obtain⟨its,rv,pl,hz⟩:=I.list hq;have j:its.length=ns.length:=by have:=rv.length;rw[zLm]at this;exact this.symm
 refine Ks (val:=λi=>ns.getD i "") (I.ok.hd hc) pl.isList (λi v e=>O8 rv i v (by simpa using e)) (by rw[zap,j];unfold scanBound;omega) λg tk Z kp=>?_
 have ez:its.toArray.size=ns.length:=by rw[zap];exact j
 rw[ez,z3f]at Z;refine⟨.ref s.heap.objs.size,_,I.laid (t':=tk) kp (zaj _) ?_,rfl,q _ I.fresh⟩;obtain⟨o,es,ep,t,ho,more⟩:=id Z;refine⟨⟨_,Z⟩,⟨o,ho⟩,λh1 h2 z k=>?_⟩;obtain⟨S,o,es,ep,t,ho,more⟩:=z;exact⟨S,o,es,ep,t,k o ho,more⟩
def call_len_setO:ua X (.builtin "len") (λxs H Q=>∃p n,xs=[.ref p]/\H p=some (setO X.prog X.w p n)/\n<=1000/\Q (.int n) H):=by
 intro pn s σ H xs us Q I r h;obtain⟨p,n,rfl,hp,hn,q⟩:=h;obtain⟨u,rfl,Z⟩:=sf r;cases Z;obtain⟨⟨S,o,es,ep,t,ho,j,hd,_,_,_,hf,hsz⟩,_⟩:=I.hok p _ hp;refine call_len_set ho j hd hf (by rw[hsz];omega) ⟨.int n,H,I.tok _,⟨_,by rw[hsz]⟩,q⟩
def uu:entryFor table "dict.update.loop" = some Builtin.«dict.update.loop»:=entryFor_of_tree (by kernel_rfl)
def wc:plainId "dict.update.loop" = true:=by decide +kernel
def Qz:typeLookup (.type "tuple") "keys" = pure none:=am_miss_of_fast (by kernel_rfl)
def Ex(u:Value):Prop:=∃y:V,RelV y u
def P8{a:Addr}{o:Obj}{xs:Array Value}{k:Nat}{Q:Option Value->Shared->Prop}(hx:s.heap.get? a=some o)(hc:o.cls=.type "tuple")(j:o.data=.seq xs k)(hd:o.dict=none)(hA:A.handled=none)(h:∀ g tk,(∀ b u,s.heap.get? b=some u->g.get? b=some u)->Q none {s with heap:=g,toks:=tk}):wpAny (model P w) A (getAttr? (.ref a) "keys") Q E s:=by
 obtain⟨c,a0,a1,sl⟩:=o;simp only at hc j hd;subst hc j hd;obtain⟨hp,g,d,tk,Z⟩:=s;have hT:∀q,(⟨hp,g,d,q,Z⟩:Shared).TypeIs (.ref a) "tuple":=λ_=>⟨_,hx,rfl⟩;have f1:=sub_AttributeError;have f3:=F.slot_tuple_getattribute.lookup;have f4:=F.slot_tuple_getattribute.bind (.ref a);have f5:=am_tuple_getattr_none;unfold getAttr? getAttrBy? getAttrBy
 repeat (any_goals (first|assumption|exact hT _|((with_reducible show wpAny _ _ (call (Value.builtin "tuple.__getattribute__") _ _) _ _ _);refine call_meets F.slot_tuple_getattribute (hT _) am_entry_tuple_getattribute (F.args_tuple_getattribute_2 _ _) (meets_getattribute_miss_tuple a xs k sl "keys" _ Qz (by decide)) ⟨hx,hA,λh' q e I=>?_⟩)|wp_step))
 obtain⟨t',u',he⟩:=I.there;have hE:∀tk'',(⟨h',g,d,tk'',Z⟩:Shared).TypeIs (.ref e) "AttributeError":=λ_=>⟨_,he,rfl⟩;show wpAny _ _ (getattributeRaised _ _ _ _ _ _ _) _ _ _;unfold getattributeRaised
 repeat (any_goals (first|assumption|exact hE _|wp_step))
 exact h _ _ I.keeps
def tupD{pn:List (Addr×Obj)}{σ:St}{H:Hp}{s:Shared}{p:Addr}{ys:List V}(I:Inv X pn σ H s)(h:H p=some (.tup ys)):∃(its:List Value)(o:Obj)(n:Nat),Vals ys its/\s.heap.get? p=some o/\o.cls=.type "tuple"/\o.data=.seq its.toArray n/\o.dict=none:=by
 obtain⟨_,its,r,⟨o,ho,Z,n,q⟩,o2,j,d2⟩:=I.hok p _ h;rw[ho]at j;cases j;exact⟨its,o,n,r,ho,Z,q,d2⟩
structure ZAt1(g:Heap)(z ti to i1 i2 l1 l2:Addr)(f:Value)(k:Nat):Prop where
 zz:IsZip g z ti to f
 its:IsPair g ti (.ref i1) (.ref i2)
 out:∃a b,IsPair g to a b
 one:g.IsTupleIter i1 l1 k
 two:g.IsListIter i2 l2 k
structure ZNe1(z ti to i1 i2:Addr):Prop where
 ab:ti≠z
 ac:to≠z
 ad:i1≠z
 ae:i2≠z
 bc:ti≠to
 bd:ti≠i1
 be:ti≠i2
 cd:to≠i1
 ce:to≠i2
 de:i1≠i2
structure TopDict(P:Program)(w:World)(K:W.Frag)(a:Addr)(f:Str->Option Value):Prop where
 at_:∃es ep,K.lookup a=some {cls:=.type "dict",data:=.dict es ep}/\KeysOf (strKind P w) es/\∀k,findBy (strKind P w).is es k=f k
 ne:(a==sysModules)=false
variable{f:Str->Option Value}
def TopDict.map(T:TopDict X.prog X.w X.K a f)(I:Inv X pn σ H s):s.heap.MapOf (strKind X.prog X.w) a f:=by
 obtain⟨es,ep,j,q,Z⟩:=T.at_;exact⟨_,es,ep,I.kIn a _ j,⟨rfl,rfl,rfl⟩,rfl,q,Z⟩
def isStr_self(x:Str)(t:Tok):(strKind P w).is x (.str x t)=true:=by show Value.isStrOf x (.str x t)=true;simp[Value.isStrOf]
def op_notInTop(T:TopDict X.prog X.w X.K a f):OpR X (compareOp .NotIn) (λx y H Q=>∃z,x=.str z/\y=.ref a/\Q (.bl (!(f z).isSome)) H):=by
 intro pn s σ H x y v u Q I Z j h;obtain⟨z,rfl,rfl,q⟩:=h;obtain⟨t,rfl⟩:=Z;cases j;exact wpAny_notIn_of (isStr_self z t) T.ne (T.map I) ⟨.bl _,H,I.tok _,rfl,q⟩
def ix_top(T:TopDict X.prog X.w X.K a f):IxR X (λx y H Q=>∃z v u,x=.ref a/\y=.str z/\f z=some u/\RelV v u/\Q v H):=by
 intro j Z pn s σ H x y v u Q I rx ry h hs;obtain⟨z,v',u',rfl,rfl,hf,rv,q⟩:=h;cases rx;obtain⟨t,rfl⟩:=ry;have m:=T.map I;exact tail_any m.typeIs PySem.F.slot_dict_getitem.lookup (wpAny_getItem_of (isStr_self z t) m hf ⟨v',H,I.tok _,rv,q⟩) hs
variable{a:Expr}{td:TD}
def z3v(td tk:TD):TD:=λL U=>td L λr=>match r.d with
 | .dk ks ds=>tk L λy=>(match keyD y.d with
  |some k=>U (dv ((uo ks ds k).getD .non))
  | none=>False)
 |_=>False
def L8(hu:X.A.units+64<cLine)(ho:ED Y X o td)(he:ED Y X e te)(m:M1 X o "get" apos e cpos:=by exact⟨rfl,rfl,rfl,rfl⟩):ED Y X (.Call (.Attribute o "get" apos) [e] [] cpos) (z3v td te):=λH_ =>
 impE (Jf (by omega) (ho H_) (he H_) m) λσ H Q q=>by
  obtain⟨L,o,R,U,a0,kk⟩:=q;refine⟨L,o,R,_,a0,λv r H1 s1 rv h1=>?_⟩;obtain⟨kd,d⟩:=r;cases d with
  |dk ks ds =>
   obtain⟨a,xs,rfl,q,l,nd,rp⟩:=rv.view;refine⟨a,rfl,.inl ⟨_,.inl q⟩,L,o,R.to s1,_,h1,λv2 r2 H2 s2 Z h2=>?_⟩;split at h2
   ·rename_i k ek;have q3:=s2 _ _ q;have hk:v2=kV k:=X3 Z.view ek;subst hk;have I:=Reps.grow (Grow.same s2) _ _ rp;refine⟨_,DGet.k q3,?_⟩;rw[gc];have j:=s1.trans s2;cases el:uo ks ds k with
    |none =>
     rw[(qj (ks:=ks) (k:=k) I).2 el];rw[el]at h2;exact kk _ (dv .non) H2 j (by exact rfl) h2
    |some d =>
     obtain⟨w,ew,rw⟩:=(qj (ks:=ks) (k:=k) I).1 d el;rw[ew];rw[el]at h2;exact kk _ _ H2 j (RV.val rw) h2
   exact h2.elim
  |_=>exact h1.elim
def tabL:List (Str×Cst)->Str->Option Cst
 |[],_=>none
 |(k,c)::r,z=>if z=k then some c else tabL r z
structure GT(P:Program)(w:World)(K:W.Frag)(mg:Str->Option Value)(x:Str)(tab:List (Str×Cst)):Prop where
 ex:∃a f,mg x=some (.ref a)/\ZZ.TopDict P w K a f/\(∀z,tabL tab z=none->f z=none)/\∀z c,tabL tab z=some c->∃u v,f z=some u/\RelV v u/\CRep K c v
def Lg(j:List (Str×Cst))(ta:TD):TD:=λL U=>ta L λr=>match r.d with
 |.str z=>U (dv (.bl (!(tabL j z).isSome)))
 |_=>False
def z2g{P:Program}{w:World}{K:W.Frag}{f:Str->Option Value}{j:List (Str×Cst)}(h1:∀ z,tabL j z=none->f z=none)(h2:∀ z c,tabL j z=some c->∃ u v,f z=some u/\RelV v u/\CRep K c v)(z:Str):(f z).isSome=(tabL j z).isSome:=by
 cases e:tabL j z with
 |none=>rw[h1 z e];rfl
 |some c =>
  obtain⟨u,v,q,_⟩:=h2 z c e;rw[q];rfl
def Vo(G:GT X.prog X.w X.K X.mg x tab)(ha:ED Y X a ta)(hg:Gl X x:=by rfl)(hd:D_ x:=by decide)(hm:behindInMarks .NotIn (.Name x p)=false:=by with_unfolding_all rfl):ET Y X (.Compare a [.NotIn] [.Name x p] pos) (tBo (Lg tab ta)):=λH_=>by
 obtain⟨t,f,I,T,h1,h2⟩:=G.ex;refine impT (qb (ZZ.op_notInTop T) (ha H_) (Yt hg I (v:=.ref t) rfl hd) hm) λσ H Q q=>?_;obtain⟨L,o,R,U,j,kk⟩:=q;refine⟨L,o,R,_,j,λv r H1 s1 rv Z=>?_⟩;obtain⟨kd,d⟩:=r;cases d with
 |str z =>
  cases (show v=_ from rv.view)
  refine⟨z,rfl,rfl,_,rfl,?_⟩;rw[z2g (P:=X.prog) (w:=X.w) h1 h2];exact kk _ H1 s1 Z
 |_=>exact Z.elim
def Ei(j:List (Str×Cst))(ta:TD):TD:=λL U=>ta L λr=>match r.d with
 | .str z=>(match tabL j z with
  |some c=>U (dv (cstD c))
  | none=>False)
 |_=>False
def f9(G:GT X.prog X.w X.K X.mg x tab)(ha:ED Y X a ta)(hg:Gl X x:=by rfl)(hd:D_ x:=by decide)(hs:jh a:=by intro _ _;rfl):ED Y X (.Subscript (.Name x p) a pos) (Ei tab ta):=λH_=>by
 obtain⟨t,f,a0,T,h1,h2⟩:=G.ex;refine impE (Wj (ZZ.ix_top T) (Yt hg a0 (v:=.ref t) rfl hd) (ha H_) hs) λσ H Q q=>?_;obtain⟨L,o,R,U,Z,kk⟩:=q;refine⟨L,o,R,_,Z,λv r H1 s1 rv j=>?_⟩;obtain⟨kd,d⟩:=r;cases d with
 |str z =>
  cases (show v=_ from rv.view)
  dsimp only at j
  split at j
  ·rename_i c ec;obtain⟨u,w,e',I,cr⟩:=h2 z c ec;exact⟨z,w,u,rfl,rfl,e',I,kk _ _ H1 s1 (RV.val (Yn cr)) j⟩
  exact j.elim
 |_=>exact j.elim
def sIxC:D->D->(EV->Prop)->Prop:=λx y U=>match x,y with
 | .cn (.tup cs),.int i=>(match atI cs i with
  |some c=>U (dv (cstD c))
  | none=>False)
 |_,_=>False
def Lx{K:W.Frag}{cs:List Cst}{xs:List V}{i:Int}{c:Cst}(r:Ug K cs xs)(h:atI cs i=some c):∃v,atI xs i=some v/\CRep K c v:=by
 unfold atI at h ⊢;rw[cy r];cases e:ixN cs.length i with
 |none=>rw[e]at h;cases h
 |some j =>
  rw[e]at h;have get:∀{cs:List Cst}{xs:List V}{j:Nat},Ug K cs xs->cs[j]?=some c->∃v,xs[j]?=some v/\CRep K c v:=by
   intro cs
   induction cs with
   |nil=>intro xs j _ h;simp at h
   |cons c0 cs ih =>
    intro xs j r h;obtain⟨v,I,rfl,q,t⟩:=r;cases j with
    |zero =>
     simp at h;subst h;exact⟨v,rfl,q⟩
    |succ j =>
     obtain⟨Z,h1,h2⟩:=ih (xs:=I) (j:=j) t (by simpa using h)
     exact⟨Z,by simpa using h1,h2⟩
  exact get r h
def Ju:rg X.K (rIx X.K) sIxC:=by
 intro H O x y j vy U Q ho hx Z h k;unfold sIxC at h;split at h
 ·rename_i cs i;obtain⟨a,xs,rfl,q,cr⟩:=Qd (H:=H) (show CRep X.K (.tup cs) j from hx);split at h
  ·rename_i c ec;obtain⟨v,ev,I⟩:=Lx cr ec;exact .inr (.inl ⟨a,xs,_,v,rfl,Z,q,ev,k _ _ H (Same.refl H) (RV.val (Yn I)) h⟩)
  exact h.elim
 exact h.elim
def Ef(I:ED Y X a ta)(q:ED Y X b tb)(j:jh b:=by intro _ _;rfl):ED Y X (.Subscript a b pos) (d2 sIxC ta tb):=λH_=>impE (Wj Mk (I H_) (q H_) j) (Me Ju)
def sInC(j:Bool):D->D->(EV->Prop)->Prop:=λx y U=>match y with
 |.cn (.tup cs)=>c7 x=true/\(cs.map cstD).all c7=true/\U (dv (.bl (if j then !inD x (cs.map cstD) else inD x (cs.map cstD))))
 |_=>False
def Yx:rg X.K (rIn X.K neg) (sInC neg):=by
 intro H O x y vx Z U Q ho j hy h k;unfold sInC at h;split at h
 ·rename_i cs;obtain⟨I,f2,h⟩:=h;obtain⟨a,xs,rfl,q,cr⟩:=Qd (H:=H) (show CRep X.K (.tup cs) Z from hy);obtain⟨g1,g2⟩:=Xa j I (gm cr) f2;refine⟨a,xs,rfl,.inr q,(qu j I).1,g1,?_⟩;rw[g2];exact k _ _ H (Same.refl H) (by exact rfl) h
 exact h.elim
def z3q(I:ED Y X a ta)(q:ED Y X b tb)(j:behindInMarks .In b=false:=by with_unfolding_all rfl):ED Y X (.Compare a [.In] [b] pos) (d2 (sInC false) ta tb):=jq qk Yx I q j
def z3l(I:ED Y X a ta)(q:ED Y X b tb)(j:behindInMarks .In b=false:=by with_unfolding_all rfl):ET Y X (.Compare a [.In] [b] pos) (tBo (d2 (sInC false) ta tb)):=qy qk Yx I q j
section
variable{R:Result->Shared->Prop}{it d:Addr}{fp wr:List Addr}{n:Nat}{Pv:Nat->Value->Prop}{St:Nat->Heap->Prop}{h0:Heap}
def Po(b4:more.length=n)(b0:(more.map (·.1)).Nodup)(W:Walks P w A.in1 it fp wr n Pv St)(hd:d∉fp)(hn:n<=1000)(hv:∀ i v,Pv i v->∃ a o k x t u,v=.ref a/\a≠d/\a∉wr/\h0.get? a=some o/\o.cls=.type "tuple"/\o.data=.seq #[.str x t,u] k/\more[i]?=some (Sum.inr x,u)) :
  ∀(k i:Nat)(s:Shared)(tk:Tok),n-i=k->i<=n->St i s.heap->(∀b o,b≠d->b∉wr->h0.get? b=some o->s.heap.get? b=some o)->s.heap.DictOf (yy P w) d (more.take i) ->
   (∀g tk,g.DictOf (yy P w) d more->(∀b o,b≠d->b∉wr->h0.get? b=some o->g.get? b=some o)->R (.ok (.ret .none)) {s with heap:=g,toks:=tk}) ->
   codeAny (model P w) A (.builtin "dict.update.loop" ⟨[.ref d,.ref it,.int i tk,.none],[]⟩) R s:=by
 have a2:d∉wr:=λh=>hd (W.sub _ h);intro k
 induction k with
 |zero =>
  intro i s tk hk hi st j q hR;have e:i=n:=by omega
  subst e;refine codeAny_builtin uu ?_;rw[Around.under_plainId wc _];show wpAny _ A.in1 (pyNext (.ref it) >>= _) _ _ s;refine zaa (W.done s _ _ st λg I Z=>?_);show wpAny _ A.in1 (Builtin.Dict.addKeywords d [] >>= _) _ _ _;refine zaa (zab (zab (hR g I ?_ λb o h1 h2 e=>Z b o h2 (j b o h1 h2 e))));rw[List.take_of_length_le (by omega)]at q
  obtain⟨o,es,ep,ho,mm⟩:=q;exact⟨o,es,ep,Z d o a2 ho,mm⟩
 |succ k ih =>
  intro i s tk hk hi st j q hR;have lt:i<n:=by omega
  refine codeAny_builtin uu ?_;rw[Around.under_plainId wc _];show wpAny _ A.in1 (pyNext (.ref it) >>= _) _ _ s;refine zaa (W.item i s _ _ lt st λv g I hP a6 Z=>?_);obtain⟨a,o,c,x,t,u,rfl,b3,a4,ho,a8,a7,hm⟩:=hv i v hP;have a0:g.get? a=some o:=Z a o a4 (j a o b3 a4 ho);have q2:g.DictOf (yy P w) d (more.take i):=by
   obtain⟨o',es,ep,a9,mm⟩:=q;exact⟨o',es,ep,Z d o' a2 a9,mm⟩
  have a1:(Sum.inr x:Key)∉(more.take i).map (·.1):=by
   have e:more.take (i+1)=more.take i++[(Sum.inr x,u)]:=by rw[List.take_succ,hm];rfl
   have h4:((more.take (i+1)).map (·.1)).Nodup:=b0.sublist ((List.take_sublist _ _).map _);rw[e,zMa,List.nodup_append]at h4;intro z;exact h4.2.2 _ z (Sum.inr x) (by simp) rfl
  show wpAny _ A.in1 (holding [Value.ref a] _ >>= _) _ _ _;refine zaa (wpAny_holding (zaa (wpAny_tryCatch ?_)));unfold Builtin.Dict.pairItems;refine zaa (wpAny_typeOf (s:={s with heap:=g,toks:=I}) ⟨o,a0,a8⟩ ?_);rw[if_pos (by decide)]
  refine zaa (wpAny_seqItems (s:={s with heap:=g,toks:=I}) a0 a7 (zab ?_));show wpAny _ A.in1 (holding [Value.str x t,u] (dictSet d (.str x t) u)) _ _ _;refine wpAny_holding (wpAny_dictSet_pairs (s:={s with heap:=g,toks:=I}) (knd:=yy P w) (k:=Sum.inr x) (dh P w x t) q2 (λg2 q3 sb=>?_) (by rw[List.length_take];exact zak (Nat.min_le_left _ _) (zak hi (zak hn (by decide)))))
  refine zab ⟨plainId_quiet wc _,?_⟩;rw[Zf a1,show more.take i++[((Sum.inr x:Key),u)]=more.take (i+1) by rw[List.take_succ,hm];rfl]at q3
  show codeAny (model P w) A (.builtin "dict.update.loop" ⟨[.ref d,.ref it,.int ((i:Int)+1) _,.none],[]⟩) R _;have ei:((i:Int)+1)=((i+1:Nat):Int):=by omega
  rw[ei];refine ih (i+1) _ _ (by omega) lt (W.frame _ _ _ a6 λb hb o' e=>sb.extBut b o' (λz=>hd (z▸hb)) e) (λb o' h1 h2 e=>sb.extBut b o' h1 (Z b o' h2 (j b o' h1 h2 e))) q3 λg3 a5 q4 k4=>hR g3 a5 q4 k4
end
def S9(a7:(more.map (·.1)).Nodup)(hA:A.handled=none)(hn:n<=1000)(a8:more.length=n)(a6:s.TypeIs (.ref src) T)(hT:(Value.type T != Value.type "dict")=true)(a1:src<s.heap.objs.size)(a0:∀ (A':Around) (z:Shared) (E':Value->Shared->Prop) (Q':Option Value->Shared->Prop),A'.handled=none->(∀ b u,s.heap.get? b=some u->z.heap.get? b=some u)->(∀ g tk,(∀ b u,z.heap.get? b=some u->g.get? b=some u)->Q' none {z with heap:=g,toks:=tk})->wpAny (model P w) A' (getAttr? (.ref src) "keys") Q' E' z)(iter:∀ (A':Around) (z:Shared) (E':Value->Shared->Prop) (Q':Value->Shared->Prop),(∀ b u,s.heap.get? b=some u->z.heap.get? b=some u) ->
   (∀ (ob:Obj) (St:Nat->Heap->Prop),(∀ A'':Around,A''.handled=none->Walks P w A'' z.heap.objs.size [z.heap.objs.size,src] [z.heap.objs.size] n Pv St)->St 0 (z.heap.push ob)->Q' (.ref z.heap.objs.size) {z with heap:=z.heap.push ob})->wpAny (model P w) A' (pyIter (.ref src)) Q' E' z)(hv:∀ i v,Pv i v->∃ a o k x t u,v=.ref a/\s.heap.get? a=some o/\o.cls=.type "tuple"/\o.data=.seq #[.str x t,u] k/\more[i]?=some (Sum.inr x,u))(h:∀ g tk,g.DictOf (yy P w) s.heap.objs.size more->(∀ b o,s.heap.get? b=some o->g.get? b=some o)->Q (.ref s.heap.objs.size) {s with heap:=g,toks:=tk}) :
  wpAny (model P w) A (call (.type "dict") [.ref src]) Q E s:=by
 refine callType_codes (Q₁:=λZ z=>Z=.ref s.heap.objs.size/\z={s with heap:=s.heap.push {cls:=.type "dict",data:=.dict #[]}}) F.kt_called_dict (F.kt_typeCall_dict_1 _) F.entry_dict_init (kt_code_dict_new _ ⟨rfl,rfl⟩) ?_;rintro Z z ⟨rfl,rfl⟩;have new:(s.heap.push {cls:=.type "dict",data:=.dict #[]}).DictOf (yy P w) s.heap.objs.size []:=Heap.DictOf.new s.heap;have I:∀b u,s.heap.get? b=some u->(s.heap.push {cls:=.type "dict",data:=.dict #[]}).get? b=some u:=λb u e=>zac _ e;have a2:Shared.TypeIs {s with heap:=s.heap.push {cls:=.type "dict",data:=.dict #[]}} (.ref src) T:=by
  obtain⟨o,e,c⟩:=a6;exact⟨o,I _ _ e,c⟩
 refine⟨new.typeIs,F.args_dict_init_2 _ _,?_⟩;unfold Builtin.«dict.__init__»;refine zaa ?_;unfold Builtin.Dict.selfAndRest;refine zaa (wpAny_notOrdered_dict new.typeIs ?_);show wpAny _ _ (pure (s.heap.objs.size,[Value.ref src])) _ _ _;refine zab ?_;show wpAny _ _ (Builtin.Dict.updateFrom "dict.__init__" s.heap.objs.size (.ref src) [] .none) _ _ _;unfold Builtin.Dict.updateFrom;refine zaa (wpAny_typeOf a2 ?_);rw[if_pos hT];refine zaa (a0 _ _ _ _ (by simpa using hA) I λg tk q=>?_)
 rw[if_pos (show(Option.none:Option Value).isNone=true from rfl)];refine zaa (wpAny_rule (zaa (iter _ _ _ _ (λb u e=>q b u (I b u e)) λob St W st=>?_)));refine zab ⟨plainId_quiet wc _,?_⟩;have sz:s.heap.objs.size<g.objs.size:=by
  have e:=q s.heap.objs.size _ (zad _ rfl);exact zae e
 have q0:(g.push ob).DictOf (yy P w) s.heap.objs.size []:=by
  obtain⟨o,es,ep,ho,mm⟩:=new;exact⟨o,es,ep,zac _ (q _ _ ho),mm⟩
 have a5:s.heap.objs.size∉[g.objs.size,src]:=by
  simp only[zam,List.mem_singleton,List.not_mem_nil,or_false,not_or];exact⟨Nat.ne_of_lt sz,Nat.ne_of_gt a1⟩
 have j:∀b o,s.heap.get? b=some o->b≠s.heap.objs.size/\b∉[g.objs.size]:=λb o e=>by
  have lb:=zae e;refine⟨Nat.ne_of_lt lb,?_⟩;rw[List.mem_singleton];exact Nat.ne_of_lt (Nat.lt_trans lb sz)
 refine Po (h0:=s.heap) a8 a7 (W _ (by simpa using hA)) a5 hn (λi v hP=>?_) (n-0) 0 _ _ (by omega) (Nat.zero_le _) st (λb o _ _ e=>zac _ (q b o (I b o e))) q0 λg2 a4 q2 k2=>?_
 ·obtain⟨a,o,k,x,t,u,e1,e2,e3⟩:=hv i v hP;exact⟨a,o,k,x,t,u,e1,(j a o e2).1,(j a o e2).2,e2,e3⟩
 exact⟨rfl,h g2 a4 q2 λb o e=>k2 b o (j b o e).1 (j b o e).2 e⟩
def B6{a:List (Key×V)}{b:List (Key×Value)}(h:KV a b):b.map (·.1)=a.map (·.1):=by
 induction h with
 |nil=>rfl
 |cons h t ih=>rw[List.map_cons,List.map_cons,ih,h.1]
def call_dictT(hc:X.calm=true):ua X (.type "dict") (λxs H Q=>∃(p:Addr)(ys:List V)(Z:List (Str×V)),xs=[.ref p]/\H p=some (.tup ys)/\ys.length<=1000/\Sm X.K H ys (Z.map λq=>((Sum.inr q.1:Key),q.2))/\(Z.map (·.1)).Nodup/\∀l,H l=none->Q (.ref l) (upd H l (.dK (Z.map λq=>((Sum.inr q.1:Key),q.2))))):=by
 intro pn s σ H xs us Q I r h;obtain⟨p,ys,Z,rfl,hq,hn,hp,a5,q⟩:=h;obtain⟨u,rfl,rx⟩:=sf r;cases rx;obtain⟨its,o,k,rv,ho,a4,a2,b0⟩:=tupD I hq;have a0:its.length=ys.length:=rv.length.symm;have a9:p<s.heap.objs.size:=zae ho;have ex:∃more:List (Key×Value),KV (Z.map λq=>((Sum.inr q.1:Key),q.2)) more/\∀(j:Nat) v,its[j]?=some v->∃a o k x t u,v=.ref a/\s.heap.get? a=some o/\o.cls=.type "tuple"/\o.data=.seq #[.str x t,u] k/\more[j]?=some (Sum.inr x,u):=by
  clear a5 q a2 a0 hq hn
  induction rv generalizing Z with
  |nil =>
   cases Z with
   |nil=>exact⟨[],.nil,λj v e=>by simp at e⟩
   |cons a b=>cases hp
  |cons r1 r2 ih =>
   cases Z with
   |nil=>cases hp
   |cons kv Z =>
    cases hp with
    |cons h t =>
     obtain⟨more,k1,k2⟩:=ih _ t;obtain⟨b,rfl,sq⟩:=h;cases r1;obtain⟨ts,rt,⟨o,e1,e2,n,e3⟩,_⟩:=I.tuple sq;obtain⟨u1,u2,rfl,⟨t1,rfl⟩,a6⟩:=rt.two;refine⟨(Sum.inr kv.1,u2)::more,.cons ⟨rfl,a6⟩ k1,λj v h1=>?_⟩;cases j with
     |zero =>
      simp at h1;subst h1;exact⟨b,o,n,kv.1,t1,u2,rfl,e1,e2,e3,rfl⟩
     |succ j =>
      obtain⟨a',o',k',x',t',u',q1,q2,q3,q4,q5⟩:=k2 j v (by simpa using h1)
      exact⟨a',o',k',x',t',u',q1,q2,q3,q4,by simpa using q5⟩
 obtain⟨more,k1,k2⟩:=ex;have a1:more.map (·.1)=(Z.map λq=>((Sum.inr q.1:Key),q.2)).map (·.1):=B6 k1;have b9:(Z.map λq=>((Sum.inr q.1:Key),q.2)).length=more.length:=k1.length;have a7:ys.length=(Z.map λq=>((Sum.inr q.1:Key),q.2)).length:=hp.length;have hb:=I.big;refine S9 (more:=more) (by
  rw[a1,List.map_map];refine List.Pairwise.map _ ?_ (List.pairwise_map.mp a5);exact λa b h e=>h (Sum.inr.inj e)) (n:=its.toArray.size) (Pv:=λi v=>its.toArray[i]?=some v) (I.ok.hd hc) (by rw[zap,a0];exact hn) (by rw[zap];omega) ⟨_,ho,a4⟩ (by decide) a9 (λA' z E' Q' b3 kp hQ=>P8 (kp _ _ ho) a4 a2 b0 b3 hQ)
  (λA' z E' Q' kp hQ=>?_) (λi v e=>k2 i v (by simpa using e)) (λg tk qd kp=>?_)
 ·have hl:z.heap.IsTuple p its.toArray:=⟨_,kp _ _ ho,a4,k,a2⟩;have a8:p<z.heap.objs.size:=zae (kp _ _ ho);exact wpAny_pyIter_tuple hl (hQ _ _ (λc0 b4=>Walks.tuple b4 _ p (Nat.ne_of_lt a8) its.toArray) ⟨⟨_,zad _ rfl,rfl,rfl⟩,hl.at λo' e=>zac _ e⟩)
 refine⟨.ref s.heap.objs.size,_,I.laid (o:=.dK _) (t':=tk) kp (zaj _) ?_,rfl,q _ I.fresh⟩;exact Qa (by rw[<- a7];exact zak hn (by decide)) (by simpa using(Nat.ne_of_gt hb)) k1 qd
variable{td te:TE}
def E1{a b:List (Key×V)}{x y:List (Key×Value)}(h:KV a x)(g:KV b y):KV (a++b) (x++y):=by
 induction h with
 |nil=>exact g
 |cons h t ih=>exact .cons h ih
def He{a:List (Key×V)}{b:List (Key×Value)}(h:KV a b):b.map (·.1)=a.map (·.1):=by
 induction h with
 |nil=>rfl
 |cons h t ih=>rw[List.map_cons,List.map_cons,ih,h.1]
def z0a(td te:TE):TE:=λσ H Q=>td σ H λx H1=>∃a kvs0,x=.ref a/\H1 a=some (.dK kvs0)/\te σ H1 λy H2=>∃b kvs more,y=.ref b/\a≠b/\H2 a=some (.dK kvs)/\H2 b=some (.dK more)/\kvs.length+more.length<=sizeLine/\((kvs++more).map (·.1)).Nodup/\Q .non (upd H2 a (.dK (kvs++more)))
def Cc(ho:PE X o td)(he:PE X e te)(m:M1 X o "update" apos e cpos):PE X (.Call (.Attribute o "update" apos) [e] [] cpos) (z0a td te):=by
 intro pn s σ H Q I h;refine wpAny_Call_method m.base m.few m.line PySem.F.plainAttrs_dict PySem.F.slot_dict_update PySem.F.type_dict_update (thn (ho pn s σ H _ I h) λu s1 ⟨x,H1,I1,rx,a,a5,ex,d,q1⟩=>?_);subst ex;obtain rfl:u=Value.ref a:=rx;obtain⟨t1,t2,_⟩:=E6 I1 (.inl ⟨_,.inl d⟩);refine⟨t1,t2,?_⟩;rw[m.trees];refine Calls.callWith_builtin rfl (Calls.evalArgs_plain (Calls.spliced_cons (thn (he pn s1 σ H1 _ I1 q1) λiv s2 ⟨y,H2,I2,ry,b,a6,more,ey,Z,ha,hb,hl,a0,q2⟩=>Calls.spliced_nil ?_)));subst ey;obtain rfl:iv=Value.ref b:=ry;obtain⟨z1,a4,ks,j,d1⟩:=A2 I2.hok ha;obtain⟨z2,a2,ms,r2,d2⟩:=A2 I2.hok hb;refine call_meetsIn PySem.F.slot_dict_update d1.typeIs PySem.F.entry_dict_update (PySem.F.args_dict_update_2 _ _) (meets_dict_update (yy X.prog X.w) a b Z a2) ⟨ks,ms,d1,d2,by rw[<- j.length,<- r2.length];exact hl,λh' dd a7 sb=>?_⟩
 have e:merged ks ms=ks++ms:=merged_append_of_fresh ks ms (by rw[He (E1 j r2)];exact a0)
 rw[e]at dd;have a1:∃q,h'.get? a=some q:=let ⟨q,_,_,hq,_⟩:=dd;⟨q,hq⟩
 exact⟨.non,_,A3 (t':=s2.toks) I2 (by rw[ha];exact True.intro) sb a1 (Qa (by rw[zLa];exact hl) a4 (E1 j r2) dd),rfl,q2⟩
variable{te:TD}
def Dr(i:Nat)(te:TD):TDS:=λL Z=>match slot L i with
 | some ⟨.own,.dk ks ds⟩=>te L λr=>(match r.k with|.own=>False|_=>True)/\(match r.d with
  |.dk ks' ds'=>ks.length+ks'.length<=100000/\(ks++ks').Nodup/\Z.nx (setS L i (dO (.dk (ks++ks') (ds++ds'))))
  | _=>False)
 |_=>False
theorem Uj{α j:Type}:∀(a:List α)(x:List j)(b:List α)(y:List j),a.length=x.length->(a++b).zip (x++y)=a.zip x++b.zip y
 |[],[],_,_,_=>rfl
 |_::_,[],_,_,h=>by cases h
 |[],_::_,_,_,h=>by cases h
 |a::as,x::xs,b,y,h=>by
  show(a,x)::(as++b).zip (xs++y)=(a,x)::(as.zip xs++b.zip y);rw[Uj as xs b y (by simpa using h)]
def Do(i:Nat)(he:ED Y X e te)(hN:X.N[i]?=some x:=by rfl)(hv:Vis X.env.scope x:=by walk_at "o")(hd:D_ x:=by decide)(a6:(x==("__classdict__" : Str))=false:=by decide)(hp:∀ {ta tb:TE},PE X (.Name x np) ta->PE X e tb->PS X (.Expr (.Call (.Attribute (.Name x np) "update" apos) [e] [] cpos) pos) (D7 (z0a ta tb)):=by
   intro ta tb h1 h2;exact kz (Cc h1 h2 ⟨rfl,rfl,rfl,rfl⟩)):SD Y X (.Expr (.Call (.Attribute (.Name x np) "update" apos) [e] [] cpos) pos) (Dr i te):=λH_ =>
 impS (hp (rk hN hv hd a6) (he H_)) λD σ H h=>by
  obtain⟨L,o,R,Z,hZ,k1,k2,k3,k4⟩:=h;unfold Dr at hZ;split at hZ
  ·rename_i ks ds es;obtain⟨v0,a1,q0⟩:=R.slots i _ (uw es);rcases q0 with⟨k,_⟩|⟨_,a,rfl,m,c⟩
   ·cases k
   obtain⟨xs,hx,hl,nd,rx⟩:=c;refine⟨.ref a,a1,a,_,rfl,hx,L,o,R,_,hZ,λv r H1 s1 rv h1=>?_⟩;obtain⟨h0,h1⟩:=h1;obtain⟨kd,d⟩:=r;cases d with
   |dk ks' ds' =>
    obtain⟨I,j,h1⟩:=h1;obtain⟨b,ys,rfl,q,nb,a0,a7,rp⟩:=rv.solid (tm h0);have a4:=s1 _ _ hx;have a2:=Reps.grow (Grow.same s1) _ _ rx;have xl:ks.length=xs.length:=by rw[hl,rx.length]
    have yl:ks'.length=ys.length:=by rw[a0,rp.length]
    have a5:a≠b:=λz=>nb (z▸zah.mpr ⟨_,m,rfl⟩);refine⟨b,_,_,rfl,a5,a4,q,?_,?_,?_⟩
    ·rw[List.length_zip,List.length_zip,<- xl,<- yl,Nat.min_self,Nat.min_self];exact zak I (by decide)
    ·rw[<- Uj ks xs ks' ys xl,gx _ _ (by rw[zLa,zLa,xl,yl])]
     exact j
    rw[<- Uj ks xs ks' ys xl];obtain⟨R3,g3⟩:=(R.to s1).chg (d':=.dk (ks++ks') (ds++ds')) (ho:=.dK ((ks++ks').zip (xs++ys))) (uw es) a1 m ⟨λ_ z=>(by cases z),λ_ _ z=>(by cases z)⟩ λgr =>
     ⟨xs++ys,zu,by rw[zLa,zLa,hl,a0],j,gr _ _ (a2.append rp)⟩
    exact k1 _ σ _ o ((Grow.same s1).trans g3) R3 h1
   |_=>exact h1.elim
  exact hZ.elim
def sDictT:FT:=λxs U=>match xs with
 |[.tup l]=>∃(ks:List Str)(ds:List D),l=Zr (ks.map Sum.inr) ds/\ks.length=ds.length/\ks.length<=1000/\ks.Nodup/\U (df (.dk (ks.map Sum.inr) ds))
 |_=>False
def O1{j:Type}(ks:List Str)(xs:List j):(ks.zip xs).map (λq=>((Sum.inr q.1:Key),q.2))=(ks.map Sum.inr).zip xs:=by
 induction ks generalizing xs with
 |nil=>rfl
 |cons k ks ih =>
  cases xs with
  |nil=>rfl
  |cons x xs=>rw[List.zip_cons_cons,List.map_cons,ih,List.map_cons,List.zip_cons_cons]
def G6(hm:X.mg "dict" = none)(ha:EA Y X (e::es) t)(hc:X.calm=true:=by rfl)(hg:Gl X "dict":=by rfl)(he:S_ X e es:=by rfl)(I:B_ X es pos:=by rfl):ED Y X (.Call (.Name "dict" p) (e::es) [] pos) (dCB sDictT t) :=
 vo (ZZ.call_dictT hc) (λH O ds vs U Q ho hv h k=>by
  unfold sDictT at h;split at h
  ·obtain⟨ks,ds,rfl,hl,Z,nd,h⟩:=h;obtain⟨v,ws,rfl,⟨a,xs,rfl,q,r⟩,rfl⟩:=hv;obtain⟨zs,h1,h2⟩:=kq (ks.map Sum.inr) ds xs (by rw[zLm];exact hl) r
   have hz:ks.length=zs.length:=by rw[hl,h2.length]
   have hi:(ks.map (Sum.inr:Str->Key)).Nodup:=List.Pairwise.map _ (λa b h e=>h (Sum.inr.inj e)) nd;refine⟨a,xs,ks.zip zs,rfl,q.2,?_,by rw[O1];exact h1,by rw[gx ks zs hz];exact nd,λp j=>k _ (df (.dk _ _)) _ (yh j _) ⟨p,rfl,j,ho p j,zs,by rw[O1];exact zu,by rw[zLm];exact hl,hi,Reps.grow (gy j) _ _ h2⟩ h⟩
   have:=h1.length;rw[List.length_zip,zLm]at this;omega
  exact h.elim) hm jd ha hg (by decide) (by decide) he I
def fu{K:W.Frag}{H:Hp}{O:List Addr}:∀{ns:List Str}{xs:List V},Reps K H O (ns.map D.str) xs->xs=ns.map V.str
 |[],_,h=>h
 |n::ns,xs,h=>by
  obtain⟨v,r,rfl,q,t⟩:=h;cases (show v=_ from q);rw[fu t];rfl
section
def Cy(ns:List Str):ZZ.many ns<=ns.length:=by
 have:=ZZ.fold_dd_le ns [];unfold ZZ.many;simpa using this
def Lr:bootBuiltins "set" = some (.type "set"):=by kernel_rfl
end
section
variable{p p2 pos2:Pos}
def Qb(te:TD):TD:=λL U=>te L λr=>match r.d with
 |.lst ds=>∃ns:List Str,ds=ns.map D.str/\ns.length<=1000/\U (dv (.int (ZZ.many ns)))
 |_=>False
def Pl(hm:X.mg "len" = none)(a0:X.mg "set" = none)(he:ED Y X e te)(hc:X.calm=true:=by rfl)(hg:Gl X "len":=by rfl)(a1:Gl X "set":=by rfl)(h1:starEach [e] X.env=(false,eval e X.env)::starEach [] X.env:=by rfl)(h2:starEach [.Call (.Name "set" p2) [e] [] pos2] X.env=(false,eval (.Call (.Name "set" p2) [e] [] pos2) X.env)::starEach [] X.env:=by rfl)(Z:(backTo pos2 (starEach [] X.env)).any (·.1)=false:=by rfl)(I:(backTo pos (starEach [] X.env)).any (·.1)=false:=by rfl) :
  ED Y X (.Call (.Name "len" p) [.Call (.Name "set" p2) [e] [] pos2] [] pos) (Qb te):=λH_ =>
 impE (t6 ZZ.call_len_setO hg hm PySem.boot_len (xw (Wk (ZZ.call_set_strs hc) a1 a0 Lr (xw (he H_) vh h1) (by decide) (by decide) h1 Z) vh h2) (by decide) (by decide) h2 I) λσ H Q q=>by
  obtain⟨L,oo,R,U,j,kk⟩:=q;refine⟨L,oo,R,_,j,λv r H1 s1 rv h1=>?_⟩;obtain⟨kd,d⟩:=r;cases d with
  |lst ds =>
   obtain⟨ns,rfl,hn,h1⟩:=h1;obtain⟨a,xs,rfl,q,rp⟩:=rv.view;cases fu rp;refine⟨a,ns,rfl,SqL.of q,hn,λl hl=>⟨l,_,rfl,zu,zak (Cy ns) hn,?_⟩⟩;exact kk _ (dv (.int (ZZ.many ns))) _ (s1.trans (yh hl _)) (by exact rfl) h1
  |_=>exact h1.elim
def sListW:FT:=λds U=>match ds with
 |[.lst l]=>U (df (.lst l))
 |[.cn (.tup cs)]=>U (df (.lst (cs.map cstD)))
 |_=>False
def G4(hm:X.mg "list" = none)(ha:EA Y X (e::es) t)(hg:Gl X "list":=by rfl)(he:S_ X e es:=by rfl)(j:B_ X es pos:=by rfl):ED Y X (.Call (.Name "list" p) (e::es) [] pos) (dCB sListW t) :=
 vo Vx (λH O ds vs U Q ho I h k=>by
  unfold sListW at h;split at h
  ·obtain⟨v,Z,rfl,⟨a,xs,rfl,q,r⟩,rfl⟩:=I;exact⟨a,xs,rfl,.inl (SqL.of q),λl hl=>k _ _ _ (yh hl _) (fk ho hl r) h⟩
  ·rename_i cs;obtain⟨v,Z,rfl,h1,rfl⟩:=I;obtain⟨a,xs,rfl,q,cr⟩:=Qd (H:=H) (show CRep X.K (.tup cs) v from h1);exact⟨a,xs,rfl,.inr q,λl hl=>k _ _ _ (yh hl _) (fk ho hl (gm cr)) h⟩
  exact h.elim) hm boot_list' ha hg (by decide) (by decide) he j
end
def Bm{K:W.Frag}(i j l m:Nat):bu K (gTup K 4 (bz (j8 i) (bz (j8 j) (bz (j8 l) (bz (j8 m) gNil))))) (gT4 i j l m):=λH_ H σ L o d v N Q R h I k=>by
 unfold gT4 at I;split at I
 ·rename_i a b c e;obtain⟨p,xs,rfl,q,r⟩:=h;obtain⟨v1,r1,rfl,h1,v2,r2,rfl,h2,v3,r3,rfl,h3,Z,r4,rfl,h4,rfl⟩:=r;refine⟨p,_,rfl,q.1,rfl,v1,_,rfl,v2,_,rfl,v3,_,rfl,Z,_,rfl,rfl,?_⟩;exact k _ _ ((((R.setV i h1).setV j h2).setV l h3).setV m h4) I
 exact I.elim
section
variable{p:Pos}
def Zm{K:W.Frag}{H:Hp}{O:List Addr}:∀{ns:List Int}{xs:List V},Reps K H O (ns.map D.int) xs->xs=ns.map V.int
 |[],_,h=>h
 |n::ns,xs,h=>by
  obtain⟨v,r,rfl,q,t⟩:=h;cases (show v=_ from q);rw[Zm t];rfl
theorem Qi:∀ns:List Int,((ns.map V.int).any λy=>jt y==some true)=ns.any λn=>n != 0
 |[]=>rfl
 |n::ns=>by
  rw[List.map_cons,List.any_cons,List.any_cons,Qi ns];have j:(jt (.int n)==some true)=(n != 0):=by
   show((some (n != 0):Option Bool)==some true)=(n != 0);cases (n != 0) <;> rfl
  rw[j]
def sAnyI:FT:=λds U=>match ds with
 |[.tup l]=>∃ns:List Int,l=ns.map D.int/\U (dv (.bl (ns.any λn=>n != 0)))
 |_=>False
def A1(hm:X.mg "any" = none)(ha:EA Y X (e::es) t)(hc:X.calm=true:=by rfl)(hg:Gl X "any":=by rfl)(he:S_ X e es:=by rfl)(j:B_ X es pos:=by rfl):ED Y X (.Call (.Name "any" p) (e::es) [] pos) (dCB sAnyI t) :=
 fc (Vz hc) (λH O ds vs U Q ho Z h k=>by
  unfold sAnyI at h;split at h
  ·obtain⟨ns,rfl,h⟩:=h;obtain⟨v,ws,rfl,⟨a,xs,rfl,q,r⟩,rfl⟩:=Z;cases Zm r;refine⟨a,_,rfl,.inr q.1,λy I=>?_,?_⟩
   ·obtain⟨b,_,rfl⟩:=zah.mp I;rfl
   show Q (.bl ((ns.map V.int).any λy=>jt y==some true)) H;rw[Qi ns];exact k _ _ H (Same.refl H) (by exact rfl) h
  exact h.elim) hm (by kernel_rfl) ha hg (by decide) (by decide) he j
end
section
open PySem PySem.Spec PySem.W PyProof.Rows
def z5h(D:Addr)(i n ep:Nat)(q j Z I:Value):Obj:={cls:=.type "dict_itemiterator",dict:=none,data:=.fields #[q,j,.ref D,.int i 0,.int n 0,.int ep 0,Z,I],slots:=#[]}
def RawJ(h:Heap)(J D:Addr)(i n j:Nat):Prop:=∃x0 x1 o1 o2,h.get? J=some (z5h D i n j x0 x1 o1 o2)/\((x0=.none/\x1=.bool false)\/∃(b:Addr)(f:Bool)(ob:Obj),x0=rawInt b/\x1=.bool f/\h.get? b=some ob/\b≠J)
def z5a(e:DictEntry):Obj:={cls:=.type "tuple",data:=.seq #[e.key,e.val]}
def RawJ.lt{J D:Addr}(y:RawJ h J D i n ep):J<h.objs.size:=let ⟨_,_,_,_,e,_⟩:=y;zae e
def K2(h:Heap)(q:Array DictEntry)(J:Addr)(I:List Addr):Prop:=(∀a∈I,J<a)/\I.Nodup/\∀(j:Nat) a,I[j]?=some a->∃e,q[j]?=some e/\h.get? a=some (z5a e)
def K2.lt{h:Heap}{q:Array DictEntry}{J a:Addr}{I:List Addr}(p:K2 h q J I)(m:a∈I):a<h.objs.size:=by
 obtain⟨j,Z⟩:=List.getElem?_of_mem m;obtain⟨e,_,g⟩:=p.2.2 j a Z;exact zae g
def M9(j:Array Value)(c:Nat):Obj:={cls:=.type "list",dict:=none,data:=.seq j c,slots:=#[]}
def updM(H:Hp):List (Addr×HO)->Hp
 |[]=>H
 |p::ps=>upd (updM H ps) p.1 p.2
def Y9{b:Addr}:∀{ps:List (Addr×HO)},b∉ps.map Prod.fst->updM H ps b=H b
 |[],_=>rfl
 |p::ps,h=>by
  rw[List.map_cons,zam,not_or]at h;rw[updM,zv h.1];exact Y9 h.2
theorem gd:∀{ps:List (Addr×HO)}{p:Addr×HO},(ps.map Prod.fst).Nodup->p∈ps->updM H ps p.1=some p.2
 |[],_,_,h=>nomatch h
 |q::ps,p,nd,h=>by
  rw[List.map_cons,List.nodup_cons]at nd;rcases zam.mp h with rfl|h
  ·exact zu
  rw[updM,zv]
  ·exact gd nd.2 h
  intro z;exact nd.1 (z▸List.mem_map_of_mem h)
def W5(I:Inv X pn σ H s)(j:∀ p∈ps,s.heap.objs.size<=p.1):Same H (updM H ps):=λb u e=>by
 rw[Y9]
 ·exact e
 intro q;obtain⟨p,mp,Z⟩:=zah.mp q;have h1:s.heap.objs.size<=p.1:=j p mp;have h2:b<s.heap.objs.size:=I.hok.lt e;rw[Z]at h1;exact absurd h2 (Nat.not_lt.mpr h1)
def Inv.laidM(I:Inv X pn σ H s)(k:∀ b u,s.heap.get? b=some u->h'.get? b=some u)(nd:(ps.map Prod.fst).Nodup)(Z:∀ p∈ps,s.heap.objs.size<=p.1)(j:∀ p∈ps,wf X.prog X.w (updM H ps) h' p.1 p.2):Inv X pn σ (updM H ps) {s with heap:=h',toks:=t'}:=by
 have same:=W5 I Z;refine I.un ⟨λb u q _ _ _=>k b u q,λb u q _ _ _=>⟨u.slots,k b u q⟩,λb u q n _=>?_,λb u q _=>⟨u,k b u q⟩,λb xs q=>same _ _ q,λb o u q=>same _ _ q,λb qs q=>⟨#[],by rw[same _ _ q];simp⟩⟩ λb u e=>?_
 ·rw[Y9]
  ·exact n
  intro hm;obtain⟨p,mp,ep⟩:=zah.mp hm;have h1:s.heap.objs.size<=p.1:=Z p mp;have h2:b<s.heap.objs.size:=zae q;rw[ep]at h1;exact absurd h2 (Nat.not_lt.mpr h1)
 by_cases hb:b∈ps.map Prod.fst
 ·obtain⟨p,mp,rfl⟩:=zah.mp hb;rw[gd nd mp]at e;cases e;exact j p mp
 rw[Y9 hb]at e;exact(I.hok b u e).stay (λc o _ q=>k c o q) (λc q=>same _ _ q) λc xs q=>same _ _ q
end
def Gj{α:Type}{a:Addr}{k:Option Obj->Sem α}{Q:α->Shared->Prop}{E:Value->Shared->Prop}{s:Shared}(h:wpAny M A (k (s.heap.get? a)) Q E s):wpAny M A (Sem.loadIfAlive a k) Q E s:=λY p j=>by
 rw[Sem.wp_loadIfAlive];exact h Y p j
def ZipF(h:Heap)(z ti to a:Addr)(j:Bool):Prop:=h.get? z=some {cls:=.type "zip",dict:=none,data:=.fields #[rawInt a,.bool j,.bool false,.ref ti,.ref to],slots:=#[]}
def Mo{z ti to a:Addr}{j:Bool}{o:Obj}{Q:Bool->Shared->Prop}(hz:ZipF s.heap z ti to a j)(Z:s.heap.get? a=some o)(q:∀ g,ZipF g z ti to a true->Heap.SameBut z s.heap g->Q false {s with heap:=g}):wpAny (model P w) A (Builtin.SmallTypes.ownedTupleIsFree (.ref z)) Q E s:=by
 unfold Builtin.SmallTypes.ownedTupleIsFree;refine zaa (wpAny_field hz rfl (x:=rawInt a) rfl ?_);show wpAny _ _ (Sem.loadIfAlive (Int.toNat (a:Int)) _) _ _ _;refine Gj ?_;rw[Int.toNat_natCast,Z];show wpAny _ _ (field (.ref z) 1 >>= _) _ _ _;refine zaa (wpAny_field hz rfl (x:=.bool j) rfl ?_);cases j with
 |true=>exact zab (q s.heap hz (Heap.SameBut.refl _ _))
 |false =>
  show wpAny _ _ (setField (.ref z) 1 (.bool true) >>= _) _ _ _;refine zaa (wpAny_setField_rec hz (by simp) λg I s1=>?_)
  exact zab (q g I s1)
def O0{b1 b2:Bool}{z ti to i1 i2 l1 l2 a:Addr}{fb:Bool}{o:Obj}{k:Nat}{xs ys:Array Value}{x y:Value}{Q:Value->Shared->Prop}(n1:i1≠z)(n2:i2≠z)(j:i1≠i2)(nt:ti≠z)(a4:ti≠i1)(a0:l1≠z)(I:l2≠z)(Z:l2≠i1)(hz:ZipF s.heap z ti to a fb)(ha:s.heap.get? a=some o)(a1:IsPair s.heap ti (.ref i1) (.ref i2))(h1:ItAt b1 s.heap i1 l1 k)(h2:ItAt b2 s.heap i2 l2 k)(t1:SqAt b1 s.heap l1 xs)(t2:SqAt b2 s.heap l2 ys)(hx:xs[k]?=some x)(hy:ys[k]?=some y)(hQ:∀ g,ZipF g z ti to a true->ItAt b1 g i1 l1 (k+1)->ItAt b2 g i2 l2 (k+1)->IsPair g s.heap.objs.size x y->g.objs.size=s.heap.objs.size+1->(∀ c o,c≠z->c≠i1->c≠i2->s.heap.get? c=some o->g.get? c=some o)->Q (.ref s.heap.objs.size) {s with heap:=g}) :
  wpAny (model P w) A (Builtin.«zip.__next__» ⟨[.ref z],[]⟩) (λa2 s'=>∃v,a2=.done (.ret v)/\Q v s') E s:=by
 show wpAny _ _ (field (.ref z) 2 >>= _) _ _ _;refine zaa (wpAny_field hz rfl (x:=.bool false) rfl ?_);show wpAny _ _ (field (.ref z) 3 >>= _) _ _ _;refine zaa (wpAny_field hz rfl (x:=.ref ti) rfl ?_);refine zaa (wpAny_seqItems a1 rfl ?_);show wpAny _ _ (Builtin.SmallTypes.ownedTupleIsFree (.ref z) >>= _) _ _ _;refine zaa (Mo hz ha λg1 z1 s1=>?_);simp only[Bool.false_eq_true,if_false];refine zaa ?_;rw[<- Array.forIn_toList];simp only[List.forIn_cons,List.forIn_nil];refine zaa (zaa (wpAny_holding ?_));show wpAny _ _ (Builtin.SmallTypes.nextOf (.ref i1) >>= _) _ _ _;refine zaa (ur (h1.at λo e=>s1.extBut _ o n1 e) (t1.at λo e=>s1.extBut _ o a0 e) hx λg2 p2 s2=>zab (zab ?_));refine zaa (zaa (wpAny_holding ?_));show wpAny _ _ (Builtin.SmallTypes.nextOf (.ref i2) >>= _) _ _ _;refine zaa (ur (h2.at λo e=>s2.extBut _ o j.symm (s1.extBut _ o n2 e)) (t2.at λo e=>s2.extBut _ o Z (s1.extBut _ o I e)) hy λg3 p3 q=>zab (zab (zab ?_)));show wpAny _ _ (newTuple [x,y] >>= _) _ _ _;refine zaa (wpAny_newTuple ?_);have sz:g3.objs.size=s.heap.objs.size:=by rw[q.1,s2.1,s1.1]
 refine zab ⟨_,rfl,?_⟩;show Q (.ref g3.objs.size) _;rw[sz];have up:∀c o,c≠z->c≠i1->c≠i2->s.heap.get? c=some o->(g3.push {cls:=.type "tuple",data:=.seq #[x,y]}).get? c=some o:=λc o c1 c2 c3 e=>zac _ (q.extBut _ _ c3 (s2.extBut _ _ c2 (s1.extBut _ _ c1 e)));refine hQ _ (zac _ (q.extBut _ _ n2.symm (s2.extBut _ _ n1.symm z1))) ((p2.at λo e=>q.extBut _ o j e).at λo e=>zac _ e) (p3.at λo e=>zac _ e) ?_ (by rw[Heap.size_push,sz]) up
 have:=zad g3 (o:=({cls:=.type "tuple",data:=.seq #[x,y]}:Obj)) rfl;rw[sz]at this;exact this
def K5{b1 b2:Bool}{z ti to i1 i2 l1 l2 a:Addr}{o:Obj}{xs:Array Value}{Q:Fin->Shared->Prop}(hh:A.handled=none)(n1:i1≠z)(j:l1≠z)(hz:ZipF s.heap z ti to a fb)(ha:s.heap.get? a=some o)(I:IsPair s.heap ti (.ref i1) (.ref i2))(h1:ItAt b1 s.heap i1 l1 k)(Z:SqAt b1 s.heap l1 xs)(hx:xs[k]?=none)(hE:∀ g e,(∀ c o,c≠z->c≠i1->s.heap.get? c=some o->g.get? c=some o)->(∃ o,g.get? e=some o/\o.cls=.type "StopIteration")->E (.ref e) {s with heap:=g}) :
  wpAny (model P w) A (Builtin.«zip.__next__» ⟨[.ref z],[]⟩) Q E s:=by
 show wpAny _ _ (field (.ref z) 2 >>= _) _ _ _;refine zaa (wpAny_field hz rfl (x:=.bool false) rfl ?_);show wpAny _ _ (field (.ref z) 3 >>= _) _ _ _;refine zaa (wpAny_field hz rfl (x:=.ref ti) rfl ?_);refine zaa (wpAny_seqItems I rfl ?_);show wpAny _ _ (Builtin.SmallTypes.ownedTupleIsFree (.ref z) >>= _) _ _ _;refine zaa (Mo hz ha λg1 z1 s1=>?_);simp only[Bool.false_eq_true,if_false];refine zaa ?_;rw[<- Array.forIn_toList];simp only[List.forIn_cons,List.forIn_nil];refine zaa (zaa (wpAny_holding ?_));show wpAny _ _ (Builtin.SmallTypes.nextOf (.ref i1) >>= _) _ _ _;refine zaa (db hh (h1.at λo e=>s1.extBut _ o n1 e) (Z.at λo e=>s1.extBut _ o j e) hx λg2 e k2 he=>?_);exact hE g2 e (λc o c1 c2 q=>k2 c o c2 (s1.extBut _ _ c1 q)) he
def Qx{z ti to i1 i2 l1 l2 a:Addr}{o:Obj}{xs ys:Array Value}{x y:Value}{Q:Option Value->Shared->Prop}(n1:i1≠z)(n2:i2≠z)(q:i1≠i2)(nt:ti≠z)(j:ti≠i1)(a0:l1≠z)(I:l2≠z)(Z:l2≠i1)(hz:ZipF s.heap z ti to a fb)(ha:s.heap.get? a=some o)(a1:IsPair s.heap ti (.ref i1) (.ref i2))(h1:ItAt b1 s.heap i1 l1 k)(h2:ItAt b2 s.heap i2 l2 k)(t1:SqAt b1 s.heap l1 xs)(t2:SqAt b2 s.heap l2 ys)(hx:xs[k]?=some x)(hy:ys[k]?=some y)(hQ:∀ g,ZipF g z ti to a true->ItAt b1 g i1 l1 (k+1)->ItAt b2 g i2 l2 (k+1)->IsPair g s.heap.objs.size x y->g.objs.size=s.heap.objs.size+1->(∀ c o,c≠z->c≠i1->c≠i2->s.heap.get? c=some o->g.get? c=some o)->Q (some (.ref s.heap.objs.size)) {s with heap:=g}) :
  wpAny (model P w) A (pyNext (.ref z)) Q E s:=by
 have ty:s.TypeIs (.ref z) "zip":=⟨_,hz,rfl⟩;unfold pyNext;exact zaa (wpAny_attempt (wpAny_callSpecial?_slot (name:=Str.ofString "__next__") ty F.slot_zip_next (wpAny_call_entry F.slot_zip_next ty F.entry_zip_next (O0 n1 n2 q nt j a0 I Z hz ha a1 h1 h2 t1 t2 hx hy λg q1 q2 q3 q4 q5 q6=>zab (hQ g q1 q2 q3 q4 q5 q6)) (F.args_zip_next_1 _))))
def M3{z ti to i1 i2 l1 a:Addr}{o:Obj}{xs:Array Value}{Q:Option Value->Shared->Prop}(hh:A.handled=none)(Z:i1≠z)(j:l1≠z)(hz:ZipF s.heap z ti to a fb)(ha:s.heap.get? a=some o)(q:IsPair s.heap ti (.ref i1) (.ref i2))(h1:ItAt b1 s.heap i1 l1 k)(I:SqAt b1 s.heap l1 xs)(hx:xs[k]?=none)(hQ:∀ g,(∀ c o,c≠z->c≠i1->s.heap.get? c=some o->g.get? c=some o)->Q none {s with heap:=g}):wpAny (model P w) A (pyNext (.ref z)) Q E s:=by
 have ty:s.TypeIs (.ref z) "zip":=⟨_,hz,rfl⟩;unfold pyNext;refine zaa (wpAny_attempt (wpAny_callSpecial?_slot (name:=Str.ofString "__next__") ty F.slot_zip_next (wpAny_call_entry F.slot_zip_next ty F.entry_zip_next (K5 (b2:=b1) (l2:=l1) hh Z j hz ha q h1 I hx λg e kp he=>?_) (F.args_zip_next_1 _))));obtain⟨o,ho,hc⟩:=he;refine zaa (wpAny_isInstance (T:="StopIteration") (b:=true) ⟨o,ho,hc⟩ isSubtype_stop ?_);exact zab (hQ _ kp)
def u6(h:Heap)(xs ys:Array Value)(J:Addr)(q:List Addr):Prop:=(∀a∈q,J<a)/\q.Nodup/\∀(j:Nat) a,q[j]?=some a->∃x y,xs[j]?=some x/\ys[j]?=some y/\IsPair h a x y
def u6.lt{h:Heap}{xs ys:Array Value}{J a:Addr}{q:List Addr}(p:u6 h xs ys J q)(m:a∈q):a<h.objs.size:=by
 obtain⟨j,I⟩:=List.getElem?_of_mem m;obtain⟨x,y,_,_,g⟩:=p.2.2 j a I;exact zae g
def u6.alive{h:Heap}{xs ys:Array Value}{J a:Addr}{q:List Addr}(p:u6 h xs ys J q)(m:a∈q):∃o,h.get? a=some o:=by
 obtain⟨j,I⟩:=List.getElem?_of_mem m;obtain⟨x,y,_,_,g⟩:=p.2.2 j a I;exact⟨_,g⟩
def u6.to{h k:Heap}{xs ys:Array Value}{J:Addr}{as:List Addr}(p:u6 h xs ys J as)(f:∀ a o,a∈as->h.get? a=some o->k.get? a=some o):u6 k xs ys J as :=
 ⟨p.1,p.2.1,λj a e=>let ⟨x,y,e1,e2,g⟩:=p.2.2 j a e;⟨x,y,e1,e2,f a _ (zan e) g⟩⟩
def u6.snoc{h:Heap}{xs ys:Array Value}{J a:Addr}{q:List Addr}{x y:Value}(p:u6 h xs ys J q)(ha:J<a)(nm:a∉q)(ex:xs[q.length]?=some x)(ey:ys[q.length]?=some y)(g:IsPair h a x y):u6 h xs ys J (q++[a]):=by
 refine⟨λb hb=>?_,?_,λj b I=>?_⟩
 ·rcases zas.mp hb with m|m
  ·exact p.1 b m
  rw[List.mem_singleton.mp m];exact ha
 ·rw[List.nodup_append];refine⟨p.2.1,by simp,λx hx y Z z=>?_⟩
  rw[List.mem_singleton.mp Z]at z;subst z;exact nm hx
 by_cases hl:j<q.length
 ·rw[List.getElem?_append_left hl]at I;exact p.2.2 j b I
 have:j=q.length:=by
  have:=(zag.mp I).1;simp at this;omega
 subst this;have eb:a=b:=by simpa using I
 subst eb;exact⟨x,y,ex,ey,g⟩
def ZS(b1 b2:Bool)(z ti to i1 i2 l1 l2:Addr)(j:List Addr)(i:Nat)(h:Heap):Prop :=
 (i=0/\ZAt b1 b2 h z ti to i1 i2 l1 l2 .none 0)\/(∃a fb,a∈j/\ZipF h z ti to a fb/\IsPair h ti (.ref i1) (.ref i2)/\ItAt b1 h i1 l1 i/\ItAt b2 h i2 l2 i)
def ZS.to{b1 b2:Bool}{z ti to i1 i2 l1 l2:Addr}{q:List Addr}{i:Nat}{h g:Heap}(Z:ZS b1 b2 z ti to i1 i2 l1 l2 q i h)(k:∀ c o,(c=z\/c=ti\/c=to\/c=i1\/c=i2)->h.get? c=some o->g.get? c=some o):ZS b1 b2 z ti to i1 i2 l1 l2 q i g:=by
 rcases Z with⟨e,Z⟩|⟨a,fb,m,I,t1,p1,p2⟩
 ·obtain⟨zz,its,⟨a,b,j⟩,one,two⟩:=Z;exact .inl ⟨e,k _ _ (.inl rfl) zz,k _ _ (.inr (.inl rfl)) its,⟨a,b,k _ _ (.inr (.inr (.inl rfl))) j⟩,one.at λo e=>k _ o (.inr (.inr (.inr (.inl rfl)))) e,two.at λo e=>k _ o (.inr (.inr (.inr (.inr rfl)))) e⟩
 exact .inr ⟨a,fb,m,k _ _ (.inl rfl) I,k _ _ (.inr (.inl rfl)) t1,p1.at λo e=>k _ o (.inr (.inr (.inr (.inl rfl)))) e,p2.at λo e=>k _ o (.inr (.inr (.inr (.inr rfl)))) e⟩
variable{b1 b2:Bool}{z ti to i1 i2 l1 l2 S:Addr}{xs ys:Array Value}
def Er{I:List Addr}{i:Nat}{x y:Value}{Q:Option Value->Shared->Prop}(D:ZNe z ti to i1 i2)(d1:ZOff z to i1 i2 l1)(d2:ZOff z to i1 i2 l2)(Z:ZS b1 b2 z ti to i1 i2 l1 l2 I i s.heap)(pa:u6 s.heap xs ys S I)(t1:SqAt b1 s.heap l1 xs)(t2:SqAt b2 s.heap l2 ys)(hx:xs[i]?=some x)(hy:ys[i]?=some y)(hQ:∀ g,ZS b1 b2 z ti to i1 i2 l1 l2 (I++[s.heap.objs.size]) (i+1) g->IsPair g s.heap.objs.size x y->(∀ c o,ZOff z to i1 i2 c->s.heap.get? c=some o->g.get? c=some o)->Q (some (.ref s.heap.objs.size)) {s with heap:=g}) :
  wpAny (model P w) A (pyNext (.ref z)) Q E s:=by
 rcases Z with⟨rfl,Z⟩|⟨a,fb,m,z1,ht,p1,p2⟩
 ·refine Wt D d1 d2 Z t1 t2 hx hy λg j pr kp=>hQ g (.inr ⟨s.heap.objs.size,false,List.mem_append_right _ (List.mem_singleton.mpr rfl),j.zz,j.its,j.one,j.two⟩) pr kp
 obtain⟨o,ho⟩:=pa.alive m;refine Qx D.ad D.ae D.de D.ab D.bd d1.1 d2.1 d2.2.2.1 z1 ho ht p1 p2 t1 t2 hx hy λg q1 q2 q3 q4 q5 q6=>hQ g (.inr ⟨a,true,List.mem_append_left _ m,q1,q6 _ _ D.ab D.bd D.be ht,q2,q3⟩) q4 λc o q e=>q6 c o q.1 q.2.2.1 q.2.2.2 e
def An{as:List Addr}{i:Nat}{Q:Option Value->Shared->Prop}(hh:A.handled=none)(D:ZNe z ti to i1 i2)(d1:ZOff z to i1 i2 l1)(d2:ZOff z to i1 i2 l2)(Z:ZS b1 b2 z ti to i1 i2 l1 l2 as i s.heap)(pa:u6 s.heap xs ys S as)(j:SqAt b1 s.heap l1 xs)(t2:SqAt b2 s.heap l2 ys)(I:xs[i]?=none)(hQ:∀ g,(∀ c o,ZOff z to i1 i2 c->s.heap.get? c=some o->g.get? c=some o)->Q none {s with heap:=g}):wpAny (model P w) A (pyNext (.ref z)) Q E s:=by
 rcases Z with⟨rfl,Z⟩|⟨a,fb,m,z1,ht,p1,p2⟩
 ·exact Rq hh D d1 d2 Z j t2 (.inl I) hQ
 obtain⟨o,ho⟩:=pa.alive m;exact M3 hh D.ad d1.1 z1 ho ht p1 j I λg k=>hQ g λc o q e=>k c o q.1 q.2.2.1 e
def z4f{R:Result->Shared->Prop}(hh:A.handled=none)(D:ZNe z ti to i1 i2)(d1:ZOff z to i1 i2 l1)(d2:ZOff z to i1 i2 l2)(Z:z<S)(a9:ti<S)(a0:to<S)(a2:i1<S)(a1:i2<S)(a8:l1≠S)(a7:l2≠S)(b3:xs.size=ys.size)(hn:xs.size<=sizeLine){h0:Heap}(hR:∀ h' tk j c as,(∀ b o,b≠S->ZOff z to i1 i2 b->h0.get? b=some o->h'.get? b=some o)->h'.get? S=some (M9 j c)->as.length=xs.size->u6 h' xs ys S as->j.toList=as.map Value.ref->R (.ok (.ret .none)) {s with heap:=h',toks:=tk}) :
  ∀(m i:Nat)(h:Heap)(tk c:Nat)(j:Array Value)(as:List Addr),xs.size-i=m->i<=xs.size->ZS b1 b2 z ti to i1 i2 l1 l2 as i h->SqAt b1 h l1 xs->SqAt b2 h l2 ys->(∀b o,b≠S->ZOff z to i1 i2 b->h0.get? b=some o->h.get? b=some o) ->
   h.get? S=some (M9 j c)->j.toList=as.map Value.ref->as.length=i->u6 h xs ys S as ->
   codeAny (model P w) A (.builtin "list.extend.loop" ⟨[.ref S,.ref z,.none],[]⟩) R {s with heap:=h,toks:=tk}:=by
 have oS:ZOff z to i1 i2 S:=⟨Nat.ne_of_gt Z,Nat.ne_of_gt a0,Nat.ne_of_gt a2,Nat.ne_of_gt a1⟩;have oA:∀{a:Addr},S<a->ZOff z to i1 i2 a:=λq=>⟨Nat.ne_of_gt (Nat.lt_trans Z q),Nat.ne_of_gt (Nat.lt_trans a0 q),Nat.ne_of_gt (Nat.lt_trans a2 q),Nat.ne_of_gt (Nat.lt_trans a1 q)⟩;intro m
 induction m with
 |zero =>
  intro i h tk c j as hm hi y x1 x2 kp gS ea el I;have e:i=xs.size:=by omega
  subst e;refine codeAny_builtin PySem.F.entry_extend_loop (?_:_);rw[Around.under_plainId PySem.F.plain_extend_loop _];show wpAny _ A.in1 (pyNext (.ref z) >>= _) _ _ _;apply zaa;refine An (s:={s with heap:=h,toks:=tk}) (A:=A.in1) hh D d1 d2 y I x1 x2 (by simp) λh' eb=>?_
  exact zab (hR h' tk j c as (λb o b1 b2 q=>eb b o b2 (kp b o b1 b2 q)) (eb S _ oS gS) el (I.to λa o ma q=>eb a o (oA (I.1 a ma)) q) ea)
 |succ m ih =>
  intro i h tk c j as hm hi y x1 x2 kp gS ea el I;have lt:i<xs.size:=by omega
  obtain⟨x,ex⟩:∃k,xs[i]?=some k:=⟨xs[i],by simp[lt]⟩
  obtain⟨v,ev⟩:∃k,ys[i]?=some k:=⟨ys[i],by simp⟩
  have az:j.size=i:=by rw[<- Array.length_toList,ea,zLm,el]
  refine codeAny_builtin PySem.F.entry_extend_loop (?_:_);rw[Around.under_plainId PySem.F.plain_extend_loop _];show wpAny _ A.in1 (pyNext (.ref z) >>= _) _ _ _;apply zaa;refine Er (s:={s with heap:=h,toks:=tk}) D d1 d2 y I x1 x2 ex ev λh' y' t' k'=>?_
  dsimp only at y' t' k' ⊢
  have a5:=k' S _ oS gS;have lS:S<h.objs.size:=zae gS;have up:∀b o,b≠S->h'.get? b=some o->(h'.update S (Obj.mapSeq (·.push (Value.ref h.objs.size)))).get? b=some o:=λb o nb q=>(Heap.get?_update_other _ _ (Ne.symm nb)).trans q;have b0:(h'.update S (Obj.mapSeq (·.push (Value.ref h.objs.size)))).get? S=some (M9 (j.push (Value.ref h.objs.size)) _):=Heap.get?_update_self _ a5 rfl;show wpAny _ A.in1 (updateSeq S (·.push (Value.ref h.objs.size)) >>= _) _ _ _;apply zaa;refine wpAny_updateSeq a5 rfl (zab ⟨plainId_quiet PySem.F.plain_extend_loop _,?_⟩) (by rw[az];omega) (by show(j.push (Value.ref h.objs.size)).size<=sizeLine+1;rw[Array.size_push,az];omega)
  refine ih (i+1) _ tk _ (j.push (Value.ref h.objs.size)) (as++[h.objs.size]) (by omega) lt (y'.to λq o hq e=>up q o ?_ e) ((x1.at λo e=>k' l1 o d1 e).at λo e=>up l1 o a8 e) ((x2.at λo e=>k' l2 o d2 e).at λo e=>up l2 o a7 e)
   (λb o b1 b2 q=>up b o b1 (k' b o b2 (kp b o b1 b2 q))) b0 ?_ ?_ ?_
  ·rcases hq with rfl|rfl|rfl|rfl|rfl
   ·exact Nat.ne_of_lt Z
   ·exact Nat.ne_of_lt a9
   ·exact Nat.ne_of_lt a0
   ·exact Nat.ne_of_lt a2
   exact Nat.ne_of_lt a1
  ·rw[Array.toList_push,ea,zMa];rfl
  ·rw[zLa,el];rfl
  have a6:u6 h' xs ys S as:=I.to λa o ma q=>k' a o (oA (I.1 a ma)) q;have a4:=a6.snoc (a:=h.objs.size) lS (λq=>Nat.lt_irrefl _ (I.lt q)) (by rw[el];exact ex) (by rw[el];exact ev) t'
  refine a4.to λa o ma q=>up a o ?_ q;exact Nat.ne_of_gt (a4.1 a ma)
def Ql:typeLookup (.type "zip") "__len__" = pure none:=by rw[typeLookup_type,builtinLookup_eq_fast];kernel_rfl
def Ui:typeLookup (.type "zip") "__length_hint__" = pure none:=by rw[typeLookup_type,builtinLookup_eq_fast];kernel_rfl
def Hm{Q:Bool->Shared->Prop}(hT:s.TypeIs (.ref z) "zip")(h:Q true s):wpAny (model P w) A (Builtin.List.listLengthHint (.ref z)) Q E s:=by
 unfold Builtin.List.listLengthHint;refine zaa (wpAny_specialOf hT Ql ?_);show wpAny _ A (specialOf (Value.ref z) (Str.ofString "__length_hint__") >>= _) _ _ _;refine zaa (wpAny_specialOf hT Ui ?_);exact zab h
def Jq(hh:A.handled=none)(D:ZNe z ti to i1 i2)(d1:ZOff z to i1 i2 l1)(d2:ZOff z to i1 i2 l2)(Z:ZAt b1 b2 s.heap z ti to i1 i2 l1 l2 .none 0)(t1:SqAt b1 s.heap l1 xs)(t2:SqAt b2 s.heap l2 ys)(c0:xs.size=ys.size)(hn:xs.size<=sizeLine)(hQ:∀ h' tk a1 c as,(∀ b o,ZOff z to i1 i2 b->s.heap.get? b=some o->h'.get? b=some o)->h'.get? s.heap.objs.size=some (M9 a1 c)->as.length=xs.size->u6 h' xs ys s.heap.objs.size as->a1.toList=as.map Value.ref ->
   Q (.ref s.heap.objs.size) {s with heap:=h',toks:=tk}):wpAny (model P w) A (call (.type "list") [.ref z]) Q E s:=by
 refine callType_codes (Q₁:=λa9 a2=>a9=.ref s.heap.objs.size/\a2={s with heap:=s.heap.push {cls:=.type "list",data:=.seq #[]}}) PySem.F.called_list (PySem.F.typeCall_list_1 _) PySem.F.entry_list_init
  (code_list_new _ ⟨rfl,rfl⟩) λa9 a2 b0=>?_
 obtain⟨rfl,rfl⟩:=b0;have hS:(s.heap.push {cls:=.type "list",data:=.seq #[]}).get? s.heap.objs.size=some {cls:=.type "list",data:=.seq #[]}:=zad _ rfl;obtain⟨zz,its,⟨oa,ob,a7⟩,one,two⟩:=id Z;have lz:z<s.heap.objs.size:=zae zz;have b9:ti<s.heap.objs.size:=zae its;have b4:to<s.heap.objs.size:=zae a7;have li:∀{b:Bool}{it l:Addr}{i:Nat},ItAt b s.heap it l i->it<s.heap.objs.size:=λ{b it l i} q=>by
  cases b with
  |true=>obtain⟨o,e,_⟩:=(show s.heap.IsTupleIter it l i from q);exact zae e
  |false=>obtain⟨o,e,_⟩:=(show s.heap.IsListIter it l i from q);exact zae e
 have ls:∀{b:Bool}{l:Addr}{xs:Array Value},SqAt b s.heap l xs->l<s.heap.objs.size:=λ{b l xs} q=>by
  cases b with
  |true=>obtain⟨o,e,_⟩:=(show s.heap.IsTuple l xs from q);exact zae e
  |false=>obtain⟨o,e,_⟩:=(show s.heap.IsList l xs from q);exact zae e
 refine⟨⟨_,hS,rfl⟩,PySem.F.args_list_init_2 _ _,?_⟩;show wpAny _ _ (do let b3 <- Builtin.List.listItems (.ref s.heap.objs.size);Builtin.List.listUpdate (.ref s.heap.objs.size) (λ_=>#[]);letGo b3.toList.reverse;Builtin.List.listExtendWith (.ref s.heap.objs.size) (.ref z) .none) _ _ _
 apply zaa;unfold Builtin.List.listItems;apply zaa;refine wpAny_seqItems hS rfl (zab (?_:_));show wpAny _ _ (updateSeq s.heap.objs.size (λ_=>#[]) >>= λ_=>letGo (#[]:Array Value).toList.reverse >>= λ_=>Builtin.List.listExtendWith (.ref s.heap.objs.size) (.ref z) .none) _ _ _;apply zaa;refine wpAny_updateSeq hS rfl (?_:_);have I:=Heap.get?_update_self (Obj.mapSeq (λ_=>(#[]:Array Value))) hS rfl;have a8:∀b o,s.heap.get? b=some o->((s.heap.push {cls:=.type "list",data:=.seq #[]}).update s.heap.objs.size (Obj.mapSeq (λ_=>(#[]:Array Value)))).get? b=some o :=
  λb o e=>(Heap.get?_update_other _ _ (Nat.ne_of_gt (zae e))).trans (zac _ e)
 apply zaa;refine wpAny_letGo (?_:_);generalize (s.heap.push {cls:=.type "list",data:=.seq #[]}).update s.heap.objs.size (Obj.mapSeq (λ_=>(#[]:Array Value)))=g at *;have a5:IsZip g z ti to .none:=a8 z _ zz;unfold Builtin.List.listExtendWith;apply zaa;refine wpAny_typeOf (T:="zip") ⟨_,a5,rfl⟩ (?_:_);have h1:Builtin.List.listSameRef (.ref s.heap.objs.size) (.ref z)=false:=by simp[Builtin.List.listSameRef,Nat.ne_of_gt lz]
 simp only[h1,show(Value.type "zip"==Value.type "list")=false by decide,show(Value.type "zip"==Value.type "tuple")=false by decide,Bool.or_false,Bool.false_eq_true,if_false]
 apply zaa;refine wpAny_pyIter_zip a5 (?_:_);apply zaa;apply wpAny_holding;refine Hm ⟨_,a5,rfl⟩ (?_:_);have a4:∀(h:Heap)(c:Nat),(∀b o,b≠s.heap.objs.size->g.get? b=some o->h.get? b=some o)->h.get? s.heap.objs.size=some (M9 #[] c) ->
   codeAny (model P w) A.in1 (.builtin "list.extend.loop" ⟨[.ref s.heap.objs.size,.ref z,.none],[]⟩) (wants (λr a6=>r=Value.none/\Q (Value.ref s.heap.objs.size) a6) E) {s with heap:=h,toks:=s.toks}:=λh c hk a0=>by
  have up:∀b o,s.heap.get? b=some o->h.get? b=some o:=λb o e=>hk b o (Nat.ne_of_lt (zae e)) (a8 b o e);refine z4f (s:=s) (h0:=s.heap) (A:=A.in1) (b1:=b1) (b2:=b2) (S:=s.heap.objs.size) (ys:=ys) hh D d1 d2 lz b9 b4 (li one) (li two) (Nat.ne_of_lt (ls t1)) (Nat.ne_of_lt (ls t2)) c0 hn (λh' tk a1 c as kp gS el pa ea=>?_) xs.size 0 _ _ _ #[] [] (Nat.sub_zero _) (Nat.zero_le _)
   (.inl ⟨rfl,up _ _ zz,up _ _ its,⟨oa,ob,up _ _ a7⟩,one.at λo e=>up _ o e,two.at λo e=>up _ o e⟩) (t1.at λo e=>up _ o e) (t2.at λo e=>up _ o e) (λb o _ _ e=>up b o e) a0 rfl rfl ⟨(λ_ q=>nomatch q),List.nodup_nil,λj a e=>by simp at e⟩
  exact⟨rfl,hQ h' tk a1 c as (λb o q e=>kp b o (Nat.ne_of_lt (zae e)) q e) gS el pa ea⟩
 refine wpAny_ite_split (λ_=>?_) (λ_=>zab ⟨plainId_quiet PySem.F.plain_extend_loop _,a4 _ _ (λb o _ e=>e) I⟩);apply zaa;apply wpAny_rule;apply zaa;show wpAny _ _ (updateSeq s.heap.objs.size (·.push .none) >>= λ_=>updateSeq s.heap.objs.size (·.pop)) _ _ _;apply zaa;refine wpAny_updateSeq I rfl (?_:_);have a0:=Heap.get?_update_self (Obj.mapSeq (·.push Value.none)) I rfl;refine wpAny_updateSeq (hz:=by seq_fits) a0 rfl (?_:_)
 have c1:=Heap.get?_update_self (Obj.mapSeq (·.pop)) a0 rfl;refine zab ⟨plainId_quiet PySem.F.plain_extend_loop _,a4 _ _ (λb o hb e=>?_) c1⟩;exact(Heap.get?_update_other _ _ (Ne.symm hb)).trans ((Heap.get?_update_other _ _ (Ne.symm hb)).trans e)
def Kj(K:W.Frag)(ta:TA):TE:=λσ H Q=>ta σ H λvs H1=>∃l1 l2 xs ys,vs=[.ref l1,.ref l2]/\SqK true K H1 l1 xs/\SqK true K H1 l2 ys/\xs.length=ys.length/\xs.length<=1000 /\
 ∀(l:Addr)(H':Hp)(as:List Addr),Same H1 H'->H1 l=none->H' l=some (.lst (as.map V.ref))->as.length=xs.length->(∀(j:Nat) b,as[j]?=some b->∃x y,xs[j]?=some x/\ys[j]?=some y/\H' b=some (.tup [x,y]))->Q (.ref l) H'
def O7{xs:List V}(h:Vals xs us):∀{j:Nat}{u:Value},us[j]?=some u->∃x,xs[j]?=some x/\RelV x u:=by
 induction h with
 |nil=>intro j u e;simp at e
 |cons h t ih =>
  intro j u e;cases j with
  |zero=>simp at e;subst e;exact⟨_,rfl,h⟩
  |succ j =>
   obtain⟨x,I,q⟩:=ih (j:=j) (u:=u) (by simpa using e)
   exact⟨x,by simpa using I,q⟩
def Qs{ta:TA}(hc:X.calm=true)(hg:Gl X "list")(hm:X.mg "list" = none)(a9:Gl X "zip")(a8:X.mg "zip" = none)(ha:PA X [a,b] ta)(h1:starEach [.Call (.Name "zip" p2) [a,b] [] pos2] X.env=(false,eval (.Call (.Name "zip" p2) [a,b] [] pos2) X.env)::starEach [] X.env:=by rfl)(he:starEach [a,b] X.env=(false,eval a X.env)::starEach [b] X.env:=by rfl)(a7:(backTo pos2 (starEach [b] X.env)).any (·.1)=false:=by rfl) :
  PE X (.Call (.Name "list" p) [.Call (.Name "zip" p2) [a,b] [] pos2] [] pos) (Kj X.K ta):=by
 intro pn s σ H Q I h;refine wpAny_Call_Name_kw (qo I hg hm ZZ.boot_list' ?_ (by decide) (by decide))
 refine PyProof.Rows.callWith_type1 ?_ h1 (by rfl)
 rw[h1];show wpAny _ _ (spliced ((false,eval _ X.env)::backTo pos (starEach [] X.env))) _ _ s;refine Calls.spliced_cons ?_;refine wpAny_Call_Name_kw (qo I a9 a8 U2 ?_ (by decide) (by decide))
 refine PyProof.Rows.callWith_type1 (thn (ha pos2 pn s σ H _ I h) λus s1 ⟨vs,H1,I1,r1,l1,l2,xs,ys,e,e1,e2,hl,hn,q⟩=>?_) he a7;subst e;obtain⟨u,v,rfl,ru,rv⟩:=Ke r1;cases ru;cases rv;obtain⟨a6,r1,g1⟩:=Wc I1 e1;obtain⟨a5,r2,g2⟩:=Wc I1 e2;refine So (xs:=a6.toArray) (ys:=a5.toArray) g1 g2 λg Z kp=>Calls.spliced_nil ?_;have D:ZNe (s1.heap.objs.size+4) (s1.heap.objs.size+2) (s1.heap.objs.size+3) s1.heap.objs.size (s1.heap.objs.size+1):=by
  constructor <;> (intro z;exact absurd (show(_:Nat)=_ from z) (by omega))
 have a1:∀{c:Addr},c<s1.heap.objs.size->ZOff (s1.heap.objs.size+4) (s1.heap.objs.size+3) s1.heap.objs.size (s1.heap.objs.size+1) c:=λ{c} q=>⟨Nat.ne_of_lt (Nat.lt_of_lt_of_le q (Nat.le_add_right _ _)),Nat.ne_of_lt (Nat.lt_of_lt_of_le q (Nat.le_add_right _ _)),Nat.ne_of_lt q,Nat.ne_of_lt (Nat.lt_of_lt_of_le q (Nat.le_add_right _ _))⟩;have a4:∀{l:Addr}{its:List Value},SqAt true s1.heap l its.toArray->l<s1.heap.objs.size:=λq=>by
  obtain⟨o,e,_⟩:=(show s1.heap.IsTuple _ _ from q);exact zae e
 have big:s1.heap.objs.size+4<g.objs.size:=zae Z.zz;have n1:=r1.length;have n2:=r2.length;refine Jq (s:={s1 with heap:=g}) (A:=X.A) (I1.ok.hd hc) D (a1 (a4 g1)) (a1 (a4 g2)) Z (g1.at λo e=>kp _ o e) (g2.at λo e=>kp _ o e) (by rw[zap,zap];omega) (by rw[zap,<- n1];exact zak hn (by decide)) λh' tk b3 c as a0 gS el pa ea=>?_
 dsimp only at a0 gS pa ⊢
 have a2:∀b o,s1.heap.get? b=some o->h'.get? b=some o:=λb o e=>a0 b o (a1 (zae e)) (kp b o e);have ix:∀(j:Nat) b,as[j]?=some b->∃x y u v,xs[j]?=some x/\ys[j]?=some y/\RelV x u/\RelV y v/\IsPair h' b u v:=λj b ej=>by
  obtain⟨u,v,eu,ev,pr⟩:=pa.2.2 j b ej;obtain⟨x,ex,rx⟩:=O7 r1 (by simpa using eu)
  obtain⟨y,ey,ry⟩:=O7 r2 (by simpa using ev)
  exact⟨x,y,u,v,ex,ey,rx,ry,pr⟩
 obtain⟨f,hf⟩:∃f:Addr->V×V,∀(j:Nat) b,as[j]?=some b->∃u v,xs[j]?=some (f b).1/\ys[j]?=some (f b).2/\RelV (f b).1 u/\RelV (f b).2 v/\IsPair h' b u v:=by
  have:∀b:Addr,∃p:V×V,∀(j:Nat),as[j]?=some b->∃u v,xs[j]?=some p.1/\ys[j]?=some p.2/\RelV p.1 u/\RelV p.2 v/\IsPair h' b u v:=λb=>by
   by_cases hb:b∈as
   ·obtain⟨j,ej⟩:=List.getElem?_of_mem hb;obtain⟨x,y,u,v,t1,t2,t3,t4,t5⟩:=ix j b ej;refine⟨(x,y),λj' b0=>?_⟩;have:j'=j:=by
     obtain⟨l1,e1⟩:=zag.mp b0;obtain⟨l2,e2⟩:=zag.mp ej;exact(List.getElem_inj pa.2.1).mp (e1.trans e2.symm)
    subst this;exact⟨u,v,t1,t2,t3,t4,t5⟩
   exact⟨(.non,.non),λj ej=>absurd (zan ej) hb⟩
  exact⟨λb=>(this b).choose,λj b ej=>(this b).choose_spec j ej⟩
 have nd:((((g.objs.size:Addr),HO.lst (as.map V.ref))::as.map λb=>(b,HO.tup [(f b).1,(f b).2])).map Prod.fst).Nodup:=by
  rw[List.map_cons,List.map_map,List.nodup_cons];have e1:as.map (Prod.fst ∘ λb=>(b,HO.tup [(f b).1,(f b).2]))=as:=by
   rw[show(Prod.fst ∘ λb=>(b,HO.tup [(f b).1,(f b).2]))=id from rfl,List.map_id]
  rw[e1];exact⟨λm=>Nat.lt_irrefl _ (pa.1 _ m),pa.2.1⟩
 have gb:(s1.heap.objs.size:Nat)<=g.objs.size:=by have:(s1.heap.objs.size+4:Nat)<g.objs.size:=big;omega
 have hp:∀p∈((g.objs.size:Addr),HO.lst (as.map V.ref))::as.map (λb=>(b,HO.tup [(f b).1,(f b).2])),s1.heap.objs.size<=p.1:=λp mp=>by
  rcases zam.mp mp with rfl|mp
  ·exact gb
  obtain⟨b,mb,rfl⟩:=zah.mp mp;exact zak gb (Nat.le_of_lt (pa.1 b mb))
 have lf:H1 g.objs.size=none:=I1.hok.fresh gb;have I2:=I1.laidM (t':=tk) a2 nd hp (λp mp=>by
  rcases zam.mp mp with rfl|mp
  ·refine(show wf X.prog X.w _ h' _ (.lst _) from⟨by rw[zLm,el,zap,<- n1];exact zak hn (by decide),b3.toList,c,by rw[ea];exact W4 as,?_⟩)
   rw[Array.toArray_toList];exact gS
  obtain⟨b,mb,rfl⟩:=zah.mp mp;obtain⟨j,ej⟩:=List.getElem?_of_mem mb;obtain⟨u,v,t1,t2,t3,t4,t5⟩:=hf j b ej;refine(show wf X.prog X.w _ h' b (.tup [(f b).1,(f b).2]) from⟨by rw[sizeLine_eq];show(2:Nat)<=_;decide,[u,v],.cons t3 (.cons t4 .nil),⟨_,t5,rfl,_,rfl⟩,_,t5,rfl⟩))
 refine⟨.ref g.objs.size,_,I2,rfl,q _ _ as (W5 I1 hp) lf (gd nd zao) (by rw[el,zap,<- n1]) λj b ej=>?_⟩
 obtain⟨u,v,t1,t2,t3,t4,t5⟩:=hf j b ej;exact⟨(f b).1,(f b).2,t1,t2,gd (p:=(b,HO.tup [(f b).1,(f b).2])) nd (zal _ (zah.mpr ⟨b,zan ej,rfl⟩))⟩
theorem Rg{K:W.Frag}{H H':Hp}{O O':List Addr}(g:Grow O O' H H'):∀{ds es:List D}{xs ys:List V}{as:List Addr},Reps K H O ds xs->Reps K H O es ys->ds.length=es.length->as.length=ds.length ->
  (∀(j:Nat) b,as[j]?=some b->∃x y,xs[j]?=some x/\ys[j]?=some y/\H' b=some (.tup [x,y]))->Reps K H' O' (zipD ds es) (as.map V.ref)
 |[],es,xs,ys,as,_,_,_,la,_=>by
  cases as with
  |nil=>rfl
  |cons _ _=>simp at la
 |d::ds,[],_,_,_,_,_,l,_,_=>by simp at l
 |d::ds,e::es,xs,ys,[],_,_,_,la,_=>by simp at la
 |d::ds,e::es,xs,ys,a::as,r1,r2,l,la,h=>by
  obtain⟨v,r',rfl,q,t⟩:=r1;obtain⟨w,s',rfl,q2,Z⟩:=r2;obtain⟨x,y,e1,e2,I⟩:=h 0 a (by simp)
  have:v=x:=by simpa using e1
  subst this;have:w=y:=by simpa using e2
  subst this;refine⟨.ref a,as.map V.ref,rfl,⟨a,_,rfl,⟨SqT.of I,I⟩,v,[w],rfl,Rep.grow g _ _ q,w,[],rfl,Rep.grow g _ _ q2,rfl⟩,?_⟩;exact Rg g t Z (by simpa using l) (by simpa using la) λj b ej=>by
   obtain⟨x,y,f1,f2,f3⟩:=h (j+1) b (by simpa using ej)
   exact⟨x,y,by simpa using f1,by simpa using f2,f3⟩
section
variable{p p2 pos2:Pos}
def Eh(t:TDs):TD:=λL U=>t L λrs=>match rs with
 |[⟨.val,.tup xs⟩,⟨.val,.cn (.tup cs)⟩]=>xs.length=cs.length/\xs.length<=1000/\U (df (.lst (zipD xs (cs.map cstD))))
 |_=>False
def G1(hm:X.mg "list" = none)(a8:X.mg "zip" = none)(ha:EA Y X [a,b] t)(hc:X.calm=true:=by rfl)(hg:Gl X "list":=by rfl)(a9:Gl X "zip":=by rfl)(h1:starEach [.Call (.Name "zip" p2) [a,b] [] pos2] X.env=(false,eval (.Call (.Name "zip" p2) [a,b] [] pos2) X.env)::starEach [] X.env:=by rfl)(he:starEach [a,b] X.env=(false,eval a X.env)::starEach [b] X.env:=by rfl)(a7:(backTo pos2 (starEach [b] X.env)).any (·.1)=false:=by rfl) :
  ED Y X (.Call (.Name "list" p) [.Call (.Name "zip" p2) [a,b] [] pos2] [] pos) (Eh t):=λH_ =>
 impE (Qs hc hg hm a9 a8 (ha H_) h1 he a7) λσ H Q q=>by
  obtain⟨L,I,R,U,a6,kk⟩:=q;refine⟨L,I,R,_,a6,λvs rs H1 s1 a1 h1=>?_⟩;split at h1
  ·rename_i xs cs;obtain⟨hl,hn,h1⟩:=h1;obtain⟨v1,ws,rfl,a4,v2,ws2,rfl,a2,e⟩:=a1;cases (show ws2=[] from e);obtain⟨p1,a0,rfl,q1,j⟩:=a4.view;obtain⟨p2,ys2,rfl,q2,cr⟩:=Qd (H:=H1) (show CRep X.K (.tup cs) v2 from a2);have a5:Reps X.K H1 (I.map Prod.snd) (cs.map cstD) ys2:=gm cr;have m1:=j.length;have m2:=cy cr;refine⟨p1,p2,a0,ys2,rfl,q1.1,q2,by omega,by omega,λlst H' as Z fl el la hp=>?_⟩
   have b0:lst∉I.map Prod.snd:=R.ofree (s1.free fl);have g:Grow (I.map Prod.snd) (lst::I.map Prod.snd) H1 H':=⟨λb u h n=>⟨Z b u h,λz=>(zam.mp z).elim (λe=>zp h fl e) n⟩,λb xs h=>Z b _ h,λb ob u h=>Z b _ h⟩;refine kk (.ref lst) (df (.lst (zipD xs (cs.map cstD)))) H' (s1.trans Z) ⟨lst,rfl,s1.free fl,b0,as.map V.ref,el,?_⟩ h1;exact Rg g j a5 (by rw[zLm];exact hl) (by rw[la,m1]) hp
  exact h1.elim
end
variable{M:Model}
def Up{Y:PySem.Ctx}{t:Sem Fin}{fs:List Frame}{e:End}(h:Runs M Y p t fs s e s'):s.toks<=s'.toks:=by
 induction h <;> first
  |exact zaj _
  |assumption
  |exact zak (by assumption) (by assumption)
  |(rename_i j;exact zak (Nat.le_succ _) j)
def Kb{Y:PySem.Ctx}{r:Resume}(h:Wakes M Y p g r s res s'):s.toks<=s'.toks:=by
 unfold Wakes at h;split at h
 ·exact h.elim
 ·split at h
  ·obtain⟨j,s1,h,_,_,rfl⟩:=h;have:=Up h;exact this
  ·obtain⟨_,rfl⟩:=h;exact zaj _
  obtain⟨_,rfl⟩:=h;exact zaj _
 ·obtain⟨j,s1,h,_,_,rfl⟩:=h;have:=Up h;exact this
 ·obtain⟨_,rfl⟩:=h;exact zaj _
 obtain⟨_,rfl⟩:=h;exact zaj _
def z4i{α:Type}{Y:PySem.Ctx}(n:Nat):∀(t:Sem α)(Q:α->Pos->Shared->Prop)(E:Value->Pos->Shared->Prop)(p:Pos)(s:Shared),n<=s.toks->Sem.wp M Y t Q E p s->Sem.wp M Y t (λa p s'=>Q a p s'/\n<=s'.toks) (λe p s'=>E e p s'/\n<=s'.toks) p s:=by
 intro t
 induction t with
 |pure a=>intro Q E p s j h;exact⟨h,j⟩
 |raise e=>intro Q E p s j h;exact⟨h,j⟩
 |unsupported _=>intro Q E p s j h;exact h
 |finish _=>intro Q E p s j h;exact h
 |rule _ k ih=>intro Q E p s j h;exact ih () Q E p s j h
 |«at» p' k ih=>intro Q E p s j h;exact ih () Q E p' s j h
 |load a _ k ih=>intro Q E p s j h;obtain⟨o,ho,h⟩:=h;exact⟨o,ho,ih o Q E p s j h⟩
 |update a _ f k ih=>intro Q E p s j h;exact⟨h.1,ih () Q E p _ j h.2⟩
 |loadIfAlive a k ih=>intro Q E p s j h;exact ih _ Q E p s j h
 |point _ k ih=>intro Q E p s j h;exact ih () Q E p s j h
 |register _ _=>intro Q E p s j h;exact h
 |alloc o k ih=>intro Q E p s j h;exact ih _ Q E p _ j h
 |fresh k ih=>intro Q E p s j h;exact ih _ Q E p _ (Nat.le_succ_of_le j) h
 |ask k ih=>intro Q E p s j h;exact ih _ Q E p s j h
 |choose src m k ih=>intro Q E p s j h;exact⟨h.1,ih _ Q E p _ j h.2⟩
 |os q _ k ih=>intro Q E p s j h;exact ih _ Q E p _ j h
 |call c hd _ _ k ih=>intro Q E p s j h;obtain⟨r,s',hr,h⟩:=h;exact⟨r,s',hr,ih r Q E p s' (zak j (Up hr)) h⟩
 |handled own k ih=>intro Q E p s j h;exact ih _ Q E p s j h
 |genState g k ih=>intro Q E p s j h;obtain⟨st,hs,h⟩:=h;exact⟨st,hs,ih _ Q E p s j h⟩
 |newGen c k ih=>intro Q E p s j h;exact ih _ Q E p _ j h
 |resume g r _ k ih=>intro Q E p s j h;obtain⟨I,s',Z,h⟩:=h;exact⟨I,s',Z,ih _ Q E p s' (zak j (Kb Z)) h⟩
 |yield _ _ _ _ _=>intro Q E p s j h;exact h
 |stack k ih=>intro Q E p s j h;exact ih _ Q E p s j h
 |fork _ _=>intro Q E p s j h;exact h
 |thread k ih=>intro Q E p s j h;exact ih _ Q E p s j h
 |await _ _=>intro Q E p s j h;exact h
def wpAny_le{α:Type}{t:Sem α}{Q:α->Shared->Prop}(h:wpAny M A t Q E s):wpAny M A t (λa s'=>Q a s'/\s.toks<=s'.toks) (λe s'=>E e s'/\s.toks<=s'.toks) s :=
 λY p j=>z4i s.toks t _ _ p s (zaj _) (h Y p j)
def M5:MtR X "str.startswith" (λx xs H Q=>∃a b,x=.str a/\xs=[.str b]/\Q (.bl (Txt.startswith a b)) H):=by
 intro pn s σ H x xs v us Q I j rs h;obtain⟨a,b,rfl,rfl,q⟩:=h;obtain⟨t,rfl⟩:=j;obtain⟨u,rfl,Z⟩:=sf rs;obtain⟨t2,rfl⟩:=Z;exact SC.startswith ⟨.bl _,H,I,rfl,q⟩
def Kq{x y:Str}{t u:Tok}(I:(y.length==0)=false)(hsz:x.length<=sizeLine)(j:(Txt.split x y).length<=sizeLine)(q:∀ l tk,l.map (·.1)=Txt.split x y->Q (.ref s.heap.objs.size) {s with toks:=tk,heap:=s.heap.push {cls:=.type "list",data:=.seq (strValues l).toArray}}) :
  wpAny (model prog w) A (call (.builtin "str.split") [.str x t,.str y u]) Q E s:=by
 cases h1:(decide (x.length<y.length) || decide (Builtin.Str.strKind x<Builtin.Str.strKind y))
 ·cases hf:(Builtin.Str.occurrences x y 0 x.length (x.length+1)).isEmpty
  ·have e:Txt.split x y=Builtin.Str.partsBetween x (Builtin.Str.occurrences x y 0 x.length (x.length+1)) y.length:=(if_neg (ne_true_of_eq_false h1)).trans (if_neg (ne_true_of_eq_false hf));refine call_meets F.slot_str_split (typeIs_str _ _ _) F.entry_str_split (F.args_str_split_2 _ _) (meets_str_split_sep x y t u h1 I hf hsz (by rw[<- e];exact j)) ?_
   show wants Q E _ {s with toks:=_,heap:=s.heap.push {cls:=.type "list",data:=.seq (strsFrom s.toks (Builtin.Str.partsBetween x (Builtin.Str.occurrences x y 0 x.length (x.length+1)) y.length)).toArray}};rw[strsFrom_eq];exact q (numbered s.toks _) _ ((numbered_texts _ _).trans e.symm)
  exact call_meets F.slot_str_split (typeIs_str _ _ _) F.entry_str_split (F.args_str_split_2 _ _) (meets_str_split_not_found x y t u h1 I hf)
   (q [(x,t)] s.toks ((if_neg (ne_true_of_eq_false h1)).trans (if_pos hf)).symm)
 exact call_meets F.slot_str_split (typeIs_str _ _ _) F.entry_str_split (F.args_str_split_2 _ _) (meets_str_split_cannot_occur x y t u h1)
  (q [(x,t)] s.toks (if_pos h1).symm)
def qf:∀l:List (Str×Tok),Vals ((l.map (·.1)).map V.str) (strValues l)
 |[]=>.nil
 |p::l=>.cons ⟨p.2,rfl⟩ (qf l)
def Jm:MtR X "str.split" (λx xs H Q=>∃a b,x=.str a/\xs=[.str b]/\(b.length==0)=false/\a.length<=sizeLine/\(Txt.split a b).length<=sizeLine/\∀l,H l=none->Q (.ref l) (upd H l (.lst ((Txt.split a b).map V.str)))):=by
 intro pn s σ H x xs v us Q I Z rs h;obtain⟨a,b,rfl,rfl,hb,hl,j,q⟩:=h;obtain⟨t,rfl⟩:=Z;obtain⟨u,rfl,ru⟩:=sf rs;obtain⟨t2,rfl⟩:=ru;refine Kq hb hl j λl tk el=>?_;have vs:=qf l;rw[el]at vs;exact⟨.ref s.heap.objs.size,_,I.lnew (its:=strValues l) (t':=tk) vs (by rw[zLm];exact j),rfl,q _ I.fresh⟩
def jj{K:W.Frag}{H:Hp}{O:List Addr}:∀ws:List Str,Reps K H O (ws.map D.str) (ws.map V.str)
 |[]=>rfl
 |w::ws=>⟨_,_,rfl,rfl,jj ws⟩
variable{td:TD}
def A5(td te:TD):TD:=λL U=>td L λx=>match x.d with
 | .str a=>te L λy=>(match y.d with
  |.str b=>U (dv (.bl (Txt.startswith a b)))
  | _=>False)
 |_=>False
def Vr(ho:ED Y X o td)(he:ED Y X e te)(I:attributeBase o "startswith" X.env (eval o X.env)=eval o X.env:=by rfl)(Z:((backTo cpos (starEach [e] X.env)).all (λx=>!x.1)&&(backToKw cpos (keywordEach [] X.env)).all (λx=>x.1.isSome)&&decide (([e]:List Expr).length+([]:List Keyword).length+(if ([]:List Keyword).isEmpty then 0 else 1)<30))=true:=by rfl)(j:(apos.endLine==cpos.line)=true:=by rfl)(hs:starEach [e] X.env=(false,eval e X.env)::starEach [] X.env:=by rfl)(a2:(backTo cpos (starEach [] X.env)).any (·.1)=false:=by rfl) :
  ED Y X (.Call (.Attribute o "startswith" apos) [e] [] cpos) (A5 td te):=λH_ =>
 impE (Uz PySem.F.plainAttrs_str PySem.F.slot_str_startswith PySem.F.type_str_startswith M5 (ho H_) (xw (he H_) vh hs) I Z j hs a2) λσ H Q q=>by
  obtain⟨L,oo,R,U,a1,kk⟩:=q;refine⟨L,oo,R,_,a1,λv r H1 s1 rv h1=>?_⟩;obtain⟨kd,d⟩:=r;cases d with
  |str a =>
   cases (show v=_ from rv.view)
   refine⟨rfl,L,oo,R.to s1,_,h1,λv2 r2 H2 s2 a0 h2=>?_⟩;obtain⟨a4,d2⟩:=r2;cases d2 with
   |str b =>
    cases (show v2=_ from a0.view)
    exact⟨a,b,rfl,rfl,kk _ (dv (.bl _)) H2 (s1.trans s2) (by exact rfl) h2⟩
   |_=>exact h2.elim
  |_=>exact h1.elim
def z3u(td te:TD):TD:=λL U=>td L λx=>match x.d with
 | .str a=>te L λy=>(match y.d with
  |.str b=>(b.length==0)=false/\a.length<=sizeLine/\(Txt.split a b).length<=sizeLine/\U (df (.lst ((Txt.split a b).map D.str)))
  | _=>False)
 |_=>False
def Hz(ho:ED Y X o td)(he:ED Y X e te)(Z:attributeBase o "split" X.env (eval o X.env)=eval o X.env:=by rfl)(a0:((backTo cpos (starEach [e] X.env)).all (λx=>!x.1)&&(backToKw cpos (keywordEach [] X.env)).all (λx=>x.1.isSome)&&decide (([e]:List Expr).length+([]:List Keyword).length+(if ([]:List Keyword).isEmpty then 0 else 1)<30))=true:=by rfl)(I:(apos.endLine==cpos.line)=true:=by rfl)(hs:starEach [e] X.env=(false,eval e X.env)::starEach [] X.env:=by rfl)(a4:(backTo cpos (starEach [] X.env)).any (·.1)=false:=by rfl) :
  ED Y X (.Call (.Attribute o "split" apos) [e] [] cpos) (z3u td te):=λH_ =>
 impE (Uz PySem.F.plainAttrs_str PySem.F.slot_str_split PySem.F.type_str_split Jm (ho H_) (xw (he H_) vh hs) Z a0 I hs a4) λσ H Q q=>by
  obtain⟨L,oo,R,U,a2,kk⟩:=q;refine⟨L,oo,R,_,a2,λv r H1 s1 rv h1=>?_⟩;obtain⟨kd,d⟩:=r;cases d with
  |str a =>
   cases (show v=_ from rv.view)
   refine⟨rfl,L,oo,R.to s1,_,h1,λv2 r2 H2 s2 a1 h2=>?_⟩;obtain⟨a5,d2⟩:=r2;cases d2 with
   |str b =>
    cases (show v2=_ from a1.view)
    obtain⟨g1,g2,g3,h2⟩:=h2;refine⟨a,b,rfl,rfl,g1,g2,g3,λl hl=>?_⟩;have j:=s1.trans s2;exact kk (.ref l) (df (.lst _)) _ (j.trans (yh hl _)) ⟨l,rfl,j.free hl,R.ofree (j.free hl),_,zu,jj _⟩ h2
   |_=>exact h2.elim
  |_=>exact h1.elim
def thnP{α:Type}{t:Sem α}{Q j:α->Shared->Prop}{M:Model}{A:Around}{E:Value->Shared->Prop}{s:Shared}(h:wpAny M A t Q E s)(I:0<s.toks)(Z:∀ a s,Q a s->0<s.toks->j a s):wpAny M A t j E s :=
 wpAny_mono (ZZ.wpAny_le h) (λa s' q=>Z a s' q.1 (Nat.lt_of_lt_of_le I q.2)) λ_ _ q=>q.1
def upP{α:Type}{t:Sem α}{Q:α->Shared->Prop}{M:Model}{A:Around}{E:Value->Shared->Prop}{s:Shared}(h:wpAny M A t (λa s=>0<s.toks->Q a s) E s)(j:0<s.toks):wpAny M A t Q E s:=thnP h j λ_ _ q=>q
def PEp(X:Cx)(e:Expr)(t:TE):Prop :=
 ∀(pn:List (Addr×Obj))(s:Shared)(σ:St)(H:Hp)(Q:VK),Inv X pn σ H s->0<s.toks->t σ H Q->wpAny (model X.prog X.w) X.A (eval e X.env) (EP X pn σ Q) X.xe s
def PSp(X:Cx)(st:Stmt)(t:TS):Prop :=
 ∀(pn:List (Addr×Obj))(s:Shared)(σ:St)(H:Hp)(D:Ends),Inv X pn σ H s->0<s.toks->t D σ H->wpAny (model X.prog X.w) X.A (exec st X.env) (SP X pn D) X.xe s
def PSsp(X:Cx)(st:List Stmt)(t:TS):Prop :=
 ∀(pn:List (Addr×Obj))(s:Shared)(σ:St)(H:Hp)(D:Ends),Inv X pn σ H s->0<s.toks->t D σ H->wpAny (model X.prog X.w) X.A (execs st X.env) (SP X pn D) X.xe s
section
variable{te:TE}{st:Stmt}{rest:List Stmt}{ts us:TS}
def PE.p(h:PE X e te):PEp X e te:=λpn s σ H Q I _ q=>h pn s σ H Q I q
def PSs.p(h:PSs X rest ts):PSsp X rest ts:=λpn s σ H D I _ q=>h pn s σ H D I q
def Nb(h1:PSp X st ts)(h2:PSsp X rest us):PSsp X (st::rest) (tSeq ts us):=by
 intro pn s σ H D I hp h;refine wpAny_execs_cons (thnP (h1 pn s σ H {D with nx:=us D} I hp h) hp λf s1 q Z=>?_);cases f with
 |next =>
  obtain⟨j,H',I',q⟩:=q;exact h2 pn s1 j H' D I' Z q
 |ret v=>exact q
 |brk=>exact q
 |cont=>exact q
def Dx{i:Nat}{x:Str}{pos':Pos}(hN:X.N.Nodup)(hi:X.N[i]?=some x)(Z:Loc X.env.scope x)(he:PEp X e te)(hs:swapsWith e (some (.Name x pos')) pos.line X.env=pure false:=by rfl)(hf:X.fn x=true\/X.env.scope.names.lookup x=some .local:=by first|exact .inl rfl|exact .inr rfl|assumption) :
  PSp X (.Assign [.Name x pos'] e pos) (tAsg te (j8 i)):=by
 intro pn s σ H D I hp h;refine wpAny_Assign_Name (thn (he pn s σ H _ I hp h) λv s1 ⟨y,H1,I1,j,q⟩=>?_) hs;exact gj I1 hN hi Z j (λs2 I2=>⟨_,H1,I2,q⟩) hf
end
def Qy{M:Model}{A:Around}{E:Value->Shared->Prop}{s:Shared}{scope:Scope}{q:Addr}{n:Str}{v:Value}{r:List (Str×Value)}{qual:Str}{I:Option Addr}{Z:Value}{j:Addr}{Q:Env->Shared->Prop}(hk:scope.kind=.function)(hl:scope.names.lookup n=some .local)(a0:∀ x∈r,scope.names.lookup x.1=some .local\/(scope.names.lookup x.1=some .cell/\((cellsFrom (s.heap.objs.size+1) scope.names []).lookup x.1).isSome=true))(hQ:∀ env,env=newEnv scope s.heap.objs.size q (cellsFrom (s.heap.objs.size+1) scope.names []) qual I Z none j ->
   ∀ s',InCallC s env.locals (bindL env.kindOf ((n,v)::r) λ_=>none) env.cells (bindC env.kindOf ((n,v)::r) λ_=>none) s'->0<s'.toks->Q env s') :
  wpAny M A (newFunctionEnv scope q [] ((n,v)::r) qual I Z none j) Q E s:=by
 simp only[newFunctionEnv,Option.isSome_none,Bool.false_eq_true,if_false];refine zaa (wpAny_alloc ?_);refine zaa (wpAny_layCells _ (λname kind cells=>by cases hkc:kind==NameKind.cell <;> simp[hkc]) _ _ _ _ ?_)
 have ok:=cellsFrom_ok scope.names (s.heap.push {cls:=.type "frame",data:=.dict #[]}) (s.heap.objs.size+1) [] ⟨λ_ _ hm=>(nomatch hm),List.Pairwise.nil⟩ (by rw[Heap.size_push];exact zaj _)
 rw[Heap.size_push]at ok;rw[show({s with heap:=s.heap.push {cls:=.type "frame",data:=.dict #[]}}:Shared).heap.objs.size=s.heap.objs.size+1 from Heap.size_push ..];have x:InCallC s s.heap.objs.size (λ_=>none) (cellsFrom (s.heap.objs.size+1) scope.names []) (λ_=>none) {s with heap:=pushCells (s.heap.push {cls:=.type "frame",data:=.dict #[]}) scope.names} :=
  ⟨⟨⟨_,_,rfl⟩,(Heap.Ns.new s.heap (.type "frame")).keeps (pushCells_keeps _ _),λb o e=>pushCells_keeps _ _ b o (zac _ e),zaj _⟩,
   λn c hc=>(ok.empty n c (mem_of_lookup hc)).1,ok.apart,λn c hm=>(ok.empty n c hm).2⟩
 refine zaa ?_;rw[List.forIn_cons];refine zaa (zaa (wpAny_storeName_local (env:=newEnv scope s.heap.objs.size q (cellsFrom (s.heap.objs.size+1) scope.names []) qual I Z none j) hl x.toInCall.ns (λh' a4 a1=>?_) (by show(scope.kind==.class || (scope.kind==.module&&_))=false;rw[hk];rfl)))
 refine zab (upP (wpAny_bindParams (s₀:=s) (env:=newEnv scope s.heap.objs.size q (cellsFrom (s.heap.objs.size+1) scope.names []) qual I Z none j)
  _ (λ_ _ _=>rfl) hk r (λy=>if y=n then some v else none) (λ_=>none) _ _ ⟨⟨?_,a4,λb o e=>?_,x.toInCall.fresh⟩,λk c hc=>?_,x.apart,x.above⟩ a0 λs' x' hp=>zab (hQ _ rfl s' ?_ hp)) (Nat.succ_pos _))
 ·obtain⟨a5,tk,e⟩:=x.toInCall.same;exact⟨h',_,rfl⟩
 ·exact a1.extBut b o (Nat.ne_of_lt (Nat.lt_of_lt_of_le (zae e) x.toInCall.fresh)) (x.toInCall.keep b o e)
 ·exact(x.cell k c hc).sameBut a1 (Nat.ne_of_gt (x.above k c (mem_of_lookup hc)))
 have a2:(newEnv scope s.heap.objs.size q (cellsFrom (s.heap.objs.size+1) scope.names []) qual I Z none j).kindOf n=some .local:=hl;unfold bindL bindC;rw[if_pos a2,if_pos a2];exact x'
def z3d{CX:CXT}{P:Program}{w:World}{K:W.Frag}{mg:Str->Option Value}{base:Heap}{k:Nat}{f:Addr}{name qual:Str}{j:Arguments}{Z:List Stmt}{scope:Scope}{dV kV a7 pm qZ ct oc:Value}{an od:Option Addr}{a8:Array (Option Value)}{N ps:List Str}{sp:Sp}(lk:K.lookup f=some ⟨oc,od,.func (W.fnOf name qual j Z scope dV kV a7 pm an qZ ct),a8⟩)(b3:W.codeIn K qZ qual=true)(S:zt N ps scope)(a5:∃ p,ps.head?=some p/\scope.names.lookup p=some .local)(len:∀ vs H Q E,sp vs H Q E->vs.length=ps.length)(qY:∀ (A:Around) (outer:List Env) (s:Shared) (H:Hp) (vs:List V) (Q:VK) (E:XK),Room k (A.deeper (envOfC qual scope s.heap.objs.size f qZ))->sp vs H Q E ->
   ∃ t,PSsp (cxOf CX P w K mg base N qual scope f qZ A outer s H E) Z t/\t {nx:=λ_ H'=>Q .non H',rt:=Q} (start N vs) H) :
  FnOk P w K mg base CX (k+1) f (W.fnOf name qual j Z scope dV kV a7 pm an qZ ct) ps sp:=by
 refine⟨len,λA outer s H b4 us vs Q E hr e0 hb r a4=>?_⟩;have hl:=len _ _ _ _ a4;have KX:K.In s.heap:=e0.mod.kin.keeps λb o e=>(e0.bs b o e).1;have a9:s.heap.NoLimit:=e0.mod.nolimit.keeps λb o e=>(e0.bs b o e).1;have a2:∀y∈ps.zip us,scope.names.lookup y.1=some .local\/(scope.names.lookup y.1=some .cell/\((cellsFrom (s.heap.objs.size+1) scope.names []).lookup y.1).isSome=true):=λ⟨n,v⟩ hy=>by
  rcases S.par n (List.of_mem_zip hy).1 with q|q
  ·exact .inl q
  exact .inr ⟨q,W.cellsFrom_some _ _ _ (.inl q)⟩
 obtain⟨p,a1,b0⟩:=a5;obtain⟨ps',rfl⟩:∃ps',ps=p::ps':=by
  cases ps with
  |nil=>cases a1
  |cons a b=>exact⟨b,by rw[Option.some.inj a1]⟩
 obtain⟨u,us',rfl⟩:∃u us',us=u::us':=by
  cases us with
  |nil=>rw[r.length]at hl;cases hl
  |cons a b=>exact⟨a,b,rfl⟩
 refine codeAny_call_function hr.depth (KX _ _ lk) rfl S.co S.gen rfl (W.codeRec_of KX b3) (hb _ _ _ _ ?_);refine Qy S.kind b0 (λy hy=>a2 y (zal _ hy)) λenv he s1 x a1=>?_;subst he;refine⟨a9.keeps x.toInCall.keep,codeAny_func ?_⟩;obtain⟨t,ht,hq⟩:=qY A outer s H vs Q E (hr.deeper _) a4;have I:Inv (cxOf CX P w K mg base N qual scope f qZ A outer s H E) [] (start N vs) H s1:=Va S hr.hd e0 hl r x;refine wpAny_mono (ht [] s1 (start N vs) H _ I a1 hq) (λfl s' hs=>?_) λe s' hs=>hs;have a6:∀{a0:St}{H':Hp}{v:V}{u:Value},Inv (cxOf CX P w K mg base N qual scope f qZ A outer s H E) [] a0 H' s'->RelV v u->Q v H'->CE outer P w H s Q u s' :=
  λ{a0 H' v u} J rv q=>⟨v,H',J.os,J.bare,J.base,J.hok,rv,q⟩
 cases fl with
 |ret u =>
  obtain⟨v,a0,H',J,rv,q⟩:=hs;exact a6 J rv q
 |next =>
  obtain⟨a0,H',J,q⟩:=hs;exact a6 (v:=V.non) (u:=Value.none) J rfl q
 |brk =>
  obtain⟨_,_,_,q⟩:=hs;exact False.elim q
 |cont =>
  obtain⟨_,_,_,q⟩:=hs;exact False.elim q
variable{to:TE}{y z:Str}{j1 j2:Nat}{p1 p2:Pos}
def z4m(y z:Str)(to:TE):TE:=λσ H Q=>to σ H λx H1=>∃a,x=.str a/\a.length+(a.length+1)*z.length<=16777216/\Q (.str (Txt.replace a y z)) H1
def Uw(a0:(y==z)=false)(ho:PEp X o to)(q:attributeBase o "replace" X.env (eval o X.env)=eval o X.env:=by rfl)(Z:((backTo cpos (starEach [.Constant (.str y) j1 p1,.Constant (.str z) j2 p2] X.env)).all (λx=>!x.1)&&(backToKw cpos (keywordEach [] X.env)).all (λx=>x.1.isSome)&&decide (([.Constant (.str y) j1 p1,.Constant (.str z) j2 p2]:List Expr).length+([]:List Keyword).length+(if ([]:List Keyword).isEmpty then 0 else 1)<30))=true:=by rfl)(j:(apos.endLine==cpos.line)=true:=by rfl)(hs:starEach [.Constant (.str y) j1 p1,.Constant (.str z) j2 p2] X.env=(false,eval (.Constant (.str y) j1 p1) X.env)::starEach [.Constant (.str z) j2 p2] X.env:=by rfl)(a1:starEach [.Constant (.str z) j2 p2] X.env=(false,eval (.Constant (.str z) j2 p2) X.env)::starEach [] X.env:=by rfl)(a2:(backTo cpos (starEach [.Constant (.str z) j2 p2] X.env)).any (·.1)=false:=by rfl) :
  PEp X (.Call (.Attribute o "replace" apos) [.Constant (.str y) j1 p1,.Constant (.str z) j2 p2] [] cpos) (z4m y z to):=by
 intro pn s σ H Q I hp h;refine wpAny_Call_method_late q Z j rfl (thnP (ho pn s σ H _ I hp h) hp λv s1 ⟨x,H1,I1,r1,a,ea,hb,q1⟩ a4=>?_);subst ea;obtain⟨tk,rfl⟩:=r1;obtain⟨h1,h2⟩:=Oc (T:="str") (x:=.str a) I1 ⟨tk,rfl⟩ (by first|exact trivial|exact rfl)
 refine⟨"str","str.replace",PySem.F.plainAttrs_str,PySem.F.slot_str_replace,PySem.F.type_str_replace,h1,h2,?_⟩;rw[hs];refine Calls.callWith_builtin (by show(false || (backTo cpos (starEach [.Constant (.str z) j2 p2] X.env)).any (·.1))=false;rw[a2] <;> rfl) (Calls.evalArgs_plain ?_)
 show wpAny _ _ (spliced ((false,eval (.Constant (.str y) j1 p1) X.env)::backTo cpos (starEach [.Constant (.str z) j2 p2] X.env))) _ _ s1;refine Calls.spliced_cons (Calls.Constant_str ?_);rw[a1];show wpAny _ _ (spliced ((false,eval (.Constant (.str z) j2 p2) X.env)::backTo cpos (starEach [] X.env))) _ _ _;refine Calls.spliced_cons (Calls.Constant_str ?_);refine Calls.spliced_nil ?_;exact SC.replace (Nat.ne_of_gt a4) (Nat.succ_ne_zero _) (Nat.ne_of_lt (Nat.lt_succ_self _)) a0 hb λt' k=>⟨.str _,H1,I1.tok _,⟨_,rfl⟩,q1⟩
def PSsp.nox{X:Cx}{st:List Stmt}{t:TS}(h:PSsp X.nox st t):PSsp X st t:=λpn s σ H D I Z j =>
 wpAny_mono (h pn s σ H D (I.wish _) Z j) (λ_ _ q=>q.unwish) λ_ _ z=>False.elim z
def Fun.okL{x qual:Str}{st:Stmt}{f:Addr}{fd:FuncData}{N ps:List Str}{k:Nat}{sp:Sp}(F:Fun K x qual st f fd)(S:zt N ps (zh st))(j:∃ p,ps.head?=some p/\(zh st).names.lookup p=some .local)(len:∀ vs H Q E,sp vs H Q E->vs.length=ps.length)(qY:∀ (qZ:Value) (A:Around) (outer:List Env) (s:Shared) (H:Hp) (vs:List V) (Q:VK) (E:XK),Room k (A.deeper (envOfC qual (zh st) s.heap.objs.size f qZ))->sp vs H Q E ->
   ∃ t,PSsp (cxOf CX0 P w K mg base N qual (zh st) f qZ A outer s H E).nox (xp st) t/\t {nx:=λ_ H'=>Q .non H',rt:=Q} (start N vs) H):FnOk P w K mg base CX0 (k+1) f fd ps sp:=by
 obtain⟨oc,od,kV,a1,pm,an,qZ,ct,a0,rfl,lk,Z⟩:=F.ex;refine z3d lk Z S j len λA outer s H vs Q E hr I=>?_;obtain⟨t,h,q⟩:=qY qZ A outer s H vs Q E hr I;exact⟨t,h.nox,q⟩
def EDp(G:Hp->Prop)(X:Cx)(e:Expr)(t:TD):Prop:=∀H_:{H:Hp // G H},PEp X e (u7 X.K H_.1 t)
def SDp(G:Hp->Prop)(X:Cx)(st:Stmt)(t:TDS):Prop:=∀H_:{H:Hp // G H},PSp X st (Yz X.K H_.1 t)
def SDsp(G:Hp->Prop)(X:Cx)(st:List Stmt)(t:TDS):Prop:=∀H_:{H:Hp // G H},PSsp X st (Yz X.K H_.1 t)
def z5n{X:Cx}{e:Expr}{t t':TE}(h:PEp X e t)(i:∀ σ H Q,t' σ H Q->t σ H Q):PEp X e t':=λpn s σ H Q I j q=>h pn s σ H Q I j (i σ H Q q)
def z5m{X:Cx}{st:Stmt}{t t':TS}(h:PSp X st t)(i:∀ D σ H,t' D σ H->t D σ H):PSp X st t':=λpn s σ H D I j q=>h pn s σ H D I j (i D σ H q)
def z2y{X:Cx}{st:List Stmt}{t t':TS}(h:PSsp X st t)(i:∀ D σ H,t' D σ H->t D σ H):PSsp X st t':=λpn s σ H D I j q=>h pn s σ H D I j (i D σ H q)
section
variable{st:Stmt}{rest:List Stmt}{ts us:TDS}
def ED.p(h:ED Y X e te):EDp Y X e te:=λH_=>(h H_).p
def SDs.p(h:SDs Y X rest ts):SDsp Y X rest ts:=λH_=>(h H_).p
def Kn(h1:SDp Y X st ts)(h2:SDsp Y X rest us):SDsp Y X (st::rest) (sSeq ts us):=λH_=>z2y (Nb (h1 H_) (h2 H_)) λD σ H h=>by
 obtain⟨L,o,R,Z,hZ,k1,k2,k3,k4⟩:=h;refine⟨L,o,R,_,hZ,λa0 a1 H' o' g R' q=>?_,k2,k3,k4⟩;exact⟨a0,o',R',Z,q,λI j H2 o2 g2 R2 q2=>k1 I j H2 o2 (g.trans g2) R2 q2,λI j H2 o2 g2 R2 q2=>k2 I j H2 o2 (g.trans g2) R2 q2,λI j H2 o2 g2 R2 q2=>k3 I j H2 o2 (g.trans g2) R2 q2,k4⟩
def Dl(i:Nat){x:Str}{pos':Pos}(hN:X.N.Nodup)(he:EDp Y X e te)(hi:X.N[i]?=some x:=by rfl)(q:Loc X.env.scope x:=by first|exact Or.inl rfl|exact Or.inr rfl)(I:swapsWith e (some (.Name x pos')) pos.line X.env=pure false:=by rfl)(hf:X.fn x=true\/X.env.scope.names.lookup x=some .local:=by first|exact .inl rfl|exact .inr rfl|assumption):SDp Y X (.Assign [.Name x pos'] e pos) (sSet i te):=λH_=>z5m (Dx hN hi q (he H_) I hf) λD σ H h=>by
 obtain⟨L,o,R,Z,hZ,k1,k2,k3,k4⟩:=h;refine⟨L,o,R,_,hZ,λv r H1 s1 j h1=>?_⟩;obtain⟨o',R',g⟩:=R.put s1 i j (tm h1.1);exact k1 _ _ H1 o' g R' h1.2
def z5z(y z:Str)(td:TD):TD:=λL U=>td L λx=>match x.d with
 |.str a=>a.length+(a.length+1)*z.length<=16777216/\U (dv (.str (Txt.replace a y z)))
 |_=>False
def qe{y z:Str}{j1 j2:Nat}{p1 p2 apos cpos:Pos}(a1:(y==z)=false)(ho:EDp Y X o td)(I:attributeBase o "replace" X.env (eval o X.env)=eval o X.env:=by rfl)(Z:((backTo cpos (starEach [.Constant (.str y) j1 p1,.Constant (.str z) j2 p2] X.env)).all (λx=>!x.1)&&(backToKw cpos (keywordEach [] X.env)).all (λx=>x.1.isSome)&&decide (([.Constant (.str y) j1 p1,.Constant (.str z) j2 p2]:List Expr).length+([]:List Keyword).length+(if ([]:List Keyword).isEmpty then 0 else 1)<30))=true:=by rfl)(j:(apos.endLine==cpos.line)=true:=by rfl)(hs:starEach [.Constant (.str y) j1 p1,.Constant (.str z) j2 p2] X.env=(false,eval (.Constant (.str y) j1 p1) X.env)::starEach [.Constant (.str z) j2 p2] X.env:=by rfl)(a2:starEach [.Constant (.str z) j2 p2] X.env=(false,eval (.Constant (.str z) j2 p2) X.env)::starEach [] X.env:=by rfl)(a4:(backTo cpos (starEach [.Constant (.str z) j2 p2] X.env)).any (·.1)=false:=by rfl) :
  EDp Y X (.Call (.Attribute o "replace" apos) [.Constant (.str y) j1 p1,.Constant (.str z) j2 p2] [] cpos) (z5z y z td):=λH_ =>
 z5n (Uw a1 (ho H_) I Z j hs a2 a4) λσ H Q q=>by
  obtain⟨L,oo,R,U,a0,kk⟩:=q;refine⟨L,oo,R,_,a0,λv r H1 s1 rv h1=>?_⟩;obtain⟨kd,d⟩:=r;cases d with
  |str a=>exact⟨a,rv.view,h1.1,kk _ (dv (.str _)) H1 s1 (by exact rfl) h1.2⟩
  |_=>exact h1.elim
end
def Bq{x qual:Str}{st:Stmt}{f:Addr}{fd:FuncData}{N ps:List Str}{k:Nat}{T:FT}(F:Fun K x qual st f fd)(S:zt N ps (zh st))(j:∃ p,ps.head?=some p/\(zh st).names.lookup p=some .local)(qY:∀ (qZ:Value) (A:Around) (outer:List Env) (s:Shared) (H:Hp) (E:XK) (ds:List D) (U:EV->Prop),Room k (A.deeper (envOfC qual (zh st) s.heap.objs.size f qZ))->ds.length=ps.length->T ds U ->
   ∃ t,SDsp (λ_=>True) (cxOf CX0 P w K mg base N qual (zh st) f qZ A outer s H E).nox (xp st) t/\t (wj N.length ds) {nx:=λ_=>U (dv .non),rt:=λr=>vk r/\U r}):FnOk P w K mg base CX0 (k+1) f fd ps (spD K ps.length T):=by
 refine F.okL S j (λvs H Q E h=>?_) (λqZ A outer s H vs Q E hr h=>?_)
 ·obtain⟨ds,U,hl,r,_⟩:=h;rw[r.length,hl]
 obtain⟨ds,U,hl,r,hT,kk⟩:=h;obtain⟨t,ht,hq⟩:=qY qZ A outer s H E ds U hr hl hT;have Z:=r.length;refine⟨Yz K H t,ht ⟨H,trivial⟩,wj N.length ds,[],⟨Same.refl H,(λ_ z=>absurd z (by simp)),(λ_ z=>absurd z (by simp)),(λ_ z=>absurd z (by simp)),List.nodup_nil,λi r' e=>?_,?_⟩,_,hq,λa1 a0 H' o' g R' q=>?_,λ_ _ _ _ _ _ q=>q.elim,λ_ _ _ _ _ _ q=>q.elim,λv r' H' s' I q=>kk v r' H' s' I q.1 q.2⟩
 ·unfold wj at e;rcases Nat.lt_or_ge i ds.length with hi|hi
  ·rw[List.getElem?_append_left (by simpa using hi),zai]at e
   have ed:ds[i]?=some ds[i]:=by simp[hi]
   rw[ed]at e;have e':some (dv ds[i])=some r':=Option.some.inj e;cases e';obtain⟨v,ev,I⟩:=r.get ed;refine⟨v,?_,.inl ⟨rfl,I⟩⟩;unfold ZZ.start;rw[List.getElem?_append_left (by rw[zLm,Z];exact hi),zai,ev]
   rfl
  rw[List.getElem?_append_right (by simpa using hi),List.getElem?_replicate]at e
  split at e <;> cases e
 ·unfold ZZ.start wj;simp[Z]
 exact kk .non (dv .non) H' R'.same rfl trivial q
def z3h{x qual:Str}{st:Stmt}{f:Addr}{fd:FuncData}{N ps:List Str}{k:Nat}{T:FT}(F:Fun K x qual st f fd)(S:zt N ps (zh st))(j:∃ p,ps.head?=some p/\(zh st).names.lookup p=some .local)(b:k8 K fd ps [])(m:mg x=some (.ref f))(q:∀ (qZ:Value) (A:Around) (outer:List Env) (s:Shared) (H:Hp) (E:XK) (ds:List D) (U:EV->Prop),Room k (A.deeper (envOfC qual (zh st) s.heap.objs.size f qZ))->ds.length=ps.length->T ds U ->
   ∃ t,SDsp (λ_=>True) (cxOf CX0 P w K mg base N qual (zh st) f qZ A outer s H E).nox (xp st) t/\t (wj N.length ds) {nx:=λ_=>U (dv .non),rt:=λr=>vk r/\U r}):FD P w K mg base (k+1) x ps T:=⟨f,fd,Bq F S j q,b,F.kp,m⟩
def Bw(I:ED Y X a ta)(q:ED Y X b tb)(j:behindInMarks .NotIn b=false:=by with_unfolding_all rfl):ET Y X (.Compare a [.NotIn] [b] pos) (tBo (d2 (sInC true) ta tb)):=qy ss Yx I q j
def Lp:ua X (.type "int") (λxs H Q=>∃z n,xs=[.str z]/\PySem.intText? z=some n/\z.length<=640/\Q (.int n) H):=by
 intro pn s σ H xs us Q I r h;obtain⟨z,n,rfl,Z,hl,q⟩:=h;obtain⟨u,rfl,j⟩:=sf r;obtain⟨t,rfl⟩:=j;exact W.KIN.call_text Z hl ⟨.int n,H,I.tok _,⟨_,rfl⟩,q⟩
variable{p:Pos}
def sIntS:FT:=λds U=>match ds with
 |[.str z]=>∃n,PySem.intText? z=some n/\z.length<=640/\U (dv (.int n))
 |_=>False
def Bz(Z:X.mg "int" = none)(ha:EA Y X (e::es) t)(hg:Gl X "int":=by rfl)(he:S_ X e es:=by rfl)(j:B_ X es pos:=by rfl):ED Y X (.Call (.Name "int" p) (e::es) [] pos) (dCB sIntS t) :=
 vo Lp (λH O ds vs U Q ho q h k=>by
  unfold sIntS at h;split at h
  ·obtain⟨n,I,hl,h⟩:=h;obtain⟨v,ws,rfl,h1,rfl⟩:=q;cases (show v=_ from h1);exact⟨_,n,rfl,I,hl,k _ (dv (.int n)) H (Same.refl H) (by exact rfl) h⟩
  exact h.elim) Z bh ha hg (by decide) (by decide) he j
def Hl(h:i.natAbs<10 ^ 60):PySem.intText? (PySem.Str.ofString (toString i))=some i:=by
 have ec:(PySem.Str.ofString (toString i)).cps.toList=Vv i:=by unfold Vv;rfl
 have len:∀m:Nat,m<10 ^ 60->((Nat.toDigits 10 m).map Char.toNat).length<=60:=λm q=>by
  rw[zLm];exact(Nat.length_toDigits_le_iff (b:=10) (n:=m) (k:=60) (by decide) (by decide)).mpr q
 have Z:∀m:Nat,(Nat.toDigits 10 m).map Char.toNat≠[]:=λm e=>by
  have:=congrArg List.length e;rw[zLm]at this;exact absurd this (Nat.ne_of_gt (Nat.length_toDigits_pos))
 have sz:∀z:Str,z.length=z.cps.toList.length:=λz=>(Array.length_toList).symm;cases i with
 |ofNat m =>
  have j:(PySem.Str.ofString (toString (Int.ofNat m))).cps.toList=(Nat.toDigits 10 m).map Char.toNat:=b5 m;have q:m<10 ^ 60:=h;have:=PySem.intText_digits (x:=PySem.Str.ofString (toString (Int.ofNat m))) (by rw[j];exact λc I=>t9 I) (by rw[j];exact Z m) (by rw[sz,j];exact zak (len m q) (by decide))
  rw[this,j,W.KIN.val_back];rfl
 |negSucc m =>
  have j:(PySem.Str.ofString (toString (Int.negSucc m))).cps.toList=45::(Nat.toDigits 10 (m+1)).map Char.toNat:=cz m;have q:m+1<10 ^ 60:=h;have:=PySem.intText_neg (x:=PySem.Str.ofString (toString (Int.negSucc m))) j (λc I=>t9 I) (Z _) (by rw[sz,j,zLc];have:=len (m+1) q;omega)
  rw[this,W.KIN.val_back];rfl
section
end
def cutS(x:Str)(lo hi:Option Int):Str:=⟨((x.cps.toList.drop (ZZ.sIx x.length 0 lo)).take (ZZ.sIx x.length x.length hi-ZZ.sIx x.length 0 lo)).toArray⟩
def Aa(n:Nat)(lo:Option Int):(match lo with|none=>(0:Int)|some i=>max 0 (min (if i<0 then i+(n:Int) else i) (n:Int)))=((min (ZZ.sIx n 0 lo) n:Nat):Int):=by
 cases lo with
 |none=>simp[ZZ.sIx]
 |some i =>
  simp only[ZZ.sIx];by_cases h:i<0
  ·simp only[h,if_true] <;> omega
  simp only[h,if_false] <;> omega
def Ab(n:Nat)(hi:Option Int):(match hi with|none=>(n:Int)|some i=>max 0 (min (if i<0 then i+(n:Int) else i) (n:Int)))=((min (ZZ.sIx n n hi) n:Nat):Int):=by
 cases hi with
 |none=>simp[ZZ.sIx]
 |some i =>
  simp only[ZZ.sIx];by_cases h:i<0
  ·simp only[h,if_true] <;> omega
  simp only[h,if_false] <;> omega
def Zk1(n d:Nat)(j:d<=n)(o:Option Int):ZZ.sIx n d o<=n:=by
 cases o with
 |none=>exact j
 |some i =>
  simp only[ZZ.sIx];by_cases h:i<0
  ·simp only[h,if_true] <;> omega
  simp only[h,if_false] <;> omega
def B9(lo hi:Option Int)(n:Nat):Builtin.Str.strSliceIndices lo hi 1 n=(List.range (ZZ.sIx n n hi-ZZ.sIx n 0 lo)).map (ZZ.sIx n 0 lo+·):=by
 have e:Builtin.Str.strSliceIndices lo hi 1 n=sliceRange (match lo with|none=>(0:Int)|some i=>max 0 (min (if i<0 then i+(n:Int) else i) (n:Int))) (match hi with|none=>(n:Int)|some i=>max 0 (min (if i<0 then i+(n:Int) else i) (n:Int))) 1:=by
  unfold Builtin.Str.strSliceIndices;simp only[show(1:Int) > 0 by decide,if_true]
  cases lo <;> cases hi <;> rfl
 rw[e,Aa,Ab,Nat.min_eq_left (Zk1 n 0 (Nat.zero_le _) lo),Nat.min_eq_left (Zk1 n n (zaj _) hi),sliceRange_one]
def Ow(x:Str)(lo hi:Option Int):Txt.slice x lo hi=cutS x lo hi:=by
 unfold Txt.slice;rw[B9];have pk:=pick_run x.cps (ZZ.sIx x.length 0 lo) (ZZ.sIx x.length x.length hi-ZZ.sIx x.length 0 lo);rw[pk];have n:x.length=x.cps.toList.length:=(Array.length_toList).symm;split
 ·rename_i h;simp only[zLm,List.length_range,Bool.and_eq_true,beq_iff_eq]at h;have h2:=Zk1 x.length x.length (zaj _) hi;have h1:=Zk1 x.length 0 (Nat.zero_le _) lo;have q:ZZ.sIx x.length 0 lo=0:=by omega
  have j:ZZ.sIx x.length x.length hi=x.length:=by omega
  unfold cutS;rw[q,j,Nat.sub_zero,List.drop_zero,n,List.take_length]
 rfl
def Nr{v:Value}{o:Option Int}(h:IsPart v o):∃p:Option (Int×Tok),p.map (·.1)=o/\v=partValue p:=by
 cases o with
 |none=>exact⟨none,rfl,by cases h;rfl⟩
 |some i=>first|(obtain⟨t,rfl⟩:=h;exact⟨some (i,t),rfl,rfl⟩)|(cases h;exact⟨some (i,_),rfl,rfl⟩)
def z0j:SlR X (λx lo hi H Q=>∃z,x=.str z/\z.length<=sizeLine/\Q (.str (cutS z lo hi)) H):=by
 intro pn s σ H x v vl vu lo hi sl Q I j hs pl Z h;obtain⟨z,rfl,hz,q⟩:=h;obtain⟨t,rfl⟩:=j;obtain⟨p1,rfl,rfl⟩:=Nr pl;obtain⟨p2,rfl,rfl⟩:=Nr Z;obtain⟨o,ho,hc,hd⟩:=hs;refine⟨"str",_,F.slot_str_getitem.lookup,typeIs_str _ _ _,wpAny_getItem_str_slice (l:=p1) (u:=p2) (st:=none) ⟨o,ho,hc,hd⟩ rfl ?_⟩;refine post_val_or_str ⟨zak (Txt.slice_le z _ _) hz,λt' k=>⟨.str (cutS z (p1.map (·.1)) (p2.map (·.1))),H,I.tok _,⟨t',?_⟩,q⟩⟩;rw[<- Ow];rfl
def sSlS:D->Option Int->Option Int->(EV->Prop)->Prop:=λx lo hi U=>match x with
 |.str z=>z.length<=sizeLine/\U (dv (.str (cutS z lo hi)))
 |_=>False
def dSlS(te:TD)(tl th:TDo):TD:=λL U=>te L λx=>tl L λl=>th L λu=>sSlS x.d l u U
def L6{lo hi:Option Expr}{tl th:TDo}{p2:Pos}(he:ED Y X e te)(hl:EO Y X lo tl)(hu:EO Y X hi th):ED Y X (.Subscript e (.Slice lo hi none p2) pos) (dSlS te tl th):=λH_ =>
 impE (Rm z0j (he H_) (hl H_) (hu H_)) λσ H Q q=>by
  obtain⟨L,o,R,U,I,k⟩:=q;refine⟨L,o,R,_,I,λv r H1 s1 rv h1=>⟨L,o,R.to s1,_,h1,λl H2 s2 h2=>⟨L,o,R.to (s1.trans s2),_,h2,λu H3 s3 Z=>?_⟩⟩⟩;have j:=(s1.trans s2).trans s3;obtain⟨kd,d⟩:=r;cases d with
  |str z =>
   cases (show v=_ from rv.view)
   exact⟨z,rfl,Z.1,k _ (dv (.str _)) H3 j (by exact rfl) Z.2⟩
  |_=>exact Z.elim
def z5u{P:Program}{w:World}{K:W.Frag}{mg:Str->Option Value}{base:Heap}{k:Nat}{x:Str}{ps:List Str}{T:FTX}{T':FT}(F:FX P w K mg base k x ps T)(h:∀ ds U,T' ds U->T ds U λ_=>False):FD P w K mg base k x ps T':=by
 obtain⟨f,fd,ok,b,kp,m⟩:=F.ex;refine⟨f,fd,⟨λvs H Q E Z=>?_,λA outer s H j us vs Q E hr he hb hv Z=>?_⟩,b,kp,m⟩
 ·obtain⟨ds,U,hl,hR,hT,I⟩:=Z;exact ok.len vs H Q (λ_ _ _=>False) ⟨ds,U,λ_=>False,hl,hR,h _ _ hT,I,λ_ _ _ z=>z.elim⟩
 obtain⟨ds,U,hl,hR,hT,I⟩:=Z;refine codeAny_mono (ok.run A outer s H j us vs Q (λ_ _ _=>False) hr he hb hv ⟨ds,U,λ_=>False,hl,hR,h _ _ hT,I,λ_ _ _ z=>z.elim⟩) λr s' q=>?_
 match r,q with
 |.ok (.ret u),q=>exact q
 |.error e,q =>
  obtain⟨_,_,_,_,_,_,_,_,_,_,z⟩:=q;exact z.elim
def spI(K:W.Frag)(n:Nat)(T:List D->Prop):Sp:=λvs H Q _=>∃ds v ws,vs=v::ws/\ds.length=n/\Reps K H [] ds vs/\T ds/\∀H',Same H H'->Q v H'
structure FI(P:Program)(w:World)(K:W.Frag)(mg:Str->Option Value)(base:Heap)(k:Nat)(x:Str)(ps:List Str)(T:List D->Prop):Prop where
 ex:∃f fd,FnOk P w K mg base CX0 k f fd ps (spI K ps.length T)/\k8 K fd ps []/\W.keepIn K (.ref f)=true/\mg x=some (.ref f)
def Ek(n:Nat)(T:List D->Prop)(t:TDs):TD:=λL U=>t L λrs=>Nat.beq rs.length n=true/\T (rs.map EV.d)/\∃r,rs[0]?=some r/\U r
variable{ps:List Str}{T:List D->Prop}{k:Nat}
def rc(F:FI X.prog X.w X.K X.mg X.base k x ps T)(hr:Room k X.A)(ha:EA Y X (e::es) t)(hg:Gl X x:=by rfl)(a2:D_ x:=by decide)(he:S_ X e es:=by rfl)(a1:B_ X es pos:=by rfl):ED Y X (.Call (.Name x p) (e::es) [] pos) (Ek ps.length T t):=λH_=>by
 obtain⟨f,fd,ok,b,kp,m⟩:=F.ex;refine impE (Uy ok hr hg m kp b .nil Cg (ha H_) a2 he a1) λσ H Q q=>?_;obtain⟨L,o,R,U,a0,kk⟩:=q;refine⟨L,o,R,_,a0,λvs rs H1 s1 j h1=>?_⟩;obtain⟨h1,h2,r,Z,I⟩:=h1;show spI X.K ps.length T (vs++[]) H1 Q E0;rw[List.append_nil];have rp:=j.reps0;cases rs with
 |nil=>cases Z
 |cons r' rs =>
  cases Z
  obtain⟨v,ws,rfl,rv,_⟩:=j;exact⟨_,v,ws,rfl,by rw[zLm];exact Nat.eq_of_beq_eq_true h1,rp,h2,λH2 s2=>kk v r H2 (s1.trans s2) (rv.same s2) I⟩
def z3g{x y qual:Str}{st:Stmt}{f:Addr}{fd:FuncData}{N ps:List Str}{k:Nat}{T:List D->Prop}{c:Expr}{rs:List Stmt}{p1 p2 p3:Pos}(F:Fun K x qual st f fd)(S:zt N ps (zh st))(b:k8 K fd ps [])(m:mg x=some (.ref f))(hb:xp st=[.If c rs [] p1,.Return (some (.Name y p2)) p3])(hy:N[0]?=some y)(a0:1<=ps.length)(hv:Vis (zh st) y)(hd:D_ y)(j:(y==("__classdict__" : Str))=false)(Z:∀ (qZ:Value) (A:Around) (outer:List Env) (s:Shared) (H:Hp) (E:XK) (ds:List D),Room k (A.deeper (envOfC qual (zh st) s.heap.objs.size f qZ))->ds.length=ps.length->T ds ->
   ∃ t,ET (λ_=>True) (cxOf CX0 P w K mg base N qual (zh st) f qZ A outer s H E).nox c t/\t (wj N.length ds) λb=>b=false):FI P w K mg base (k+1) x ps T:=by
 refine⟨f,fd,F.ok S (λvs H Q E h=>?_) (λqZ A outer s H vs Q E hr h=>?_),b,F.kp,m⟩
 ·obtain⟨ds,v,I,rfl,hl,r,_⟩:=h;rw[r.length,hl]
 obtain⟨ds,v,I,rfl,hl,r,hT,kk⟩:=h;obtain⟨t,ht,hq⟩:=Z qZ A outer s H E ds hr hl hT;rw[hb];refine⟨_,uz (Ut (ht ⟨H,trivial⟩) d5 d4) (ub (Zq (rk hy hv hd j))),?_⟩;refine⟨wj N.length ds,[],ku r,_,hq,λbb H' s' q=>?_⟩;subst q;exact iteF ⟨v,rfl,kk H' s'⟩
variable{a:Addr}
def D6(f:Str->Option Value)(ty:TE):TE:=λσ H Q=>ty σ H λy H1=>∃z v,y=.str z/\RelV v ((f z).getD .none)/\Q v H1
def pe_getTop(T:TopDict X.prog X.w X.K a f)(hg:Gl X x)(hm:X.mg x=some (.ref a))(hd:D_ x)(he:PE X e ty)(m:M1 X (.Name x p) "get" apos e cpos):PE X (.Call (.Attribute (.Name x p) "get" apos) [e] [] cpos) (D6 f ty):=by
 intro pn s σ H Q I h;refine wpAny_Call_method m.base m.few m.line PySem.F.plainAttrs_dict PySem.F.slot_dict_get PySem.F.type_dict_get (thn (Yt hg hm (v:=.ref a) rfl hd pn s σ H (λv H1=>v=.ref a/\H1=H) I ⟨rfl,rfl⟩) λu s1 ⟨y,H1,I1,j,Z,eH⟩=>?_);subst Z eH;cases (show u=Value.ref a from j);have mp:=T.map I1;obtain⟨es,ep,lk,hk,hf⟩:=T.at_;refine⟨mp.typeIs,λb q=>?_,?_⟩
 ·cases q
  exact⟨_,I1.kIn a _ lk,rfl⟩
 rw[m.trees];refine Calls.callWith_builtin rfl (Calls.evalArgs_plain (Calls.spliced_cons (thn (he pn s1 σ _ _ I1 h) λiv s2 ⟨y,H2,I2,j,z,v,Z,rv,q2⟩=>Calls.spliced_nil ?_)));subst Z;obtain⟨t,rfl⟩:=j;exact call_meetsIn PySem.F.slot_dict_get (T.map I2).typeIs PySem.F.entry_dict_get (PySem.F.args_dict_get_2 _ _) (meets_dict_get (strKind X.prog X.w) a (isStr_self z t) T.ne) ⟨_,T.map I2,v,H2,I2.tok _,rv,q2⟩
variable{a:Expr}
def Lh(j:List (Str×Cst))(ta:TD):TD:=λL U=>ta L λr=>match r.d with
 |.str z=>U (dv ((tabL j z).elim .non cstD))
 |_=>False
def Vt(G:GT X.prog X.w X.K X.mg x tab)(ha:ED Y X a ta)(hg:Gl X x:=by rfl)(hd:D_ x:=by decide)(m:M1 X (.Name x p) "get" apos a cpos:=by exact⟨rfl,rfl,rfl,rfl⟩):ED Y X (.Call (.Attribute (.Name x p) "get" apos) [a] [] cpos) (Lh tab ta):=λH_=>by
 obtain⟨t,f,a0,T,h1,h2⟩:=G.ex;refine impE (ZZ.pe_getTop T hg a0 hd (ha H_) m) λσ H Q q=>?_;obtain⟨L,o,R,U,Z,kk⟩:=q;refine⟨L,o,R,_,Z,λv r H1 s1 rv j=>?_⟩;obtain⟨kd,d⟩:=r;cases d with
 |str z =>
  cases (show v=_ from rv.view)
  dsimp only at j
  cases ec:tabL tab z with
  |some c =>
   rw[ec]at j;obtain⟨u,w,e',I,cr⟩:=h2 z c ec;exact⟨z,w,rfl,by rw[e'];exact I,kk _ _ H1 s1 (RV.val (Yn cr)) j⟩
  |none =>
   rw[ec]at j;exact⟨z,.non,rfl,by rw[h1 z ec];rfl,kk _ (dv .non) H1 s1 (by exact rfl) j⟩
 |_=>exact j.elim
def spO(K:W.Frag)(n:Nat)(T:FT):Sp:=λvs H Q _=>∃ds U,ds.length=n/\Reps K H [] ds vs/\T ds U/\∀v r H',Same H H'->RV K H H' [] r v->U r->Q v H'
structure FO(P:Program)(w:World)(K:W.Frag)(mg:Str->Option Value)(base:Heap)(k:Nat)(x:Str)(ps:List Str)(T:FT):Prop where
 ex:∃f fd,FnOk P w K mg base CX0 k f fd ps (spO K ps.length T)/\k8 K fd ps []/\W.keepIn K (.ref f)=true/\mg x=some (.ref f)
def Nz:DE->Prop
 |[]=>True
 |none::L=>Nz L
 |some r::L=>(match r.k with|.own=>False|_=>True)/\Nz L
theorem Yw:∀{L:DE}{i:Nat}{r:EV},Nz L->L[i]?=some (some r)->r.k≠.own
 |none::L,0,r,h,e=>by simp at e
 |some r'::L,0,r,h,e=>by
  have e:r'=r:=by simpa using e
  subst e;exact tm h.1
 |none::L,i+1,r,h,e=>Yw (L:=L) (i:=i) h (by simpa using e)
 |some r'::L,i+1,r,h,e=>Yw (L:=L) (i:=i) h.2 (by simpa using e)
def REnv.less0{K:W.Frag}{H_ H:Hp}{σ:St}{L:DE}{o:List (Nat×Addr)}(R:REnv K H_ H σ L o)(h:Nz L):REnv K H_ H σ L [] :=
 ⟨R.same,λ_ z=>(nomatch z),λ_ z=>(nomatch z),λ_ z=>(nomatch z),List.nodup_nil,λi r e=>by
  obtain⟨v,j,q|q⟩:=R.slots i r e
  ·exact⟨v,j,.inl ⟨q.1,Rep.sub (λ_ z=>absurd z (by simp)) _ _ q.2⟩⟩
  exact absurd q.1 (Yw h e),R.len⟩
def z4t(i n:Nat)(T:FT)(t:TDs):TDS:=λL Z=>Nz L/\t L λrs=>Nat.beq rs.length n=true/\T (rs.map EV.d) λr=>Z.nx (setS L i (dv r.d))
variable{T:FT}{pos2:Pos}
def Dm(i:Nat)(hN:X.N.Nodup)(F:FO X.prog X.w X.K X.mg X.base k x ps T)(hr:Room k X.A)(ha:EA Y X (e::es) t)(hi:X.N[i]?=some y:=by rfl)(hx:Loc X.env.scope y:=by first|exact Or.inl rfl|exact Or.inr rfl)(hs:swapsWith (.Call (.Name x p) (e::es) [] pos2) (some (.Name y pos')) pos.line X.env=pure false:=by rfl)(hf:X.fn y=true\/X.env.scope.names.lookup y=some .local:=by first|exact .inl rfl|exact .inr rfl|assumption)(hg:Gl X x:=by rfl)(a0:D_ x:=by decide)(he:S_ X e es:=by rfl)(I:B_ X es pos2:=by rfl):SD Y X (.Assign [.Name y pos'] (.Call (.Name x p) (e::es) [] pos2) pos) (z4t i ps.length T t):=λH_=>by
 obtain⟨f,fd,ok,b,kp,m⟩:=F.ex;refine impS (Rk hN hi hx (Uy ok hr hg m kp b .nil Cg (ha H_) a0 he I) hs hf) λD σ H h=>?_;obtain⟨L,o,R,Z,hZ,k1,k2,k3,k4⟩:=h;have R0:=R.less0 hZ.1;refine⟨L,[],R0,_,hZ.2,λvs rs H1 s1 j h1=>?_⟩;show spO X.K ps.length T (vs++[]) H1 _ E0;rw[List.append_nil];refine⟨rs.map EV.d,_,by rw[zLm];exact Nat.eq_of_beq_eq_true h1.1,j.reps0,h1.2,λv r H2 s2 rv h2=>?_⟩
 have rp:Rep X.K H2 [] r.d v:=by
  have:=RVs.reps0 (rs:=[r]) (vs:=[v]) ⟨v,[],rfl,rv,rfl⟩;obtain⟨v',ws,e,q,_⟩:=this;cases e;exact q
 obtain⟨o',R',g⟩:=R0.put (r:=dv r.d) (s1.trans s2) i rp (λz=>(nomatch z));exact k1 _ _ H2 o' (Grow.trans ⟨λb u h n=>⟨h,λz=>absurd z (by simp)⟩,λb xs h=>h,λb ob u h=>h⟩ g) R' h2
def z5s{x qual:Str}{st:Stmt}{f:Addr}{fd:FuncData}{N ps:List Str}{k:Nat}{T:FT}(F:Fun K x qual st f fd)(S:zt N ps (zh st))(b:k8 K fd ps [])(m:mg x=some (.ref f))(Z:∀ (qZ:Value) (A:Around) (outer:List Env) (s:Shared) (H:Hp) (E:XK) (ds:List D) (U:EV->Prop),Room k (A.deeper (envOfC qual (zh st) s.heap.objs.size f qZ))->ds.length=ps.length->T ds U ->
   ∃ t,SDs (λ_=>True) (cxOf CX0 P w K mg base N qual (zh st) f qZ A outer s H E).nox (xp st) t/\t (wj N.length ds) {nx:=λ_=>False,rt:=U}):FO P w K mg base (k+1) x ps T:=by
 refine⟨f,fd,F.ok S (λvs H Q E h=>?_) (λqZ A outer s H vs Q E hr h=>?_),b,F.kp,m⟩
 ·obtain⟨ds,U,hl,r,_⟩:=h;rw[r.length,hl]
 obtain⟨ds,U,hl,r,hT,kk⟩:=h;obtain⟨t,ht,hq⟩:=Z qZ A outer s H E ds U hr hl hT;exact⟨Yz K H t,ht ⟨H,trivial⟩,wj N.length ds,[],ku r,_,hq,λ_ _ _ _ _ _ q=>q.elim,λ_ _ _ _ _ _ q=>q.elim,λ_ _ _ _ _ _ q=>q.elim,λv I H' s' j q=>kk v I H' s' j q⟩
def ve{α:Type}{us:List α}(h:us.length=1):∃a0,us=[a0]:=match us,h with
 |[a0],_=>⟨a0,rfl⟩
def Ww{α:Type}{us:List α}(h:us.length=2):∃a0 a1,us=[a0,a1]:=match us,h with
 |[a0,a1],_=>⟨a0,a1,rfl⟩
def Mf{α:Type}{us:List α}(h:us.length=3):∃a0 a1 a2,us=[a0,a1,a2]:=match us,h with
 |[a0,a1,a2],_=>⟨a0,a1,a2,rfl⟩
def Ha{α:Type}{us:List α}(h:us.length=4):∃a0 a1 a2 a3,us=[a0,a1,a2,a3]:=match us,h with
 |[a0,a1,a2,a3],_=>⟨a0,a1,a2,a3,rfl⟩
def P7{α:Type}{us:List α}(h:us.length=5):∃a0 a1 a2 a3 a4,us=[a0,a1,a2,a3,a4]:=match us,h with
 |[a0,a1,a2,a3,a4],_=>⟨a0,a1,a2,a3,a4,rfl⟩
def z2k{α:Type}{us:List α}(h:us.length=6):∃a0 a1 a2 a3 a4 a5,us=[a0,a1,a2,a3,a4,a5]:=match us,h with
 |[a0,a1,a2,a3,a4,a5],_=>⟨a0,a1,a2,a3,a4,a5,rfl⟩
def z5g{α:Type}{us:List α}(h:us.length=8):∃a0 a1 a2 a3 a4 a5 a6 a7,us=[a0,a1,a2,a3,a4,a5,a6,a7]:=match us,h with
 |[a0,a1,a2,a3,a4,a5,a6,a7],_=>⟨a0,a1,a2,a3,a4,a5,a6,a7,rfl⟩
abbrev pJ:List Str:=["expression","names","known"]
abbrev pB:List Str:=["parts","wanted","shape","names","known"]
abbrev pC:List Str:=["thing"]
abbrev pI:List Str:=["body","names","due","known"]
abbrev pS:List Str:=["body","brought","names","due","known"]
abbrev pN:List Str:=["_law_script","_law_k"]
abbrev pF:List Str:=["_law_cell","_law_k"]
abbrev pK:List Str:=["_law_feed"]
abbrev pG:List Str:=["_law_made"]
abbrev pO:List Str:=["_law_there","_law_shape","_law_cell"]
abbrev pD:List Str:=["_law_feed","_law_heads","_law_there","_law_shape","_law_deep"]
abbrev pH:List Str:=["_law_feed","_law_heads","_law_there","_law_names","_law_shape","_law_deep"]
abbrev pQ:List Str:=["_law_feed","_law_heads","_law_there","_law_names","_law_shape","_law_deep","_law_opened","_law_kind"]
abbrev pE:List Str:=["part","many"]
abbrev pT:List Str:=["_law_name_here","_law_cell","_law_most"]
abbrev pL:List Str:=["_law_name_here","_law_params","_law_shape","_law_size","_law_body_here"]
abbrev pP:List Str:=["_law_feed","_law_heads","_law_head_here","_law_words"]
abbrev pM:List Str:=["_law_e_here","_law_words"]
abbrev pU:List Str:=["_law_way","_law_cell","_law_name_here","_law_words"]
abbrev pR:List Str:=["_law_way","_law_cell","_law_name_here","_law_other","_law_words"]
local macro_rules|`(tactic| walk_at "dl")=>do
 let ids <- (("q_ Q_ sNil sSeq sRet sIf sSet z0q d2 d1 cv dC slot setS EV.sto EV.ret aNil z4c dTup dLst A8 dCB Zg vAnd vOr vNot vIf bAnd bOr bNot bYes tTru tBo truD sSub sFd sMod sPow sLt sGt sGe sI sI0 sAdd sMul sNeg sEq sNe Rc Be sIx1 sSl dSl z2e z2d sLen sIsI sStr sTupC sIntC sApp iSeq iR1 iR2 E3 gN gT2 wj Td V3 Pd Tj Tg V6 Tf Tc Tb X4 Ta V0 V4 X7 Th List.map_cons List.map_nil zLc zLn List.cons_append List.nil_append List.replicate_succ List.replicate_zero Nat.reduceAdd Nat.reduceSub Nat.zero_add Nat.sub_self Bool.and_self Bool.and_true Bool.true_and true_and and_true Bool.not_true Bool.not_false forall_const true_implies false_implies Bool.true_eq_false Bool.false_eq_true reduceCtorEq implies_true uc z2c xn T3 Xp ue z3m vk re vg Bool.not_eq_eq_eq_not beq_eq_false_iff_ne beq_iff_eq ne_eq decide_eq_true_eq decide_eq_false_iff_not Bool.not_eq_true Bool.not_eq_false not_true_eq_false not_false_eq_true jg jf Ly and_self Nat.beq_eq Nat.ble_eq Nat.reduceLeDiff eq_self Nat.reduceEqDiff sIxx keyD sIn c7 cp10 Int.reduceLE Int.reduceToNat Oe bj zLm Option.map_some Int.zero_add z0r Int.reduceEq Int.reduceNeg Int.reduceLT Fk Ej sTry hanZ clrS frzE Option.map_none dIsE sFrz frzS iZ Kx Kv Kw Vb sIsB Yi z3t z3w A6 Jc Yr J1 V2 X5 X6 V8 X8 V1 Te V5 Pb Ti V7 sDictC sDictP Dp seqD z0p dFd0 N5 N2 z0n Rj z3v Lg Ei sIxC sInC Dr Qb gT4 sListW cstD Lj sAnyI Eh Ek Lh".splitOn " ").toArray).mapM λs=>`(Lean.Parser.Tactic.simpLemma| $(Lean.mkIdent s.toName):ident)
 `(tactic| simp only[$ids,*])
seal SDs SD ED EA ET EW
def Fm(K:W.Frag)(mg:Str->Option Value)(x:Str)(i:Nat):Prop:=∃f fd,Fun K x x (top i) f fd/\mg x=some (.ref f)
def cs1{P:Program}{w:World}{K:W.Frag}{mg:Str->Option Value}{base:Heap} {X0 sc T F N q st f v A o s H E} (h:xf (zh st) sc T F):xf (cxOf X0 P w K mg base N q (zh st) f v A o s H E).nox.env.scope sc T F:=h
def cs2{P:Program}{w:World}{K:W.Frag}{mg:Str->Option Value}{base:Heap} {X0 sc T F N q st f v A o s H E} (h:xf (zh st) sc T F):xf (cxOf X0 P w K mg base N q (zh st) f v A o s H E).env.scope sc T F:=h
def fdl{i j:Int}(h:j≠0:=by decide)(h1:j.natAbs<=1000000000000:=by decide):FdOk i j:=of_eq_true (z3i h h1)
structure Tops(mg:Str->Option Value):Prop where
 ValueError:mg "ValueError" = none
 all:mg "all" = none
 any:mg "any" = none
 bool:mg "bool" = none
 dict:mg "dict" = none
 int:mg "int" = none
 isinstance:mg "isinstance" = none
 len:mg "len" = none
 list:mg "list" = none
 range:mg "range" = none
 set:mg "set" = none
 str:mg "str" = none
 tuple:mg "tuple" = none
 zip:mg "zip" = none
variable{f:Addr}{fd:FuncData}
def km:List Str:=["num","list","tree"]
def cs(j:List Str):Cst:=.tup (j.map Cst.str)
def Rz:List (Str×Cst):=[("nil",.tup [cs [],.str "list"]),("cons",.tup [cs ["num","list"],.str "list"]),("leaf",.tup [cs [],.str "tree"]),("node",.tup [cs ["tree","num","tree"],.str "tree"]),("add",.tup [cs ["num","num"],.str "num"]),("sub",.tup [cs ["num","num"],.str "num"])]
def fg:List (Str×Cst):=[("list",cs ["num","list"]),("tree",cs ["tree","num","tree"])]
structure Con2(P:Program)(w:World)(K:W.Frag)(mg:Str->Option Value):Prop where
 c_SHAPES:GC K mg "SHAPES" (.cn (cs km))
 c_NO_NAMES:GC K mg "NO_NAMES" (.cn (cs ["nil","leaf"]))
 c_LETTERS:GC K mg "LETTERS" (.str "abcdefghijklmnopqrstuvwxyz")
 t_FORMS:GT P w K mg "FORMS" Rz
 t_BROUGHT:GT P w K mg "BROUGHT" fg
def optD:Option Str->D
 |some s=>.str s
 |none=>.non
def prD(p:Str×Str):D:=.tup [.str p.1,.str p.2]
def yv(j:List (Str×Str)):D:=.dk (j.map λp=>Sum.inr p.1) (j.map λp=>.str p.2)
def v7:List (Str×Str)->Str->Option Str
 |[],_=>none
 |p::r,z=>if z=p.1 then some p.2 else v7 r z
theorem dj(z:Str):∀rows:List (Str×Str),uo (rows.map λp=>(Sum.inr p.1:Key)) (rows.map λp=>D.str p.2) (Sum.inr z)=(v7 rows z).map D.str
 |[]=>rfl
 |p::r=>by
  show(if (Sum.inr p.1:Key)=Sum.inr z then some (D.str p.2) else uo (r.map λp=>(Sum.inr p.1:Key)) (r.map λp=>D.str p.2) (Sum.inr z))=_
  unfold v7;by_cases h:z=p.1
  ·rw[if_pos h,if_pos (by rw[h])]
   rfl
  rw[if_neg h,if_neg (λe=>h (Sum.inr.inj e).symm)];exact dj z r
structure Fn where
 name:Str
 params:List (Str×Str)
 shape:Str
 size:List Int
 body:D
def fnD(f:Fn):D:=.tup [.str f.name,.tup (f.params.map prD),.tup [.str f.shape,.tup (f.size.map D.int)],f.body]
def xj(fs:List Fn):D:=.dk (fs.map λf=>Sum.inr f.name) (fs.map fnD)
def fnL:List Fn->Str->Option Fn
 |[],_=>none
 |f::r,z=>if z=f.name then some f else fnL r z
theorem Rr(z:Str):∀fs:List Fn,uo (fs.map λf=>(Sum.inr f.name:Key)) (fs.map fnD) (Sum.inr z)=(fnL fs z).map fnD
 |[]=>rfl
 |f::r=>by
  show(if (Sum.inr f.name:Key)=Sum.inr z then some (fnD f) else uo (r.map λf=>(Sum.inr f.name:Key)) (r.map fnD) (Sum.inr z))=_
  unfold fnL;by_cases h:z=f.name
  ·rw[if_pos h,if_pos (by rw[h])]
   rfl
  rw[if_neg h,if_neg (λe=>h (Sum.inr.inj e).symm)];exact Rr z r
theorem Eb(z:Str):∀fs:List Fn,((Sum.inr z:Key)∈fs.map λf=>(Sum.inr f.name:Key)) ↔ (fnL fs z).isSome=true
 |[]=>by simp[fnL]
 |f::r=>by
  unfold fnL;rw[List.map_cons,zam];by_cases h:z=f.name
  ·rw[if_pos h];simp[h]
  rw[if_neg h,<- Eb z r];simp only[or_iff_right_iff_imp];exact λe=>absurd (Sum.inr.inj e) h
def ifS(rs:List (Option Str))(ks:List Str)(s:Str):Option Str:=if rs=ks.map some then some s else none
def b8(fs:List Fn)(f:Str)(rs:List (Option Str)):Option Str:=match fnL fs f with
 |none=>none
 |some g=>ifS rs (g.params.map Prod.snd) g.shape
def qc(o:Str):Option (List Str×Str):=if o = "nil" then some ([],"list") else if o = "cons" then some (["num","list"],"list") else if o = "leaf" then some ([],"tree") else if o = "node" then some (["tree","num","tree"],"tree") else if o = "add" then some (["num","num"],"num") else if o = "sub" then some (["num","num"],"num") else none
def Hs(o:Str):tabL Rz o=(qc o).map λp=>.tup [cs p.1,.str p.2]:=by
 unfold qc Rz;simp only[tabL]
 repeat' split
 all_goals rfl
def Bp(o:Str)(rs:List (Option Str)):Option Str:=match qc o with
 |some p=>ifS rs p.1 p.2
 |none=>none
def w8{α:Type}(R:D->α->Prop)(es:List D)(rs:List α):Prop:=es.length=rs.length/\∀(i:Nat) e c,es[i]?=some e->rs[i]?=some c->R e c
def Sh1(fs:List Fn)(env:List (Str×Str)):Nat->D->Option Str->Prop
 |0,_,_=>False
 |n+1,e,r=>(∃i:Int,e=.tup [.str "num",.int i]/\r=some "num")\/(∃z,e=.tup [.str "var",.str z]/\r=v7 env z) \/
  (∃f es rs,e=.tup [.str "call",.str f,.tup es]/\w8 (Sh1 fs env n) es rs/\es.length<=100/\r=b8 fs f rs) \/
  (∃(o:Str)(es:List D)(rs:List (Option Str)),o≠"num"/\o≠"var"/\o≠"call"/\e=.tup (.str o::es)/\w8 (Sh1 fs env n) es rs/\es.length<=100/\r=Bp o rs)
def g3'(g:D->D->D->(EV->Prop)->Prop):FT:=λds U=>∃a b c,ds=[a,b,c]/\g a b c U
def g5'(g:D->D->D->D->D->(EV->Prop)->Prop):FT:=λds U=>∃a b c d e,ds=[a,b,c,d,e]/\g a b c d e U
def qh(n:Nat):FT:=g3' λe j q U=>∃fs env r,(∀f∈fs,f.params.length<=100)/\j=yv env/\q=xj fs/\Sh1 fs env n e r/\U (dv (optD r))
def OkK(fs:List Fn):Prop:=∀f∈fs,f.params.length<=100
def Mr{z:Str}{g:Fn}:∀{fs:List Fn},fnL fs z=some g->g∈fs
 |[],h=>by cases h
 |f::r,h=>by
  unfold fnL at h;split at h
  ·cases h
   exact zao
  exact zal _ (Mr h)
def Ze(n:Nat):FT:=g3' λe j q U=>∃fs env f es rs,OkK fs/\e=.tup [.str "call",.str f,.tup es]/\j=yv env/\q=xj fs/\w8 (Sh1 fs env n) es rs/\es.length<=100/\U (dv (optD (b8 fs f rs)))
def Yb(n:Nat):FT:=g5' λI j q Z kn U=>∃(fs:List Fn)(env:List (Str×Str))(es:List D)(rs:List (Option Str))(ws:List Str)(s:Str),(∀f∈fs,f.params.length<=100)/\I=.tup es/\(j=.lst (ws.map D.str)\/j=.cn (cs ws))/\ws.length<=100/\q=.str s/\Z=yv env/\kn=xj fs/\w8 (Sh1 fs env n) es rs/\es.length<=100/\U (dv (optD (ifS rs ws s)))
def Yu(r:Option Str):re (optD r):=by cases r <;> trivial
def Ht{o:Str}{p:List Str×Str}(h:qc o=some p):p.1.length<=100:=by
 unfold qc at h
 repeat' split at h
 all_goals first|(cases h;decide)|cases h
def z0o(m:Nat):¬(ZZ.sIx (m+1) 0 (some 1)=0/\ZZ.sIx (m+1) (m+1) none=m+1):=λz=>by
 have:=z.1;unfold ZZ.sIx at this;simp at this
def Qu{α:Type}{R:D->α->Prop}{es:List D}{rs:List α}{i:Nat}{e:D}(g:α->D)(h:w8 R es rs)(q:es[i]?=some e):∃c,rs[i]?=some c/\R e c/\(rs.take (i+1)).map g=(rs.take i).map g++[g c]:=by
 have hl:=(zag.mp q).1;have j:rs[i]?=some (rs[i]'(by rw[<- h.1];exact hl)):=by simp
 refine⟨_,j,h.2 i e _ q j,?_⟩;rw[List.take_succ,j,Option.toList_some,zMa];rfl
def Ct(rs:List (Option Str)):okD 40 (D.lst (rs.map optD)):=by
 rw[su (by decide)]
 intro x j;obtain⟨r,_,rfl⟩:=zah.mp j;cases r with
 |none=>show okD 39 .non;rw[T3];trivial
 |some z=>show okD 39 (.str z);rw[xn];trivial
def Nv(j:List Str):okD 40 (D.lst (j.map D.str)):=by
 rw[su (by decide)]
 intro x q;obtain⟨z,_,rfl⟩:=zah.mp q;rw[xn];trivial
def Bx:∀(rs:List (Option Str))(j:List Str),eqD (.lst (rs.map optD)) (.lst (j.map D.str))=decide (rs=j.map some):=by
 intro rs j;show eqDs (rs.map optD) (j.map D.str)=_
 induction rs generalizing j with
 |nil =>
  cases j with
  |nil=>rfl
  |cons w j=>rfl
 |cons r rs ih =>
  cases j with
  |nil=>cases r <;> rfl
  |cons z j =>
   show(eqD (optD r) (.str z)&&eqDs (rs.map optD) (j.map D.str))=_;rw[ih];cases r with
   |none =>
    show(false&&_)=_;simp
   |some y =>
    show(eqD (.str y) (.str z)&&_)=_;rw[ue];by_cases hy:y=z
    ·subst hy;simp
    simp[hy]
def El(j:List Str):(j.map Cst.str).map cstD=j.map D.str:=Gc j
def c9{n:Nat}(T:Tops mg)(I:FD P w K mg base (3*n+2) "shape_of" pJ (qh n))(F:Fm K mg "shape_if" 28):FD P w K mg base (3*n+3) "shape_if" pB (Yb n):=by
 have S:zt ["parts","wanted","shape","names","known"] pB (zh (top 28)):=by walk_at "f"
 walk_at "b";refine⟨_,(zd (yi (xh hu (yo (T:=["part"]) (F:=["names","known"]) (js:=[3,4]) (yp (za 0)) (cs1 (by walk_at "c")) (.cons rfl (.cons rfl .nil)) (by decide) (by walk_at "t") zx (yk 0) yG (λcl C fp s H=>(zi I hr.d (z9 (za 0) (z9 (za 1) (z9 (za 2) zb)))))) (G4 T.list (z9 (za 1) zb))) (zk (zw (za 2))) ya)
   (zk (zw Vs))),?_⟩
 obtain⟨a0,b0,c0,d0,e0,rfl,fs,env,es,rs,q,s,ok,rfl,hw,wl,rfl,rfl,rfl,hp,hl1,h⟩:=hT;walk_at "dl";refine y9 es (λN Z=>?_) (λi gs=>gs=(rs.take i).map optD) (by omega) rfl ?_ ?_
 ·exact⟨trivial,Z⟩
 ·rintro i e gs he a2 rfl;obtain⟨c,hc,a1,eq⟩:=Qu optD hp he;walk_at "p";walk_at "dl";exact⟨_,_,_,rfl,fs,env,c,ok,rfl,rfl,a1,trivial,eq.symm⟩
 rintro gs rfl;rw[hp.1,List.take_length];have j:okD 40 (D.lst (rs.map optD))/\okD 40 (D.lst (q.map D.str))/\(eqD (D.lst (rs.map optD)) (D.lst (q.map D.str))=true->U ⟨.val,.str s⟩)/\(eqD (D.lst (rs.map optD)) (D.lst (q.map D.str))=false->U ⟨.val,.non⟩):=by
  rw[Bx];unfold ifS at h;refine⟨Ct rs,Nv q,λz=>?_,λz=>?_⟩
  ·rw[if_pos (of_decide_eq_true z)]at h;exact h
  rw[if_neg (of_decide_eq_false z)]at h;exact h
 rcases hw with rfl|rfl
 ·walk_at "dl";exact j
 unfold cs;walk_at "dl";rw[El];exact j
def Xl{n:Nat}(T:Tops mg)(I:FD P w K mg base (3*n+3) "shape_if" pB (Yb n))(F:Fm K mg "call_shape" 27):FD P w K mg base (3*n+4) "call_shape" ["call","names","known"] (Ze n):=by
 have S:zt ["call","names","known","called"] ["call","names","known"] (zh (top 27)):=by walk_at "f"
 walk_at "b";refine⟨_,(zd (zj (yi (Hx hu (zn hu (za 0) zc) (za 2)) (zk (zw Vs)) ya))
   (zd (zj (zm 3 S.nd (zn hu (za 2) (zn hu (za 0) zc))))
   (zk (zw (zi I hr.d (z9 (zn hu (za 0) zc) (z9 (yo (T:=["name","shape"]) (F:=[]) (js:=[]) (yp (zn hu (za 3) zc)) (cs1 (by walk_at "c")) .nil (by decide) (by walk_at "t") (u3 (ym yc (xg yc yw) zx (ym yc yw zx u5))) (w6 0 1) yG (λcl C fp s H=>(za 1))) (z9 (zn hu (zn hu (za 3) zc) zc) (z9 (za 1) (z9 (za 2) zb)))))))))),?_⟩
 obtain⟨a0,b0,c0,rfl,fs,env,f,es,rs,ok,rfl,rfl,rfl,hp,hl1,h⟩:=hT;have lk:=Rr f fs;have mem:((Sum.inr f:Key)∈fs.map λg=>(Sum.inr g.name:Key)) ↔ (fnL fs f).isSome=true:=Eb f fs;refine ze (λL=>∃g,fnL fs f=some g/\L=[q_ (.tup [.str "call",.str f,.tup es]),q_ (yv env),q_ (xj fs),none]) ?_ ?_
 ·unfold xj;walk_at "dl";refine⟨λz=>?_,λz=>?_⟩
  ·have q:=(if_pos trivial).symm.trans z;have nn:fnL fs f=none:=by
    cases e:fnL fs f with
    |none=>rfl
    |some g =>
     have:=mem.mpr (by rw[e];rfl)
     rw[decide_eq_true this]at q;cases q
   unfold b8 at h;rw[nn]at h;exact h
  have q:=(if_pos trivial).symm.trans z;have:=mem.mp (of_decide_eq_true (by simpa using q))
  exact Option.isSome_iff_exists.mp this
 rintro _ ⟨g,eg,rfl⟩;rw[eg]at lk;have gp:=ok g (Mr eg);have j:g.params.length<=100000:=by omega
 refine z_g [q_ (.tup [.str "call",.str f,.tup es]),q_ (yv env),q_ (xj fs),q_ (fnD g)] ?_ ?_
 ·unfold xj;walk_at "dl";rw[lk];rfl
 simp only[fnD];walk_at "dl";refine y9 (g.params.map prD) (λN Z=>?_) (λi gs=>gs=((g.params.take i).map Prod.snd).map D.str) (by rw[zLm];exact zak j (by decide)) rfl ?_ ?_
 ·exact⟨trivial,Z⟩
 ·rintro i e gs he a2 rfl;rw[zai]at he;obtain⟨p,a1,rfl⟩:=zar.mp he;walk_at "p";simp only[prD];walk_at "dl";rw[List.take_succ,a1];simp
 rintro gs rfl;rw[zLm,List.take_length];walk_at "dl";unfold b8 at h;rw[eg]at h;refine⟨_,_,_,_,_,rfl,fs,env,es,rs,g.params.map Prod.snd,g.shape,ok,rfl,.inl rfl,by rw[zLm];omega,rfl,rfl,rfl,hp,hl1,?_,h⟩
 cases ifS rs (g.params.map Prod.snd) g.shape <;> trivial
def S6(T:Tops mg)(F:Fm K mg "is_whole" 18):FD P w K mg base 1 "is_whole" pC Z9:=by
 have S:zt ["thing"] pC (zh (top 18)):=by walk_at "f"
 walk_at "b";refine⟨_,(zk (zw (vp (vn T.isinstance (z9 (za 0) (z9 (Vq T.int bh) zb))) (sx (tu (vn T.isinstance (z9 (za 0) (z9 (Vq T.bool Pu) zb)))))))),?_⟩;obtain⟨a,rfl,h⟩:=z4k hT;walk_at "dl";exact h
def Tu{n:Nat}(T:Tops mg)(Z:Con2 P w K mg)(q:FD P w K mg base 1 "is_whole" pC Z9)(j:FD P w K mg base (3*n+4) "call_shape" ["call","names","known"] (Ze n))(I:FD P w K mg base (3*n+3) "shape_if" pB (Yb n))(F:Fm K mg "shape_of" 26):FD P w K mg base (3*n+5) "shape_of" pJ (qh (n+1)):=by
 have S:zt ["expression","names","known","kind"] pJ (zh (top 26)):=by walk_at "f"
 walk_at "b";refine⟨_,(zd (zm 3 S.nd (zn hu (za 0) zc))
   (zd (yi (xh hu (za 3) zg) (zk (zw (Q6 (wg (zi q hr.d (z9 (zn hu (za 0) zc) zb))) zg Vs))) ya)
   (zd (yi (xh hu (za 3) zg) (zk (zw (L8 hu (za 1) (zn hu (za 0) zc)))) ya)
   (zd (yi (xh hu (za 3) zg) (zk (zw (zi j hr.d (z9 (za 0) (z9 (za 1) (z9 (za 2) zb)))))) ya)
   (zd (yi (Vo Z.t_FORMS (za 3)) (zk (zw Vs)) ya)
   (zk (zw (zi I hr.d (z9 (xc (za 0) (xi zc) wy) (z9 (Ef (f9 Z.t_FORMS (za 3)) zc) (z9 (Ef (f9 Z.t_FORMS (za 3)) zc) (z9 (za 1) (z9 (za 2) zb))))))))))))),?_⟩
 obtain⟨a0,b0,c0,rfl,fs,env,r,ok,rfl,rfl,he,h⟩:=hT;rcases he with⟨i,rfl,rfl⟩|⟨z,rfl,rfl⟩|⟨f,es,rs,rfl,hp,hl1,rfl⟩|⟨o,es,rs,n1,n2,n3,rfl,hp,hl1,rfl⟩
 ·walk_at "dl";simp only[Z9,w1];exact⟨λ_=>h,λz=>(nomatch z)⟩
 ·have lk:=dj z env;unfold yv;walk_at "dl";rw[lk];refine⟨λz=>absurd z (by decide),λ_=>?_⟩
  have hh:(Option.map D.str (v7 env z)).getD D.non=optD (v7 env z):=by cases v7 env z <;> rfl
  rw[hh];exact⟨Yu _,h⟩
 ·walk_at "dl";refine⟨λz=>absurd z (by decide),λ_=>⟨λz=>absurd z (by decide),λ_=>?_⟩⟩
  exact⟨_,_,_,rfl,fs,env,f,es,rs,ok,rfl,rfl,rfl,hp,hl1,Yu _,h⟩
 have ft:=Hs o;have a1:cutD (D.str o::es) (some 1) none=es:=cutD_drop (D.str o::es) 1;walk_at "dl";refine⟨λz=>absurd z n1,λ_=>⟨λz=>absurd z n2,λ_=>⟨λz=>absurd z n3,λ_=>?_⟩⟩⟩;rw[a1,ft];unfold Bp at h;cases e:qc o with
 |none =>
  rw[e]at h;exact⟨λ_=>h,λz=>(nomatch z)⟩
 |some p =>
  rw[e]at h;exact⟨λz=>(nomatch z),λ_=>⟨z0o _,_,_,_,_,_,rfl,fs,env,es,rs,p.1,p.2,ok,rfl,.inr rfl,Ht e,rfl,rfl,rfl,hp,hl1,Yu _,h⟩⟩
theorem j9(T:Tops mg)(Z:Con2 P w K mg)(I:FD P w K mg base 1 "is_whole" pC Z9)(j:Fm K mg "shape_if" 28)(q:Fm K mg "call_shape" 27)(F:Fm K mg "shape_of" 26):∀n:Nat,FD P w K mg base (3*n+2) "shape_of" pJ (qh n)
 |0=>by
  have S:zt ["expression","names","known","kind"] pJ (zh (top 26)):=by walk_at "f"
  obtain⟨f,fd,F,m⟩:=F;refine x6 F S (F.binds λ_ _ _ _ _ _ us hl=>(by obtain⟨_,_,_,rfl⟩:=Mf hl;rfl)) m λqZ A outer s H E ds U hr hl hT=>?_
  obtain⟨a0,b0,c0,rfl,fs,env,r,ok,rfl,rfl,he,h⟩:=hT;exact he.elim
 |n+1=>Tu T Z I (Xl T (c9 T (j9 T Z I j q F n) j) q) (c9 T (j9 T Z I j q F n) j) F
def X1:Str:="abcdefghijklmnopqrstuvwxyz"
def rj(c:Nat):Bool:=!(Builtin.Str.occurrences X1 ⟨#[c]⟩ 0 X1.length 1).isEmpty
def IsNm(z:Str):Prop:=1<=z.length/\z.length<=8/\z≠"nil"/\z≠"leaf"/\∀c∈z.cps.toList,rj c=true
def um:FT:=g1 λd U=>∃z,d=.str z/\z.length<=1000/\∀b:Bool,(b=true ↔ IsNm z)->U (dv (.bl b))
def sj:FT:=g1 λd U=>∃zs:List Str,d=.lst (zs.map D.str)/\zs.length<=100/\∀b:Bool,(b=true ↔ zs.Nodup)->U (dv (.bl b))
def IsSh(z:Str):Prop:=z = "num"\/z = "list"\/z = "tree"
structure ji(shape:Str)(size:List Int)(shapes:List Str):Prop where
 sh:IsSh shape
 shs:∀p∈shapes,IsSh p
 sz:size.length=shapes.length+1
 nn:∀n∈size,0<=n
 z1:shape = "num"->∀n∈size,n=0
 z2:∀(i:Nat) n,shapes[i]?=some "num"->size[i+1]?=some n->n=0
def Ol:FT:=g2 λd e U=>∃(shape:Str)(size:List Int)(shapes:List Str),d=.tup [.str shape,.tup (size.map D.int)]/\e=.lst (shapes.map D.str)/\size.length<=100/\shapes.length<=100/\IsSh shape/\(∀p∈shapes,IsSh p)/\∀b:Bool,(b=true ↔ ji shape size shapes)->U (dv (.bl b))
structure uv(f:Fn):Prop where
 nm:IsNm f.name
 lo:1<=f.params.length
 hi:f.params.length<=4
 nms:∀p∈f.params,IsNm p.1
 nd:(f.params.map Prod.fst).Nodup
 gv:ji f.shape f.size (f.params.map Prod.snd)
structure Sn(f:Fn):Prop where
 nl:f.name.length<=1000
 pl:f.params.length<=50
 pn:∀p∈f.params,p.1.length<=1000/\IsSh p.2
 sh:IsSh f.shape
 sl:f.size.length<=100
def Oj:FT:=g1 λd U=>∃f:Fn,d=fnD f/\Sn f/\∀b:Bool,(b=true ↔ uv f)->U (dv (.bl b))
def nmB(z:Str):Bool:=@decide (IsNm z) (Classical.propDecidable _)
def d9{z:Str}:nmB z=true ↔ IsNm z:=by
 unfold nmB;exact @decide_eq_true_iff _ (Classical.propDecidable _)
def z2f{z:Str}{b:Bool}(h:b=true ↔ IsNm z):b=nmB z:=Bool.eq_iff_iff.mpr (h.trans d9.symm)
def zf(p:Int×Str):Bool:=p.2==("num" : Str)
def zz(l:List (Int×Str)):List Bool:=(l.filter zf).map λp=>p.1==0
def Ep{l:List (Int×Str)}{i:Nat}{p:Int×Str}(h:l[i]?=some p):zz (l.take (i+1))=zz (l.take i)++if zf p then[p.1==0] else[]:=by
 unfold zz;rw[List.take_succ,h,List.filter_append,zMa]
 congr 1
 cases e:zf p <;> simp[e]
def Pf{q:Str}{j:List Int}{shapes:List Str}(h1:IsSh q)(h2:∀ p∈shapes,IsSh p)(h3:j.length=shapes.length+1)(h4:∀ n∈j,0<=n)(h5:q≠"num"):(zz ((j.drop 1).zip shapes)).all id=true ↔ ji q j shapes:=by
 rw[List.all_eq_true];constructor
 ·intro h;refine⟨h1,h2,h3,h4,λe=>absurd e h5,λi n e1 e2=>?_⟩;have m:(n,("num" : Str))∈(j.drop 1).zip shapes:=zan (i:=i) (List.getElem?_zip_eq_some.mpr ⟨by rw[List.getElem?_drop,Nat.add_comm];exact e2,e1⟩)
  have:=h (n==0) (zah.mpr ⟨_,List.mem_filter.mpr ⟨m,rfl⟩,rfl⟩);exact beq_iff_eq.mp this
 intro g b hb;obtain⟨p,I,rfl⟩:=zah.mp hb;obtain⟨Z,hz⟩:=List.mem_filter.mp I;obtain⟨i,hi⟩:=List.getElem?_of_mem Z;have:=List.getElem?_zip_eq_some.mp hi;have e:p.2 = "num":=beq_iff_eq.mp hz;rw[List.getElem?_drop,Nat.add_comm]at this;exact beq_iff_eq.mpr (g.z2 i p.1 (by rw[this.2,e];rfl) this.1)
def z5k(z:Str):inD (.str z) [.str "nil",.str "leaf"]=decide (z = "nil"\/z = "leaf"):=by
 show((eqD (.str "nil") (.str z)) || ((eqD (.str "leaf") (.str z)) || false))=_
 rw[ue,ue,Bool.or_false];by_cases h1:z = "nil"
 ·subst h1;simp
 by_cases h2:z = "leaf"
 ·subst h2;simp
 simp[h1,h2,Ne.symm h1,Ne.symm h2]
def z5j{z:Str}(h:IsSh z):inD (.str z) ((km.map Cst.str).map cstD)=true:=by
 rcases h with rfl|rfl|rfl <;> decide
def Sg:∀n:Nat,blsD (List.replicate n (D.bl true))=some (List.replicate n true)
 |0=>rfl
 |n+1=>by rw[List.replicate_succ,blsD,Sg n];rfl
def Us:∀n:Nat,(List.replicate n true).all id=true
 |0=>rfl
 |n+1=>by rw[List.replicate_succ,List.all_cons,Us n];rfl
def Mu(T:Tops mg)(F:Fm K mg "unlike" 20):FD P w K mg base 1 "unlike" ["names"] sj:=by
 have S:zt ["names"] ["names"] (zh (top 20)):=by walk_at "f"
 walk_at "b";refine⟨_,(zk (zw (Xr hu (Pl T.len T.set (za 0)) (w5 T.len (z9 (za 0) zb))))),?_⟩;obtain⟨d,rfl,zs,rfl,hl1,h⟩:=vm hT;walk_at "dl";refine⟨zs,rfl,by omega,h _ ?_⟩
 rw[<- ZZ.many_eq,beq_iff_eq];omega
def Pg(T:Tops mg)(Z:Con2 P w K mg)(F:Fm K mg "is_name" 19):FD P w K mg base 1 "is_name" pC um:=by
 have S:zt ["thing"] pC (zh (top 19)):=by walk_at "f"
 walk_at "b";refine⟨_,(zd (yi (EW.et (qw (wq (wg (vn T.isinstance (z9 (za 0) (z9 (Vq T.str ug) zb))))) (qw (wq (Xo zc (w5 T.len (z9 (za 0) zb)) zc)) (sw (z3l (za 0) (cq Z.c_NO_NAMES)))))) (zk (zw tw)) ya)
   (zk (zw (uq T.all (z9 (yo (T:=["sign"]) (F:=[]) (js:=[]) (yp (za 0)) (cs1 (by walk_at "c")) .nil (by decide) (by walk_at "t") zx (yk 0) yG (λcl C fp s H=>(z3r hu (za 0) (cq Z.c_LETTERS)))) zb))))),?_⟩
 obtain⟨d,rfl,z,rfl,hl1,h⟩:=vm hT;unfold cs;walk_at "dl";have no:∀P:Prop,¬ IsNm z->(false=true ↔ IsNm z):=λ_ q=>⟨λy=>(nomatch y),λy=>absurd y q⟩;have I:=z5k z;refine⟨by rw[sizeLine_eq];omega,λh1=>⟨λh8=>h false (no True λq=>h8 (by have:=q.2.1;omega)),λh8=>⟨rfl,λq=>?_,λq=>?_⟩⟩,λh1=>h false (no True λq=>h1 (by have:=q.1;omega))⟩
 ·have j:=(if_neg (by simp)).symm.trans q
  rw[I]at j;refine h false (no True λy=>?_);rcases of_decide_eq_true j with e|e
  ·exact y.2.2.1 e
  exact y.2.2.2.1 e
 have j:=(if_neg (by simp)).symm.trans q
 rw[I]at j;have nn:=of_decide_eq_false j;refine y9 (z.cps.toList.map λc=>D.str ⟨#[c]⟩) (λN a0=>?_) (λi gs=>gs=(z.cps.toList.take i).map λc=>D.bl (rj c)) (by rw[zLm];exact zak (show z.cps.toList.length<=1000 from hl1) (by decide)) rfl ?_ ?_
 ·exact⟨trivial,a0⟩
 ·rintro i e gs he a1 rfl;rw[zai]at he;obtain⟨c,hc,rfl⟩:=zar.mp he;walk_at "p";refine⟨λ_=>⟨trivial,?_⟩,λy=>(nomatch y)⟩;rw[List.take_succ,hc,Option.toList_some,zMa];rfl
 rintro gs rfl;rw[zLm,List.take_length,show(z.cps.toList.map λc=>D.bl (rj c))=(z.cps.toList.map rj).map D.bl from by rw[List.map_map];rfl]
 simp only[u9];refine h _ ?_;rw[List.all_map,List.all_eq_true];exact⟨λy=>⟨by omega,by omega,λe=>nn (.inl e),λe=>nn (.inr e),λc hc=>y c hc⟩,λy c hc=>y.2.2.2.2 c hc⟩
def Z7(T:Tops mg)(Z:Con2 P w K mg)(a5:FD P w K mg base 1 "is_whole" pC Z9)(F:Fm K mg "gives_right" 23):FD P w K mg base 2 "gives_right" ["gives","shapes"] Ol:=by
 have S:zt ["gives","shapes","size"] ["gives","shapes"] (zh (top 23)):=by walk_at "f"
 walk_at "b";refine⟨_,(zd (zj (zm 2 S.nd (zn hu (za 0) zc)))
   (zd (zj (yi (wq (wg (uq T.all (z9 (yo (T:=["shape"]) (F:=[]) (js:=[]) (yp (yb (zy (z9 (zn hu (za 0) zc) zb)) (za 1))) (cs1 (by walk_at "c")) .nil (by decide) (by walk_at "t") zx (yk 0) yG (λcl C fp s H=>(z3q (za 0) (cq Z.c_SHAPES)))) zb)))) (zk (zw tw)) ya))
   (zd (zj (yi (EW.et (qw (qx hu (w5 T.len (z9 (za 2) zb)) (yb (w5 T.len (z9 (za 1) zb)) zc)) (sw (wq (wg (uq T.all (z9 (yo (T:=["number"]) (F:=[]) (js:=[]) (yp (za 2)) (cs1 (by walk_at "c")) .nil (by decide) (by walk_at "t") zx (yk 0) yG (λcl C fp s H=>(vp (zi a5 (hr.e rfl) (z9 (za 0) zb)) (sx (z5y (za 0) zc))))) zb))))))) (zk (zw tw)) ya))
   (zd (zj (yi (xh hu (zn hu (za 0) zc) zg) (zk (zw (tu (A1 T.any (z9 (za 2) zb))))) ya))
   (zk (zw (uq T.all (z9 (yo (T:=["number","shape"]) (F:=[]) (js:=[]) (z3o T.zip (z9 (xc (za 2) (xi zc) wy) (z9 (za 1) zb))) (cs1 (by walk_at "c")) .nil (by decide) (by walk_at "t") (u3 (ym yc (xg yc yw) zx (ym yc yw zx u5))) (w6 0 1) (λcl C fp s H=>(ck (xh hu (za 1) zg))) (λcl C fp s H=>(Xr hu (za 0) zc))) zb)))))))),?_⟩
 obtain⟨d,e,rfl,a0,j,I,rfl,rfl,hl1,a6,hs,a2,h⟩:=Bu hT;refine z_g [q_ (.tup [.str a0,.tup (j.map D.int)]),q_ (.lst (I.map D.str)),q_ (.tup (j.map D.int))] ?_ ?_
 ·exact⟨trivial,rfl⟩
 refine z_g [q_ (.tup [.str a0,.tup (j.map D.int)]),q_ (.lst (I.map D.str)),q_ (.tup (j.map D.int))] ?_ ?_
 ·unfold cs;walk_at "dl";refine y9 ((a0::I).map D.str) (λN a1=>?_) (λi gs=>gs=List.replicate i (D.bl true)) (by rw[zLm,zLc];omega) rfl ?_ ?_
  ·walk_at "dl";refine⟨?_,a1⟩;rw[sizeLine_eq];omega
  ·rintro i e gs he a4 rfl;rw[zai]at he;obtain⟨z,hz,rfl⟩:=zar.mp he;have sz:IsSh z:=by
    rcases zam.mp (zan hz) with rfl|hm
    ·exact hs
    exact a2 z hm
   walk_at "p";walk_at "dl";rw[z5j sz];exact⟨rfl,List.replicate_succ'.symm⟩
  rintro gs rfl;simp only[df,Sg,Us];exact λy=>(nomatch y)
 refine ze (λL=>(j.length=I.length+1/\∀n∈j,0<=n)/\L=[q_ (.tup [.str a0,.tup (j.map D.int)]),q_ (.lst (I.map D.str)),q_ (.tup (j.map D.int))]) ?_ ?_
 ·walk_at "dl";refine⟨λy=>h false ⟨λz=>(nomatch z),λg=>absurd (by have:=g.sz;omega) y⟩,λe0=>?_⟩
  refine y9 (j.map D.int) (λN a1=>?_) (λi gs=>gs=(j.take i).map λn=>D.bl (decide (0<=n))) (by rw[zLm];omega) rfl ?_ ?_
  ·exact⟨trivial,a1⟩
  ·rintro i e gs he a4 rfl;rw[zai]at he;obtain⟨z,hz,rfl⟩:=zar.mp he;walk_at "p";walk_at "dl";simp only[Z9,w1];refine⟨λ_=>?_,λy=>(nomatch y)⟩;rw[List.take_succ,hz,Option.toList_some,zMa];rfl
  rintro gs rfl;rw[zLm,List.take_length,show(j.map λn=>D.bl (decide (0<=n)))=(j.map λn=>decide (0<=n)).map D.bl from by rw[List.map_map];rfl]
  simp only[df,u9,List.all_map];have al:j.all (id ∘ λn=>decide (0<=n))=true ↔ ∀n∈j,0<=n:=by
   rw[List.all_eq_true];exact⟨λy n hn=>of_decide_eq_true (y n hn),λy n hn=>decide_eq_true (y n hn)⟩
  refine⟨λq=>h false ⟨λz=>(nomatch z),λg=>?_⟩,λq=>⟨by omega,al.mp q⟩⟩
  rw[al.mpr g.nn]at q;cases q
 rintro _ ⟨⟨e0,e1⟩,rfl⟩;refine ze (λL=>a0≠"num"/\L=[q_ (.tup [.str a0,.tup (j.map D.int)]),q_ (.lst (I.map D.str)),q_ (.tup (j.map D.int))]) ?_ ?_
 ·walk_at "dl";refine⟨λes=>⟨j,rfl,h _ ?_⟩,id⟩;have an:(j.any λn=>n != 0)=false ↔ ∀n∈j,n=0:=by
   rw[List.any_eq_false];exact⟨λy n hn=>by have:=y n hn;simpa using this,λy n hn=>by rw[y n hn];decide⟩
  constructor
  ·intro q;have z0:=an.mp (by simpa using q)
   exact⟨hs,a2,e0,e1,λ_=>z0,λi n _ hn=>z0 n (zan hn)⟩
  intro g;rw[an.mpr (g.z1 es)];rfl
 rintro _ ⟨e2,rfl⟩;have ec:cutD (j.map D.int) (some 1) none=(j.drop 1).map D.int:=by
  rw[List.map_drop];exact cutD_drop (j.map D.int) 1
 walk_at "dl";refine y9 (zipD ((j.drop 1).map D.int) (I.map D.str)) (λN a1=>?_) (λi gs=>gs=(zz (((j.drop 1).zip I).take i)).map D.bl) ?_ rfl ?_ ?_
 ·walk_at "dl";rw[ec];have sn:j.length≠0:=by omega
  refine⟨λq=>?_,a1⟩;have:=q.1;unfold ZZ.sIx at this;simp at this;exact sn (by rw[this];rfl)
 ·unfold zipD;rw[List.length_zipWith,zLm,zLm];omega
 ·rintro i e gs he a4 rfl;unfold zipD at he;rw[List.getElem?_zipWith,zai,zai]at he;cases e3:(j.drop 1)[i]? with
  |none=>rw[e3]at he;cases he
  |some n =>
   cases e4:I[i]? with
   |none=>rw[e3,e4]at he;cases he
   |some t =>
    rw[e3,e4]at he;cases he;have st:=Ep (l:=(j.drop 1).zip I) (i:=i) (p:=(n,t)) (List.getElem?_zip_eq_some.mpr ⟨e3,e4⟩);rw[st,zMa];walk_at "p";walk_at "dl";refine⟨λq=>?_,λq=>?_⟩
    ·rw[show zf (n,t)=true from beq_iff_eq.mpr q,if_pos rfl];rfl
    rw[show zf (n,t)=false from beq_eq_false_iff_ne.mpr q,if_neg (by decide)]
    exact(List.append_nil _).symm
 rintro gs rfl;have lz:(zipD ((j.drop 1).map D.int) (I.map D.str)).length=((j.drop 1).zip I).length:=by
  unfold zipD;rw[List.length_zipWith,zLm,zLm,List.length_zip]
 rw[lz,List.take_length];simp only[df,u9];exact h _ (Pf hs a2 e0 e1 e2)
def Xk(T:Tops mg)(a4:FD P w K mg base 1 "unlike" ["names"] sj)(a5:FD P w K mg base 1 "is_name" pC um)(a2:FD P w K mg base 2 "gives_right" ["gives","shapes"] Ol)(F:Fm K mg "head_right" 22):FD P w K mg base 3 "head_right" ["function"] Oj:=by
 have S:zt ["function","params","names"] ["function"] (zh (top 22)):=by walk_at "f"
 walk_at "b";refine⟨_,(zd (zj (zm 1 S.nd (zn hu (za 0) zc)))
   (zd (zj (yn (T:=["name","shape"]) (F:=[]) (js:=[]) 2 S.nd (yp (za 1)) (cs1 (by walk_at "c")) .nil (by decide) (by walk_at "t") (u3 (ym yc (xg yc yw) zx (ym yc yw zx u5))) (w6 0 1) yG (λcl C fp s H=>(za 0))))
   (zd (zj (yi (EW.et (qw (wq (Xo zc (w5 T.len (z9 (za 1) zb)) zc)) (sw (wq (wg (zi a4 (hr.e rfl) (z9 (za 2) zb))))))) (zk (zw tw)) ya))
   (zd (zj (yi (wq (wg (uq T.all (z9 (yo (T:=["name"]) (F:=[]) (js:=[]) (yp (yb (zy (z9 (zn hu (za 0) zc) zb)) (za 2))) (cs1 (by walk_at "c")) .nil (by decide) (by walk_at "t") zx (yk 0) yG (λcl C fp s H=>(zi a5 (hr.e rfl) (z9 (za 0) zb)))) zb)))) (zk (zw tw)) ya))
   (zk (zw (zi a2 (hr.e rfl) (z9 (zn hu (za 0) zc) (z9 (yo (T:=["name","shape"]) (F:=[]) (js:=[]) (yp (za 1)) (cs1 (by walk_at "c")) .nil (by decide) (by walk_at "t") (u3 (ym yc (xg yc yw) zx (ym yc yw zx u5))) (w6 0 1) yG (λcl C fp s H=>(za 1))) zb))))))))),?_⟩
 obtain⟨d,rfl,g,rfl,B,h⟩:=vm hT;have p5:=B.pl;refine z_g [q_ (fnD g),q_ (.tup (g.params.map prD)),none] ?_ ?_
 ·simp only[fnD];walk_at "dl"
 refine z_g [q_ (fnD g),q_ (.tup (g.params.map prD)),Q_ (.lst ((g.params.map Prod.fst).map D.str))] ?_ ?_
 ·refine y9 (g.params.map prD) (λN j=>?_) (λi I=>I=((g.params.take i).map Prod.fst).map D.str) (by rw[zLm];omega) rfl ?_ ?_
  ·exact⟨trivial,j⟩
  ·rintro i e I Z a1 rfl;rw[zai]at Z;obtain⟨p,a0,rfl⟩:=zar.mp Z;walk_at "p";simp only[prD];walk_at "dl";rw[List.take_succ,a0];simp
  rintro I rfl;rw[zLm,List.take_length];exact⟨trivial,rfl⟩
 refine ze (λL=>(1<=g.params.length/\g.params.length<=4/\(g.params.map Prod.fst).Nodup)/\L=[q_ (fnD g),q_ (.tup (g.params.map prD)),Q_ (.lst ((g.params.map Prod.fst).map D.str))]) ?_ ?_
 ·walk_at "dl";refine⟨λa=>⟨λq=>h false ⟨λz=>(nomatch z),λok=>absurd (by have:=ok.hi;omega) q⟩,λq=>?_⟩,λq=>h false ⟨λz=>(nomatch z),λok=>absurd (by have:=ok.lo;omega) q⟩⟩
  simp only[sj,ZZ.g1];refine⟨_,rfl,by rw[zLm];omega,λb hb=>?_⟩
  cases b with
  |true=>exact⟨λz=>(nomatch z),λ_=>⟨by omega,by omega,hb.mp rfl⟩⟩
  |false=>exact⟨λ_=>h false ⟨λz=>(nomatch z),λok=>(by have:=hb.mpr ok.nd;cases this)⟩,λz=>(nomatch z)⟩
 rintro _ ⟨⟨p1,p4,a6⟩,rfl⟩;refine ze (λL=>(IsNm g.name/\∀p∈g.params,IsNm p.1)/\L=[q_ (fnD g),q_ (.tup (g.params.map prD)),Q_ (.lst ((g.params.map Prod.fst).map D.str))]) ?_ ?_
 ·simp only[fnD];walk_at "dl";refine y9 ((g.name::g.params.map Prod.fst).map D.str) (λN j=>?_) (λi I=>I=((g.name::g.params.map Prod.fst).take i).map λz=>D.bl (nmB z)) (by rw[zLm,zLc,zLm];omega) rfl ?_ ?_
  ·walk_at "dl";refine⟨?_,j⟩;rw[sizeLine_eq];omega
  ·rintro i e I Z a1 rfl;rw[zai]at Z;obtain⟨z,hz,rfl⟩:=zar.mp Z;have zl:z.length<=1000:=by
    rcases zam.mp (zan hz) with rfl|hm
    ·exact B.nl
    obtain⟨p,hp,rfl⟩:=zah.mp hm;exact(B.pn p hp).1
   walk_at "p";walk_at "dl";simp only[um,ZZ.g1];refine⟨z,rfl,zl,λb hb=>⟨trivial,?_⟩⟩;rw[List.take_succ,hz,Option.toList_some,zMa,z2f hb];rfl
  rintro I rfl;rw[zLm,List.take_length,show((g.name::g.params.map Prod.fst).map λz=>D.bl (nmB z))=((g.name::g.params.map Prod.fst).map nmB).map D.bl from by rw[List.map_map];rfl]
  simp only[df,u9,List.all_map];have al:(g.name::g.params.map Prod.fst).all (id ∘ nmB)=true ↔ (IsNm g.name/\∀p∈g.params,IsNm p.1):=by
   rw[List.all_eq_true];constructor
   ·exact λy=>⟨d9.mp (y _ zao),λp hp=>d9.mp (y _ (zal _ (zah.mpr ⟨p,hp,rfl⟩)))⟩
   rintro⟨y1,y2⟩ z hz;rcases zam.mp hz with rfl|hm
   ·exact d9.mpr y1
   obtain⟨p,hp,rfl⟩:=zah.mp hm;exact d9.mpr (y2 p hp)
  refine⟨λq=>h false ⟨λz=>(nomatch z),λok=>?_⟩,λq=>al.mp q⟩;rw[al.mpr ⟨ok.nm,ok.nms⟩]at q;cases q
 rintro _ ⟨⟨n1,n2⟩,rfl⟩;simp only[fnD];walk_at "dl";refine y9 (g.params.map prD) (λN j=>?_) (λi I=>I=((g.params.take i).map Prod.snd).map D.str) (by rw[zLm];omega) rfl ?_ ?_
 ·exact⟨trivial,j⟩
 ·rintro i e I Z a1 rfl;rw[zai]at Z;obtain⟨p,a0,rfl⟩:=zar.mp Z;walk_at "p";simp only[prD];walk_at "dl";rw[List.take_succ,a0];simp
 rintro I rfl;rw[zLm,List.take_length];walk_at "dl";simp only[Ol,ZZ.g2];exact⟨_,_,_,rfl,rfl,B.sl,by rw[zLm];omega,B.sh,λp hp=>by
  obtain⟨q,hq,rfl⟩:=zah.mp hp;exact(B.pn q hq).2,λb hb=>⟨trivial,h b ⟨λq=>⟨n1,p1,p4,n2,a6,hb.mp q⟩,λok=>hb.mpr ok.gv⟩⟩⟩
def jr(k:Str):Option (List Str):=if k = "list" then some ["num","list"] else if k = "tree" then some ["tree","num","tree"] else none
def Ac(k:Str):tabL fg k=(jr k).map cs:=by
 unfold jr fg;simp only[tabL]
 repeat' split
 all_goals rfl
def bv(env ps:List (Str×Str)):Prop:=(ps.map Prod.fst).Nodup/\(∀p∈ps,IsNm p.1)/\(∀p∈ps,p.1∉env.map Prod.fst)/\ps.length<=3
def poD(p:Str×Option Str):D:=.tup [.str p.1,optD p.2]
def ups(ps:List (Str×Str)):List (Str×Option Str):=ps.map λp=>(p.1,some p.2)
def FrO(env:List (Str×Str))(ps:List (Str×Option Str)):Prop:=(ps.map Prod.fst).Nodup/\∀p∈ps,IsNm p.1/\p.1∉env.map Prod.fst/\p.2≠none
def Bd(fs:List Fn)(due:Str)(M:Nat):Nat->List (Str×Str)->D->Bool->Prop
 |0,_,_,_=>False
 |n+1,env,b,v=>(∃e r,Sh1 fs env M e r/\b=.tup [.str "give",e]/\v=decide (r=some due)) \/
  (∃z e r b1,Sh1 fs env M e r/\z.length<=1000/\b=.tup [.str "let",.str z,e,b1]/\((∃s,r=some s/\bv env [(z,s)]/\Bd fs due M n (env++[(z,s)]) b1 v)\/(¬ FrO env [(z,r)]/\v=false))) \/
  (∃e1 e2 r1 r2 b1 b2,Sh1 fs env M e1 r1/\Sh1 fs env M e2 r2/\b=.tup [.str "less",e1,e2,b1,b2]/\((r1=some ("num" : Str)/\r2=some ("num" : Str)/\∃v1 v2,Bd fs due M n env b1 v1/\Bd fs due M n env b2 v2/\v=(v1&&v2))\/(¬ (r1=some ("num" : Str)/\r2=some ("num" : Str))/\v=false))) \/
  (∃(k z:Str)(b1:D)(zs ks:List Str)(b2:D),jr k=some ks/\zs.length=ks.length/\(∀y∈zs,y.length<=1000)/\b=.tup ([.str k,.str z,b1]++zs.map D.str++[b2])/\((v7 env z≠some k/\v=false)\/(v7 env z=some k/\∃v1,Bd fs due M n env b1 v1/\((v1=false/\v=false)\/(v1=true/\((bv env (zs.zip ks)/\Bd fs due M n (env++zs.zip ks) b2 v)\/(¬ FrO env (ups (zs.zip ks))/\v=false)))))))
def g4'(g:D->D->D->D->(EV->Prop)->Prop):FT:=λds U=>∃a b c d,ds=[a,b,c,d]/\g a b c d U
def z4e(n:Nat)(env:List (Str×Str)):Prop:=(env.map Prod.fst).Nodup/\env.length+3*n<=100
def KnOk(fs:List Fn):Prop:=∀f∈fs,f.params.length<=100
def W9(M n:Nat):FT:=g4' λb j I q U=>∃fs env due v,KnOk fs/\z4e n env/\j=yv env/\I=.str due/\q=xj fs/\Bd fs due M n env b v/\U (dv (.bl v))
def Of(M n:Nat):FT:=g5' λb br j I q U=>∃fs env due ps v,KnOk fs/\z4e (n+1) env/\br=.lst (ps.map poD)/\ps.length<=3/\(∀p∈ps,p.1.length<=1000)/\j=yv env/\I=.str due/\q=xj fs/\((∃qs,ps=ups qs/\bv env qs/\Bd fs due M n (env++qs) b v)\/(¬ FrO env ps/\v=false))/\U (dv (.bl v))
def Nf:∀ps:List (Str×Str),ps.map prD=Zr (ps.map λp=>(Sum.inr p.1:Key)) (ps.map λp=>D.str p.2)
 |[]=>rfl
 |p::ps=>by
  rw[List.map_cons,Nf ps];rfl
def M4(a b:List (Str×Str)):yv (a++b)=.dk ((a.map λp=>(Sum.inr p.1:Key))++b.map λp=>(Sum.inr p.1:Key)) ((a.map λp=>D.str p.2)++b.map λp=>D.str p.2):=by
 unfold yv;rw[zMa,zMa]
def Wq{env ps:List (Str×Str)}(h1:(env.map Prod.fst).Nodup)(h:bv env ps):((env++ps).map Prod.fst).Nodup:=by
 rw[zMa,List.nodup_append];refine⟨h1,h.1,λa I b q e=>?_⟩;obtain⟨p,j,rfl⟩:=zah.mp q;exact h.2.2.1 p j (e▸I)
def Q4{env:List (Str×Str)}(h:(env.map Prod.fst).Nodup):(env.map λp=>(Sum.inr p.1:Key)).Nodup:=by
 have:(env.map λp=>(Sum.inr p.1:Key))=(env.map Prod.fst).map Sum.inr:=by rw[List.map_map];rfl
 rw[this];exact List.Pairwise.map _ (λa b h e=>h (Sum.inr.inj e)) h
def By{env:List (Str×Str)}{z:Str}:((Sum.inr z:Key)∈env.map λp=>(Sum.inr p.1:Key)) ↔ z∈env.map Prod.fst:=by
 constructor
 ·intro h;obtain⟨p,j,e⟩:=zah.mp h;exact zah.mpr ⟨p,j,Sum.inr.inj e⟩
 intro h;obtain⟨p,j,rfl⟩:=zah.mp h;exact zah.mpr ⟨p,j,rfl⟩
def bv.fro{env ps:List (Str×Str)}(h:bv env ps):FrO env (ups ps):=by
 refine⟨?_,λp I=>?_⟩
 ·unfold ups;rw[List.map_map];exact h.1
 obtain⟨q,j,rfl⟩:=zah.mp I;exact⟨h.2.1 q j,h.2.2.1 q j,λy=>by cases y⟩
def okP(env:List (Str×Str))(p:Str×Option Str):Bool:=@decide (IsNm p.1/\p.1∉env.map Prod.fst/\p.2≠none) (Classical.propDecidable _)
def j5{env:List (Str×Str)}{p:Str×Option Str}:okP env p=true ↔ (IsNm p.1/\p.1∉env.map Prod.fst/\p.2≠none):=by
 unfold okP;exact @decide_eq_true_iff _ (Classical.propDecidable _)
def O9(ps:List (Str×Str)):(ups ps).map poD=ps.map prD:=by
 unfold ups;rw[List.map_map];rfl
def Z1{M n:Nat}(T:Tops mg)(a2:FD P w K mg base 1 "unlike" ["names"] sj)(a4:FD P w K mg base 1 "is_name" pC um)(a5:FD P w K mg base (3*M+2*n+4) "body_right" pI (W9 M n))(F:Fm K mg "wider_right" 25):FD P w K mg base (3*M+2*n+5) "wider_right" pS (Of M n):=by
 have S:zt ["body","brought","names","due","known","wider"] pS (zh (top 25)):=by walk_at "f"
 walk_at "b";refine⟨_,(zd (zj (yi (wq (wg (zi a2 hr.d (z9 (yo (T:=["name","shape"]) (F:=[]) (js:=[]) (yp (za 1)) (cs1 (by walk_at "c")) .nil (by decide) (by walk_at "t") (u3 (ym yc (xg yc yw) zx (ym yc yw zx u5))) (w6 0 1) yG (λcl C fp s H=>(za 0))) zb)))) (zk (zw tw)) ya))
   (zd (zj (yi (wq (wg (uq T.all (z9 (yo (T:=["name","shape"]) (F:=["names"]) (js:=[2]) (yp (za 1)) (cs1 (by walk_at "c")) (.cons rfl .nil) (by decide) (by walk_at "t") (u3 (ym yc (xg yc yw) zx (ym yc yw zx u5))) (w6 0 1) yG (λcl C fp s H=>(vp (zi a4 hr.d (z9 (za 0) zb)) (vp (G0 hu (za 0) (za 2)) (sx (G5 (za 1) Vs)))))) zb)))) (zk (zw tw)) ya))
   (zd (zj (zm 5 S.nd (G7 T.dict (z9 (za 2) zb))))
   (zd (zj (Do 5 (Q8 T.dict (z9 (za 1) zb))))
   (zk (tj 5 (zw (zi a5 hr.d (z9 (za 0) (z9 (za 5) (z9 (za 3) (z9 (za 4) zb)))))))))))),?_⟩
 obtain⟨b,b0,c0,d0,e0,rfl,fs,env,due,ps,v,kn,⟨e1,e2⟩,rfl,p3,pl,rfl,rfl,rfl,j,h⟩:=hT;have vf:¬ FrO env ps->v=false:=λhn=>by
  rcases j with⟨Z,rfl,fr,_⟩|⟨_,y⟩
  ·exact absurd fr.fro hn
  exact y
 refine ze (λL=>(ps.map Prod.fst).Nodup/\L=[q_ b,q_ (.lst (ps.map poD)),q_ (yv env),q_ (.str due),q_ (xj fs),none]) ?_ ?_
 ·walk_at "dl";refine y9 (ps.map poD) (λN a0=>?_) (λi gs=>gs=((ps.take i).map Prod.fst).map D.str) (by rw[zLm];omega) rfl ?_ ?_
  ·exact⟨trivial,a0⟩
  ·rintro i e gs he a7 rfl;rw[zai]at he;obtain⟨p,I,rfl⟩:=zar.mp he;walk_at "p";simp only[poD];walk_at "dl";rw[List.take_succ,I];simp
  rintro gs rfl;rw[zLm,List.take_length];walk_at "dl";simp only[sj,ZZ.g1];refine⟨_,rfl,by rw[zLm];omega,λb j=>?_⟩
  cases b with
  |true=>exact⟨λy=>(nomatch y),λ_=>j.mp rfl⟩
  |false =>
   refine⟨λ_=>?_,λy=>(nomatch y)⟩;rw[vf λy=>absurd (j.mpr y.1) (by decide)]at h
   exact h
 rintro _ ⟨a6,rfl⟩;refine ze (λL=>FrO env ps/\L=[q_ b,q_ (.lst (ps.map poD)),q_ (yv env),q_ (.str due),q_ (xj fs),none]) ?_ ?_
 ·walk_at "dl";refine y9 (ps.map poD) (λN a0=>?_) (λi gs=>gs=(ps.take i).map λp=>D.bl (okP env p)) (by rw[zLm];omega) rfl ?_ ?_
  ·exact⟨trivial,a0⟩
  ·rintro i e gs he a7 rfl;rw[zai]at he;obtain⟨p,I,rfl⟩:=zar.mp he;have hl:=pl p (zan I);walk_at "p";simp only[poD,yv];walk_at "dl";simp only[um,ZZ.g1];refine⟨p.1,rfl,hl,λb j=>?_⟩;rw[List.take_succ,I,Option.toList_some,zMa];have em:decide ((Sum.inr p.1:Key)∈env.map λp=>(Sum.inr p.1:Key))=decide (p.1∈env.map Prod.fst):=decide_eq_decide.mpr By;refine⟨λq=>⟨λq2=>?_,λq2=>?_⟩,λq=>?_⟩
   ·rw[if_pos trivial,em]at q2;have nf:p.1∉env.map Prod.fst:=by simpa using q2
    have hn:=j.mp q
    congr 2
    show D.bl _=D.bl (okP env p)
    congr 1
    cases y:p.2 with
    |none =>
     have:okP env p=false:=by
      cases z:okP env p with
      |false=>rfl
      |true=>exact absurd y (j5.mp z).2.2
     rw[this];rfl
    |some s =>
     rw[j5.mpr ⟨hn,nf,by rw[y];exact λz=>by cases z⟩]
     rfl
   ·rw[if_pos trivial,em]at q2;have nf:p.1∈env.map Prod.fst:=by simpa using q2
    have:okP env p=false:=by
     cases z:okP env p with
     |false=>rfl
     |true=>exact absurd nf (j5.mp z).2.1
    rw[List.map_cons,this];rfl
   have:okP env p=false:=by
    cases z:okP env p with
    |false=>rfl
    |true=>rw[j.mpr (j5.mp z).1]at q;cases q
   rw[List.map_cons,this];rfl
  rintro gs rfl;rw[zLm,List.take_length,show(ps.map λp=>D.bl (okP env p))=(ps.map (okP env)).map D.bl from by rw[List.map_map];rfl]
  simp only[df,u9,List.all_map];have a1:ps.all (id ∘ okP env)=true ↔ ∀p∈ps,IsNm p.1/\p.1∉env.map Prod.fst/\p.2≠none:=by
   rw[List.all_eq_true];exact⟨λy p hp=>j5.mp (y p hp),λy p hp=>j5.mpr (y p hp)⟩
  refine⟨λq=>?_,λq=>⟨a6,a1.mp q⟩⟩;rw[vf λy=>by rw[a1.mpr y.2]at q;cases q]at h
  exact h
 rintro _ ⟨a8,rfl⟩;rcases j with⟨Z,rfl,fr,j⟩|⟨hn,_⟩
 ·have p3:=fr.2.2.2;rw[O9];refine z_g [q_ b,q_ (.lst (Z.map prD)),q_ (yv env),q_ (.str due),q_ (xj fs),Q_ (yv env)] ?_ ?_
  ·unfold yv;walk_at "dl"
  refine z_g [q_ b,q_ (.lst (Z.map prD)),q_ (yv env),q_ (.str due),q_ (xj fs),Q_ (yv (env++Z))] ?_ ?_
  ·rw[M4];unfold yv;walk_at "dl";refine⟨Z.map λp=>Sum.inr p.1,Z.map λp=>.str p.2,Nf Z,by rw[zLm,zLm],Q4 fr.1,by rw[zLm];omega,?_,rfl⟩
   have:=Q4 (Wq e1 fr)
   rwa [zMa]at this
  exact⟨rfl,_,_,_,_,rfl,fs,env++Z,due,v,kn,⟨Wq e1 fr,by rw[zLa];omega⟩,rfl,rfl,rfl,j,trivial,h⟩
 exact absurd a8 hn
def Re{tc:TDb}{q j:TDS}{L:DE}{Z:DZ}(h:∀ N:Bool->Prop,N false->tc L N)(h2:j L Z):sIf tc q j L Z:=h _ ⟨λz=>(nomatch z),λ_=>h2⟩
def N3{tc:TDb}{j q:TDS}{L:DE}{Z:DZ}(h:∀ N:Bool->Prop,N true->tc L N)(h1:j L Z):sIf tc j q L Z:=h _ ⟨λ_=>h1,λz=>(nomatch z)⟩
def Gh{k:Str}{ks:List Str}(h:jr k=some ks):(k = "list"/\ks=[("num" : Str),"list"])\/(k = "tree"/\ks=[("tree" : Str),"num","tree"]):=by
 unfold jr at h;split at h
 ·rename_i e;cases h;exact .inl ⟨e,rfl⟩
 split at h
 ·rename_i e;cases h;exact .inr ⟨e,rfl⟩
 cases h
def U9{α:Type}(l:List α)(d:α):atI (l++[d]) (-1)=some d:=by
 unfold atI ixN;rw[zLa,List.length_singleton,if_neg (by decide),if_pos (by omega)]
 show(l++[d])[((-1:Int)+((l.length+1:Nat):Int)).toNat]?=some d;rw[show((-1:Int)+((l.length+1:Nat):Int)).toNat=l.length by omega]
 simp
def z3x(a m:List D)(b:D)(k:Nat)(h:a.length=k):cutD (a++m++[b]) (some (k:Int)) (some (-1))=m:=by
 unfold ZZ.cutD;rw[ZZ.sIx_nat];have e:ZZ.sIx (a++m++[b]).length (a++m++[b]).length (some (-1))=k+m.length:=by
  unfold ZZ.sIx;simp;omega
 rw[e,Nat.min_eq_left (by simp;omega),List.append_assoc,List.drop_left' h,show k+m.length-k=m.length by omega,List.take_left]
theorem Pz:∀(zs ks:List Str),zipD (zs.map D.str) (ks.map D.str)=(zs.zip ks).map prD
 |[],_=>rfl
 |_::_,[]=>rfl
 |z::zs,k::ks=>by
  show D.tup [.str z,.str k]::zipD (zs.map D.str) (ks.map D.str)=prD (z,k)::(zs.zip ks).map prD;rw[Pz zs ks];rfl
def Ro(r:Option Str)(n:Nat):okD (n+1) (optD r):=by
 cases r with
 |none=>exact of_eq_true T3
 |some s=>exact of_eq_true xn
def Rp(r:Option Str)(s:Str):eqD (optD r) (.str s)=decide (r=some s):=by
 cases r with
 |none=>rfl
 |some t =>
  show(t==s)=_;by_cases q:t=s
  ·subst q;simp
  simp[q]
def Cj(j r2:Option Str):okD 40 (D.lst [optD j,optD r2]):=by
 rw[su (by decide)]
 intro x q;simp only[zam,List.not_mem_nil,or_false]at q;rcases q with rfl|rfl
 ·exact Ro j 38
 exact Ro r2 38
def Ck(j r2:Option Str):eqD (D.lst [optD j,optD r2]) (D.lst [D.str "num",D.str "num"])=decide (j=some ("num" : Str)/\r2=some ("num" : Str)):=by
 show(eqD (optD j) (.str "num")&&(eqD (optD r2) (.str "num")&&true))=_;rw[Rp,Rp,Bool.and_true,Bool.decide_and]
def Xm{M n:Nat}(T:Tops mg)(Z:Con2 P w K mg)(a0:FD P w K mg base (3*M+2) "shape_of" pJ (qh M))(a8:FD P w K mg base (3*M+2*n+4) "body_right" pI (W9 M n))(a7:FD P w K mg base (3*M+2*n+5) "wider_right" pS (Of M n))(F:Fm K mg "body_right" 24):FD P w K mg base (3*M+2*n+6) "body_right" pI (W9 M (n+1)):=by
 have S:zt ["body","names","due","known","kind","brought","compared"] pI (zh (top 24)):=by walk_at "f"
 walk_at "b";refine⟨_,(zd (zj (zm 4 S.nd (zn hu (za 0) zc)))
   (zd (zj (yi (xh hu (za 4) zg) (zk (zw (Xr hu (zi a0 hr.d (z9 (zn hu (za 0) zc) (z9 (za 1) (z9 (za 3) zb)))) (za 2)))) ya))
   (zd (zj (yi (xh hu (za 4) zg) (zd (zj (zm 5 S.nd (zy (z9 (vb (z9 (zn hu (za 0) zc) (z9 (zi a0 hr.d (z9 (zn hu (za 0) zc) (z9 (za 1) (z9 (za 3) zb)))) zb))) zb))))
    (zk (tj 5 (zw (zi a7 hr.d (z9 (zn hu (za 0) zc) (z9 (za 5) (z9 (za 1) (z9 (za 2) (z9 (za 3) zb)))))))))) ya))
   (zd (zj (yi (xh hu (za 4) zg) (zd (zj (yn (T:=["part"]) (F:=["names","known"]) (js:=[1,3]) 6 S.nd (yp (xc (za 0) (xi zc) (xi zc))) (cs1 (by walk_at "c")) (.cons rfl (.cons rfl .nil)) (by decide) (by walk_at "t") zx (yk 0) yG (λcl C fp s H=>(zi a0 hr.d (z9 (za 0) (z9 (za 1) (z9 (za 2) zb)))))))
    (zk (zw (vp (Xr hu (za 6) (zy (z9 zg (z9 zg zb)))) (sx (uq T.all (z9 (yo (T:=["part"]) (F:=["names","due","known"]) (js:=[1,2,3]) (yp (xc (za 0) (xi zc) wy)) (cs1 (by walk_at "c")) (.cons rfl (.cons rfl (.cons rfl .nil))) (by decide) (by walk_at "t") zx (yk 0) yG (λcl C fp s H=>(zi a8 hr.d (z9 (za 0) (z9 (za 1) (z9 (za 2) (z9 (za 3) zb))))))) zb))))))) ya))
   (zd (zj (yi (EW.et (qw (Vo Z.t_BROUGHT (za 4)) (sw (qx hu (L8 hu (za 1) (zn hu (za 0) zc)) (za 4))))) (zk (zw tw)) ya))
   (zd (zj (zm 5 S.nd (G1 T.list T.zip (z9 (xc (za 0) (xi zc) (xi (Q5 zc))) (z9 (f9 Z.t_BROUGHT (za 4)) zb)))))
   (zk (tj 5 (zw (vp (zi a8 hr.d (z9 (zn hu (za 0) zc) (z9 (za 1) (z9 (za 2) (z9 (za 3) zb))))) (sx (zi a7 hr.d (z9 (zn hu (za 0) (Q5 zc)) (z9 (za 5) (z9 (za 1) (z9 (za 2) (z9 (za 3) zb))))))))))))))))),?_⟩
 obtain⟨b,b0,c0,d0,rfl,fs,env,due,v,kn,⟨e1,e2⟩,rfl,rfl,rfl,hb,h⟩:=hT;rcases hb with⟨e,r,he,rfl,hv⟩|⟨z,e,r,b1,he,a1,rfl,I⟩|⟨x1,x2,r1,r2,b1,b2,c1,b9,rfl,I⟩|⟨k,z,b1,zs,ks,b2,hk,hl1,a1,rfl,I⟩
 ·refine z_g [q_ (.tup [.str "give",e]),q_ (yv env),q_ (.str due),q_ (xj fs),q_ (.str "give"),none,none] ?_ ?_
  ·exact⟨trivial,rfl⟩
  refine ze (λL=>False) ?_ (λ_ q=>q.elim);walk_at "dl";refine⟨_,_,_,rfl,fs,env,r,kn,rfl,rfl,he,Ro r 39,?_⟩;show U ⟨.val,.bl (eqD (optD r) (.str due))⟩;rw[Rp,<- hv];exact h
 ·refine z_g [q_ (.tup [.str "let",.str z,e,b1]),q_ (yv env),q_ (.str due),q_ (xj fs),q_ (.str "let"),none,none] ?_ ?_
  ·exact⟨trivial,rfl⟩
  refine z_g [q_ (.tup [.str "let",.str z,e,b1]),q_ (yv env),q_ (.str due),q_ (xj fs),q_ (.str "let"),none,none] ?_ ?_
  ·walk_at "dl";exact λq=>absurd q (by decide)
  refine ze (λL=>False) ?_ (λ_ q=>q.elim);refine N3 (λN j=>?_) ?_
  ·walk_at "dl";exact j
  refine z_g [q_ (.tup [.str "let",.str z,e,b1]),q_ (yv env),q_ (.str due),q_ (xj fs),q_ (.str "let"),Q_ (.lst [poD (z,r)]),none] ?_ ?_
  ·walk_at "dl";exact⟨_,_,_,rfl,fs,env,r,kn,rfl,rfl,he,rfl,rfl⟩
  walk_at "dl";refine⟨_,_,_,_,_,rfl,fs,env,due,[(z,r)],v,kn,⟨e1,e2⟩,rfl,by simp,λp hp=>by rw[List.mem_singleton.mp hp];exact a1,rfl,rfl,rfl,?_,trivial,h⟩
  rcases I with⟨s,rfl,fr,hb⟩|y
  ·exact .inl ⟨[(z,s)],rfl,fr,hb⟩
  exact .inr y
 ·refine z_g [q_ (.tup [.str "less",x1,x2,b1,b2]),q_ (yv env),q_ (.str due),q_ (xj fs),q_ (.str "less"),none,none] ?_ ?_
  ·exact⟨trivial,rfl⟩
  refine z_g [q_ (.tup [.str "less",x1,x2,b1,b2]),q_ (yv env),q_ (.str due),q_ (xj fs),q_ (.str "less"),none,none] ?_ ?_
  ·walk_at "dl";exact λq=>absurd q (by decide)
  refine z_g [q_ (.tup [.str "less",x1,x2,b1,b2]),q_ (yv env),q_ (.str due),q_ (xj fs),q_ (.str "less"),none,none] ?_ ?_
  ·refine Re (λN j=>?_) ?_
   ·walk_at "dl";rw[show(("less" : Str)=="let")=false by decide]
    exact j
   exact rfl
  refine ze (λL=>False) ?_ (λ_ q=>q.elim);refine N3 (λN j=>?_) ?_
  ·walk_at "dl";exact j
  have e4:cutD [D.str "less",x1,x2,b1,b2] (some 1) (some 3)=[x1,x2]:=rfl;have c3:cutD [D.str "less",x1,x2,b1,b2] (some 3) none=[b1,b2]:=cutD_drop [D.str "less",x1,x2,b1,b2] 3;refine z_g [q_ (.tup [.str "less",x1,x2,b1,b2]),q_ (yv env),q_ (.str due),q_ (xj fs),q_ (.str "less"),none,Q_ (.lst [optD r1,optD r2])] ?_ ?_
  ·refine y9 [x1,x2] (λN j=>?_) (λi gs=>gs=([r1,r2].take i).map optD) (Nat.le_of_ble_eq_true rfl) rfl ?_ ?_
   ·walk_at "dl";rw[e4];exact⟨by decide,j⟩
   ·rintro i e gs he e0 rfl;have a2:∃r,[r1,r2][i]?=some r/\Sh1 fs env M e r:=by
     match i,he with
     |0,he=>cases he;exact⟨r1,rfl,c1⟩
     |1,he=>cases he;exact⟨r2,rfl,b9⟩
     |i+2,he=>cases he
    obtain⟨r,d3,a2⟩:=a2;walk_at "p";walk_at "dl";refine⟨_,_,_,rfl,fs,env,r,kn,rfl,rfl,a2,trivial,?_⟩;rw[List.take_succ,d3,Option.toList_some,zMa];rfl
   rintro gs rfl;exact⟨trivial,rfl⟩
  walk_at "dl";have okL:okD 40 (D.lst [D.str "num",D.str "num"]):=Nv ["num","num"];have b3:=Ck r1 r2;refine⟨Cj r1 r2,okL,λq=>?_,λq=>?_⟩
  ·have a4:r1=some ("num" : Str)/\r2=some ("num" : Str):=of_decide_eq_true (b3.symm.trans q);rcases I with⟨_,_,v1,v2,a6,e3,hv⟩|⟨hn,_⟩
   ·refine y9 [b1,b2] (λN j=>?_) (λi gs=>gs=([v1,v2].take i).map D.bl) (Nat.le_of_ble_eq_true rfl) rfl ?_ ?_
    ·walk_at "dl";rw[c3];exact⟨by decide,j⟩
    ·rintro i e gs he e0 rfl;have a5:∃u,[v1,v2][i]?=some u/\Bd fs due M n env e u:=by
      match i,he with
      |0,he=>cases he;exact⟨v1,rfl,a6⟩
      |1,he=>cases he;exact⟨v2,rfl,e3⟩
      |i+2,he=>cases he
     obtain⟨u,c2,a5⟩:=a5;walk_at "p";walk_at "dl";refine⟨_,_,_,_,rfl,fs,env,due,u,kn,⟨e1,by omega⟩,rfl,rfl,rfl,a5,trivial,?_⟩
     rw[List.take_succ,c2,Option.toList_some,zMa];rfl
    rintro gs rfl;show match blsD (([v1,v2]:List Bool).map D.bl) with|some bs=>U {k:=Kd.val,d:=D.bl (bs.all id)}|none=>False
    rw[u9];show U ⟨.val,.bl (v1&&(v2&&true))⟩;rw[Bool.and_true,<- hv];exact h
   exact absurd a4 hn
  rcases I with⟨y1,y2,_⟩|⟨_,hv⟩
  ·rw[b3,decide_eq_true ⟨y1,y2⟩]at q;cases q
  rw[hv]at h;exact h
 have kk:=Gh hk;have n1:k≠"give":=by rcases kk with⟨rfl,_⟩|⟨rfl,_⟩ <;> decide
 have n2:k≠"let":=by rcases kk with⟨rfl,_⟩|⟨rfl,_⟩ <;> decide
 have n3:k≠"less":=by rcases kk with⟨rfl,_⟩|⟨rfl,_⟩ <;> decide
 have bt:=Ac k;rw[hk]at bt;have lk:=dj z env;have ec:cutD ([D.str k,D.str z,b1]++zs.map D.str++[b2]) (some 3) (some (-1))=zs.map D.str:=z3x _ _ _ _ rfl;have b4:atI ([D.str k,D.str z,b1]++zs.map D.str++[b2]) (-1)=some b2:=U9 _ _;have k3:ks.length<=3:=by rcases kk with⟨_,rfl⟩|⟨_,rfl⟩ <;> decide
 simp only[List.cons_append,List.nil_append]at ec b4 ⊢;refine z_g [q_ (.tup (.str k::.str z::b1::(zs.map D.str++[b2]))),q_ (yv env),q_ (.str due),q_ (xj fs),q_ (.str k),none,none] ?_ ?_
 ·walk_at "dl"
 refine z_g [q_ (.tup (.str k::.str z::b1::(zs.map D.str++[b2]))),q_ (yv env),q_ (.str due),q_ (xj fs),q_ (.str k),none,none] ?_ ?_
 ·refine Re (λN j=>?_) ?_
  ·walk_at "dl";rw[beq_eq_false_iff_ne.mpr n1];exact j
  exact rfl
 refine z_g [q_ (.tup (.str k::.str z::b1::(zs.map D.str++[b2]))),q_ (yv env),q_ (.str due),q_ (xj fs),q_ (.str k),none,none] ?_ ?_
 ·refine Re (λN j=>?_) ?_
  ·walk_at "dl";rw[beq_eq_false_iff_ne.mpr n2];exact j
  exact rfl
 refine z_g [q_ (.tup (.str k::.str z::b1::(zs.map D.str++[b2]))),q_ (yv env),q_ (.str due),q_ (xj fs),q_ (.str k),none,none] ?_ ?_
 ·refine Re (λN j=>?_) ?_
  ·walk_at "dl";rw[beq_eq_false_iff_ne.mpr n3];exact j
  exact rfl
 refine ze (λL=>v7 env z=some k/\L=[q_ (.tup (.str k::.str z::b1::(zs.map D.str++[b2]))),q_ (yv env),q_ (.str due),q_ (xj fs),q_ (.str k),none,none]) ?_ ?_
 ·unfold yv;walk_at "dl";rw[bt,lk];have oe:(Option.map D.str (v7 env z)).getD D.non=optD (v7 env z):=by
   cases v7 env z <;> rfl
  rw[oe,Rp];refine⟨λq=>(nomatch q),λ_=>⟨Ro _ 39,λq=>?_,λq=>of_decide_eq_true q⟩⟩;rcases I with⟨_,y⟩|⟨y,_⟩
  ·rw[y]at h;exact h
  rw[decide_eq_true y]at q;cases q
 rintro _ ⟨hz,rfl⟩;rcases I with⟨y,_⟩|⟨_,v1,a6,I⟩
 ·exact absurd hz y
 refine z_g [q_ (.tup (.str k::.str z::b1::(zs.map D.str++[b2]))),q_ (yv env),q_ (.str due),q_ (xj fs),q_ (.str k),Q_ (.lst ((zs.zip ks).map prD)),none] ?_ ?_
 ·walk_at "dl";rw[bt,ec];refine⟨λq=>?_,?_⟩
  ·have:=q.1;unfold ZZ.sIx at this;simp at this
  refine⟨by rw[zLm,zLm];exact hl1,by rw[zLm];omega,?_⟩
  rw[El,Pz]
 walk_at "dl";rw[b4];refine⟨_,_,_,_,rfl,fs,env,due,v1,kn,⟨e1,by omega⟩,rfl,rfl,rfl,a6,λq=>?_,λq=>?_⟩
 ·have a9:(bv env (zs.zip ks)/\Bd fs due M n (env++zs.zip ks) b2 v)\/(¬ FrO env (ups (zs.zip ks))/\v=false):=by
   rcases I with⟨y,_⟩|⟨_,y⟩
   ·rw[y]at q;cases q
   exact y
  refine⟨_,_,_,_,_,rfl,fs,env,due,ups (zs.zip ks),v,kn,⟨e1,e2⟩,by rw[O9],?_,?_,rfl,rfl,rfl,?_,trivial,h⟩
  ·unfold ups;rw[zLm,List.length_zip];omega
  ·intro p hp;obtain⟨q,hq,rfl⟩:=zah.mp hp;exact a1 _ (List.of_mem_zip hq).1
  rcases a9 with⟨fr,hb⟩|y
  ·exact .inl ⟨zs.zip ks,rfl,fr,hb⟩
  exact .inr y
 rcases I with⟨_,y⟩|⟨y,_⟩
 ·rw[y]at h;exact h
 rw[y]at q;cases q
theorem Xn{M:Nat}(T:Tops mg)(Z:Con2 P w K mg)(F1:FD P w K mg base (3*M+2) "shape_of" pJ (qh M))(I:FD P w K mg base 1 "unlike" ["names"] sj)(q:FD P w K mg base 1 "is_name" pC um)(j:Fm K mg "wider_right" 25)(F:Fm K mg "body_right" 24):∀n:Nat,FD P w K mg base (3*M+2*n+4) "body_right" pI (W9 M n)
 |0=>by
  have S:zt ["body","names","due","known","kind","brought","compared"] pI (zh (top 24)):=by walk_at "f"
  obtain⟨f,fd,F,m⟩:=F;refine x6 F S (F.binds λ_ _ _ _ _ _ us hl=>(by obtain⟨_,_,_,_,rfl⟩:=Ha hl;rfl)) m λqZ A outer s H E ds U hr hl hT=>?_
  obtain⟨b,b0,c0,d0,rfl,fs,env,due,v,kn,ek,rfl,rfl,rfl,hb,h⟩:=hT;exact hb.elim
 |n+1=>Xm T Z F1 (Xn T Z F1 I q j F n) (Z1 T I q (Xn T Z F1 I q j F n) j) F
structure Gk(M n:Nat)(fs:List Fn)(vs:Fn->Bool):Prop where
 lo:1<=fs.length
 hi:fs.length<=8
 hd:∀f∈fs,uv f
 nd:(fs.map Fn.name).Nodup
 bd:∀f∈fs,Bd fs f.shape M n f.params f.body (vs f)
def sy(M n:Nat)(fs:List Fn)(v:Bool):Prop:=(¬ ((1<=fs.length/\fs.length<=8)/\(∀f∈fs,uv f)/\(fs.map Fn.name).Nodup)/\v=false)\/∃vs,Gk M n fs vs/\v=fs.all vs
def Uk(M n:Nat):FT:=g1 λd U=>∃fs v,d=.tup (fs.map fnD)/\n<=30/\(∀f∈fs,Sn f)/\fs.length<=100/\sy M n fs v/\U (dv (.bl v))
def hdB(f:Fn):Bool:=@decide (uv f) (Classical.propDecidable _)
def To{f:Fn}:hdB f=true ↔ uv f:=by
 unfold hdB;exact @decide_eq_true_iff _ (Classical.propDecidable _)
def E9:∀fs:List Fn,(fs.map λf=>D.tup [.str f.name,fnD f])=Zr (fs.map λf=>(Sum.inr f.name:Key)) (fs.map fnD)
 |[]=>rfl
 |f::fs=>by
  rw[List.map_cons,E9 fs];rfl
def Dz(ps:List (Str×Str)):ps.map prD=Zr ((ps.map Prod.fst).map Sum.inr) (ps.map λp=>D.str p.2):=by
 rw[Nf,List.map_map];rfl
def Br{fs:List Fn}(h:(fs.map Fn.name).Nodup):(fs.map λf=>(Sum.inr f.name:Key)).Nodup:=by
 have:(fs.map λf=>(Sum.inr f.name:Key))=(fs.map Fn.name).map Sum.inr:=by rw[List.map_map];rfl
 rw[this];exact List.Pairwise.map _ (λa b h e=>h (Sum.inr.inj e)) h
def Hv{M n:Nat}(T:Tops mg)(a1:FD P w K mg base 3 "head_right" ["function"] Oj)(a2:FD P w K mg base 1 "unlike" ["names"] sj)(a4:FD P w K mg base (3*M+2*n+4) "body_right" pI (W9 M n))(F:Fm K mg "right" 21):FD P w K mg base (3*M+2*n+5) "right" ["program"] (Uk M n):=by
 have S:zt ["program","known"] ["program"] (zh (top 21)):=by walk_at "f"
 walk_at "b";refine⟨_,(zd (zj (yi (wq (Xo zc (w5 T.len (z9 (za 0) zb)) zc)) (zk (zw tw)) ya))
   (zd (zj (yi (wq (wg (uq T.all (z9 (yo (T:=["function"]) (F:=[]) (js:=[]) (yp (za 0)) (cs1 (by walk_at "c")) .nil (by decide) (by walk_at "t") zx (yk 0) yG (λcl C fp s H=>(zi a1 hr.d (z9 (za 0) zb)))) zb)))) (zk (zw tw)) ya))
   (zd (zj (yi (wq (wg (zi a2 hr.d (z9 (yo (T:=["function"]) (F:=[]) (js:=[]) (yp (za 0)) (cs1 (by walk_at "c")) .nil (by decide) (by walk_at "t") zx (yk 0) yG (λcl C fp s H=>(zn hu (za 0) zc))) zb)))) (zk (zw tw)) ya))
   (zd (zj (zm 1 S.nd (Q8 T.dict (z9 (yo (T:=["function"]) (F:=[]) (js:=[]) (yp (za 0)) (cs1 (by walk_at "c")) .nil (by decide) (by walk_at "t") zx (yk 0) yG (λcl C fp s H=>(vb (z9 (zn hu (za 0) zc) (z9 (za 0) zb))))) zb))))
   (zk (tj 1 (zw (uq T.all (z9 (yo (T:=["name","params","gives","body"]) (F:=["known"]) (js:=[1]) (yp (za 0)) (cs1 (by walk_at "c")) (.cons rfl .nil) (by decide) (λcl C fp s H=>(xv (K0:=K) (n:=4) (by rfl) (by rfl) (ye (zo (i:=0) (show(["name","params","gives","body","known"]:List Str).Nodup by decide +kernel) rfl (by walk_at "o")) (ye (zo (i:=1) (show(["name","params","gives","body","known"]:List Str).Nodup by decide +kernel) rfl (by walk_at "o")) (ye (zo (i:=2) (show(["name","params","gives","body","known"]:List Str).Nodup by decide +kernel) rfl (by walk_at "o")) (ye (zo (i:=3) (show(["name","params","gives","body","known"]:List Str).Nodup by decide +kernel) rfl (by walk_at "o")) xu)))))) (u3 (ym yc (xg yc (xg yc (xg yc yw))) zx (ym yc (xg yc (xg yc yw)) zx (ym yc (xg yc yw) zx (ym yc yw zx u5))))) (Bm 0 1 2 3) yG (λcl C fp s H=>(zi a4 hr.d (z9 (za 3) (z9 (G6 T.dict (z9 (za 1) zb)) (z9 (zn hu (za 2) zc) (z9 (za 4) zb))))))) zb))))))))),?_⟩
 obtain⟨d,rfl,fs,v,rfl,hn,hB,a7,hR,h⟩:=vm hT;have vf:¬ ((1<=fs.length/\fs.length<=8)/\(∀f∈fs,uv f)/\(fs.map Fn.name).Nodup)->v=false:=λq=>by
  rcases hR with⟨_,y⟩|⟨vs,ok,_⟩
  ·exact y
  exact absurd ⟨⟨ok.lo,ok.hi⟩,ok.hd,ok.nd⟩ q
 refine ze (λL=>(1<=fs.length/\fs.length<=8)/\L=[q_ (.tup (fs.map fnD)),none]) ?_ ?_
 ·walk_at "dl";refine⟨λa=>⟨λq=>?_,λq=>⟨by omega,by omega⟩⟩,λq=>?_⟩
  ·rw[vf λy=>q (by omega)]at h
   exact h
  rw[vf λy=>q (by omega)]at h
  exact h
 rintro _ ⟨⟨lo,hi⟩,rfl⟩;refine ze (λL=>(∀f∈fs,uv f)/\L=[q_ (.tup (fs.map fnD)),none]) ?_ ?_
 ·walk_at "dl";refine y9 (fs.map fnD) (λN j=>?_) (λi I=>I=(fs.take i).map λf=>D.bl (hdB f)) (by rw[zLm];omega) rfl ?_ ?_
  ·exact⟨trivial,j⟩
  ·rintro i e I he a0 rfl;rw[zai]at he;obtain⟨f,Z,rfl⟩:=zar.mp he;walk_at "p";walk_at "dl";simp only[Oj,ZZ.g1];refine⟨f,rfl,hB f (zan Z),λb hb=>⟨trivial,?_⟩⟩;rw[List.take_succ,Z,Option.toList_some,zMa,Bool.eq_iff_iff.mpr (hb.trans To.symm)];rfl
  rintro I rfl;rw[zLm,List.take_length,show(fs.map λf=>D.bl (hdB f))=(fs.map hdB).map D.bl from by rw[List.map_map];rfl]
  simp only[df,u9,List.all_map];have al:fs.all (id ∘ hdB)=true ↔ ∀f∈fs,uv f:=by
   rw[List.all_eq_true];exact⟨λy f Z=>To.mp (y f Z),λy f Z=>To.mpr (y f Z)⟩
  refine⟨λq=>?_,λq=>al.mp q⟩;rw[vf λy=>by rw[al.mpr y.2.1]at q;cases q]at h
  exact h
 rintro _ ⟨a5,rfl⟩;refine ze (λL=>(fs.map Fn.name).Nodup/\L=[q_ (.tup (fs.map fnD)),none]) ?_ ?_
 ·walk_at "dl";refine y9 (fs.map fnD) (λN j=>?_) (λi I=>I=((fs.take i).map Fn.name).map D.str) (by rw[zLm];omega) rfl ?_ ?_
  ·exact⟨trivial,j⟩
  ·rintro i e I he a0 rfl;rw[zai]at he;obtain⟨f,Z,rfl⟩:=zar.mp he;walk_at "p";simp only[fnD];walk_at "dl";rw[List.take_succ,Z];simp
  rintro I rfl;rw[zLm,List.take_length];walk_at "dl";simp only[sj,ZZ.g1];refine⟨_,rfl,by rw[zLm];omega,λb hb=>?_⟩
  cases b with
  |true=>exact⟨λy=>(nomatch y),λ_=>hb.mp rfl⟩
  |false =>
   refine⟨λ_=>?_,λy=>(nomatch y)⟩;rw[vf λy=>by have:=hb.mpr y.2.2;cases this]at h
   exact h
 rintro _ ⟨a6,rfl⟩;rcases hR with⟨q,_⟩|⟨vs,ok,rfl⟩
 ·exact absurd ⟨⟨lo,hi⟩,a5,a6⟩ q
 refine z_g [q_ (.tup (fs.map fnD)),Q_ (xj fs)] ?_ ?_
 ·walk_at "dl";refine y9 (fs.map fnD) (λN j=>?_) (λi I=>I=((fs.take i).map λf=>D.tup [.str f.name,fnD f])) (by rw[zLm];omega) rfl ?_ ?_
  ·exact⟨trivial,j⟩
  ·rintro i e I he a0 rfl;rw[zai]at he;obtain⟨f,Z,rfl⟩:=zar.mp he;walk_at "p";rw[List.take_succ,Z];simp only[fnD];walk_at "dl";simp
  rintro I rfl;rw[zLm,List.take_length];walk_at "dl";refine⟨_,_,E9 fs,by rw[zLm,zLm],Br ok.nd,rfl⟩
 walk_at "dl";refine y9 (fs.map fnD) (λN j=>?_) (λi I=>I=(fs.take i).map λf=>D.bl (vs f)) (by rw[zLm];omega) rfl ?_ ?_
 ·exact⟨trivial,j⟩
 ·rintro i e I he a0 rfl;rw[zai]at he;obtain⟨f,Z,rfl⟩:=zar.mp he;have fo:=ok.hd f (zan Z);have p4:=fo.hi;walk_at "p";simp only[fnD];walk_at "dl";refine⟨f.params.map Prod.fst,f.params.map λp=>.str p.2,Dz _,by rw[zLm,zLm],by rw[zLm];omega,fo.nd,?_⟩
  refine⟨_,_,_,_,rfl,fs,f.params,f.shape,vs f,λg hg=>by have:=(ok.hd g hg).hi;omega,⟨fo.nd,by omega⟩,?_,rfl,rfl,ok.bd f (zan Z),trivial,?_⟩
  ·unfold yv;rw[List.map_map];rfl
  rw[List.take_succ,Z,Option.toList_some,zMa];rfl
 rintro I rfl;rw[zLm,List.take_length,show(fs.map λf=>D.bl (vs f))=(fs.map vs).map D.bl from by rw[List.map_map];rfl]
 simp only[df,u9,List.all_map];exact h
def tl(s:Str):List Nat:=s.cps.toList
def Od{a b:Str}(h:tl a=tl b):a=b:=by
 cases a;cases b
 exact congrArg Str.mk (Array.ext' h)
def qg(a b:Str):tl (a++b)=tl a++tl b:=by
 unfold tl;show(a.cps++b.cps).toList=_;rw[Array.toList_append]
def jn(z:List Nat):List (List Nat)->List Nat
 |[]=>[]
 |[x]=>x
 |x::y::r=>x++z++jn z (y::r)
def dz(z:Str):∀ps:List Str,tl (Str.join z ps)=jn (tl z) (ps.map tl)
 |[]=>rfl
 |[x]=>rfl
 |x::y::r=>by
  show tl (x++z++Str.join z (y::r))=_;rw[qg,qg,dz z (y::r)];rfl
def sub(c:Nat)(z l:List Nat):List Nat:=l.flatMap λk=>if k=c then z else[k]
def Oq(c:Nat)(z a b:List Nat):sub c z (a++b)=sub c z a++sub c z b:=List.flatMap_append
def Yd{c:Nat}{z:List Nat}:∀{l:List Nat},c∉l->sub c z l=l
 |[],_=>rfl
 |k::l,h=>by
  have h1:k≠c:=λe=>h (e▸zao ..);show(if k=c then z else[k])++sub c z l=_
  rw[if_neg h1,Yd λm=>h (zal _ m)];rfl
def Dd(c:Nat)(z:List Nat):sub c z [c]=z:=by
 show(if c=c then z else[c])++[]=z
 rw[if_pos rfl,List.append_nil]
theorem Fd{c:Nat}{z:List Nat}:∀{ps:List (List Nat)},(∀p∈ps,c∉p)->sub c z (jn [c] ps)=jn z ps
 |[],_=>rfl
 |[x],h=>Yd (h x (zao ..))
 |x::y::r,h=>by
  show sub c z (x++[c]++jn [c] (y::r))=_;rw[Oq,Oq,Dd,Yd (h x (zao ..)),Fd λp j=>h p (zal _ j)];rfl
def fv(x z:Str)(c:Nat):tl (Txt.replace x ⟨#[c]⟩ z)=sub c (tl z) (tl x):=by
 rw[StrLaws.replace_one,dz]
 conv=>rhs;rw[<- StrLaws.join_split x ⟨#[c]⟩,dz]
 refine(Fd (c:=c) λp I=>?_).symm;obtain⟨q,j,rfl⟩:=zah.mp I;exact StrLaws.split_free x c q j
def wd:List Nat->List Nat->List (List Nat)
 |w,[]=>if w=[] then[] else[w]
 |w,k::l=>if k=32 then(if w=[] then wd [] l else w::wd [] l) else wd (w++[k]) l
theorem Y5:∀(p w l:List Nat),32∉p->wd w (p++l)=wd (w++p) l
 |[],w,l,_=>by rw[List.append_nil];rfl
 |k::p,w,l,h=>by
  have h1:k≠32:=λe=>h (e▸zao ..);show(if k=32 then _ else wd (w++[k]) (p++l))=_
  rw[if_neg h1,Y5 p _ l λm=>h (zal _ m),List.append_assoc];rfl
def Ar(p:List Nat)(h:32∉p):wd [] p=[p].filter (·≠[]):=by
 have:=Y5 p [] [] h;rw[List.append_nil,List.nil_append]at this;rw[this];cases p with
 |nil=>rfl
 |cons k p=>rfl
def As(p l:List Nat)(h:32∉p):wd [] (p++[32]++l)=[p].filter (·≠[])++wd [] l:=by
 rw[List.append_assoc,Y5 p [] _ h,List.nil_append];show(if 32=32 then(if p=[] then wd [] l else p::wd [] l) else _)=_
 rw[if_pos rfl];cases p with
 |nil=>rfl
 |cons k p=>rfl
theorem Aq:∀{ps:List (List Nat)},(∀p∈ps,32∉p)->wd [] (jn [32] ps)=ps.filter (·≠[])
 |[],_=>rfl
 |[x],h=>Ar x (h x (zao ..))
 |x::y::r,h=>by
  show wd [] (x++[32]++jn [32] (y::r))=_;rw[As x _ (h x (zao ..)),Aq λp j=>h p (zal _ j)];exact(List.filter_append (p:=λx=>decide (x≠[])) [x] (y::r)).symm
def Gu{w:Str}:(tl w≠[]) ↔ w≠"":=⟨λh e=>h (by rw[e];decide +kernel),λh e=>h (Od (e.trans (by decide +kernel)))⟩
def Kp(x:Str):((Txt.split x ⟨#[32]⟩).filter (λw=>w≠("" : Str))).map tl=wd [] (tl x):=by
 conv=>rhs;rw[<- StrLaws.join_split x ⟨#[32]⟩,dz]
 rw[show tl ⟨#[32]⟩=[32] from rfl,Aq λp I=>by
  obtain⟨q,j,rfl⟩:=zah.mp I;exact StrLaws.split_free x 32 q j]
 rw[List.filter_map]
 congr 1
 refine List.filter_congr λw _=>?_;simp only[Function.comp];rw[decide_eq_decide];exact Gu.symm
def vq(z:Str):List Str:=(Txt.split (Txt.replace (Txt.replace (Txt.replace z "(" " ( ") ")" " ) ") "\n" " ") " ").filter (λw=>w≠("" : Str))
def ec(k:Nat):List Nat:=if k=40 then[32,40,32] else if k=41 then[32,41,32] else if k=10 then[32] else[k]
def W(l:List Nat):List (List Nat):=wd [] (l.flatMap ec)
def Dc(l:List Nat):sub 10 [32] (sub 41 [32,41,32] (sub 40 [32,40,32] l))=l.flatMap ec:=by
 unfold sub;rw[List.flatMap_assoc,List.flatMap_assoc]
 congr 1
 funext k
 unfold ec;by_cases h1:k=40
 ·subst h1;rfl
 rw[if_neg h1,if_neg h1];by_cases h2:k=41
 ·subst h2;rfl
 rw[if_neg h2];by_cases h3:k=10
 ·subst h3;rfl
 rw[if_neg h3];simp[h2,h3]
def Ey(z:Str):(vq z).map tl=W (tl z):=by
 unfold vq W;rw[show(" " : Str)=⟨#[32]⟩ from by decide +kernel,Kp,<- Dc]
 rw[show("\n" : Str)=⟨#[10]⟩ from by decide +kernel,fv,show(")" : Str)=⟨#[41]⟩ from by decide +kernel,fv,show("(" : Str)=⟨#[40]⟩ from by decide +kernel,fv]
 rw[show tl ⟨#[32]⟩=[32] from rfl,show tl " ) " = [32,41,32] from by decide +kernel,show tl " ( " = [32,40,32] from by decide +kernel]
def V9(k:Nat):Prop:=k=32\/k=10\/k=40\/k=41
def Head(l:List Nat):Prop:=∀k r,l=k::r->V9 k
def Ai{k:Nat}(l:List Nat)(h:k=32\/k=10):W (k::l)=W l:=by
 rcases h with rfl|rfl <;> rfl
def W_br{k:Nat}(l:List Nat)(h:k=40\/k=41):W (k::l)=[k]::W l:=by
 rcases h with rfl|rfl <;> rfl
def G9{k:Nat}(h:¬ V9 k):ec k=[k]:=by
 unfold ec;unfold V9 at h;rw[if_neg λe=>h (.inr (.inr (.inl e))),if_neg λe=>h (.inr (.inr (.inr e))),if_neg λe=>h (.inr (.inl e))]
def Zy:∀{w:List Nat},(∀k∈w,¬ V9 k)->w.flatMap ec=w
 |[],_=>rfl
 |k::w,h=>by
  rw[List.flatMap_cons,G9 (h k (zao ..)),Zy λx j=>h x (zal _ j)];rfl
def z4d{w l:List Nat}(q:w≠[])(I:∀ k∈w,¬ V9 k)(hl:Head l):W (w++l)=w::W l:=by
 have j:32∉w:=λm=>I 32 m (.inl rfl);unfold W;rw[List.flatMap_append,Zy I,Y5 w [] _ j,List.nil_append];cases l with
 |nil =>
  show(if w=[] then[] else[w])=_
  rw[if_neg q];rfl
 |cons k r =>
  rcases hl k r rfl with rfl|rfl|rfl|rfl <;>
  ·show(if (32:Nat)=32 then(if w=[] then _ else w::_) else _)=_
   rw[if_pos rfl,if_neg q];rfl
def Beg(l:List Nat)(j:List (List Nat))(free:Bool):Prop:=∀r,(free=false->Head r)->W (l++r)=j++W r
def Ad:Beg [] [] true:=λr _=>rfl
def Lu{l b:List Nat}{q:List (List Nat)}{f:Bool}(h:Beg l q f)(Z:∀ k∈b,k=32\/k=10)(hn:b≠[]):Beg (l++b) q true:=λr _=>by
 have j:∀c:List Nat,(∀k∈c,k=32\/k=10)->W (c++r)=W r:=by
  intro c
  induction c with
  |nil=>intro _;rfl
  |cons k c ih=>intro I;rw[List.cons_append,Ai _ (I k (zao ..)),ih λx hx=>I x (zal _ hx)]
 rw[List.append_assoc,h _ λ_ k r' e=>?_,j b Z];cases b with
 |nil=>exact absurd rfl hn
 |cons x b =>
  have:x=k:=(List.cons.inj e).1;subst this;rcases Z x (zao ..) with z|z
  ·exact .inl z
  exact .inr (.inl z)
def Em{l:List Nat}{j:List (List Nat)}{f:Bool}{k:Nat}(h:Beg l j f)(q:k=40\/k=41):Beg (l++[k]) (j++[[k]]) true:=λr _=>by
 rw[List.append_assoc,h _ λ_ k' I e=>?_,List.append_assoc]
 ·congr 1
  exact W_br r q
 have:k=k':=(List.cons.inj e).1;subst this;rcases q with z|z
 ·exact .inr (.inr (.inl z))
 exact .inr (.inr (.inr z))
def Gi{l w:List Nat}{j:List (List Nat)}(h:Beg l j true)(q:w≠[])(I:∀ k∈w,¬ V9 k):Beg (l++w) (j++[w]) false:=λr hr=>by
 have e:=h (w++r) λz=>nomatch z;rw[List.append_assoc,e,z4d q I (hr rfl),List.append_assoc];rfl
def Ae{l:List Nat}{ws:List (List Nat)}{f:Bool}(h:Beg l ws f):W l=ws:=by
 have:=h [] λ_ k r e=>nomatch e;rw[List.append_nil]at this;rw[this];exact List.append_nil ws
def z3b{i:Nat}{d:D}{L:DE}{N:DE->Prop}(h:N (setS L i (dv d))):gN i d L N:=h
def Sx(zs:List Str):vg (zs.map D.str):=yu.mpr λd j=>by
 obtain⟨z,_,rfl⟩:=zah.mp j;trivial
def xq:sizeLine=16777216:=by decide +kernel
def ui(z:Str):(tl z).length=z.length:=by
 unfold tl Str.length;exact Array.length_toList
theorem Oo(c:Nat)(z:List Nat):∀l:List Nat,(sub c z l).length+l.count c=l.length+z.length*l.count c
 |[]=>rfl
 |k::l=>by
  have j:=Oo c z l;show((if k=c then z else[k])++sub c z l).length+_=_
  by_cases h:k=c
  ·subst h;rw[if_pos rfl,List.count_cons_self,zLa,zLc,Nat.mul_add,Nat.mul_one];omega
  rw[if_neg h,List.count_cons_of_ne (by exact h),zLa,zLc]
  simp only[zLc,zLn];omega
theorem Wa{c d:Nat}{z:List Nat}(j:d≠c)(hz:z.count d=0):∀l:List Nat,(sub c z l).count d=l.count d
 |[]=>rfl
 |k::l=>by
  have q:=Wa j hz l;show((if k=c then z else[k])++sub c z l).count d=_
  rw[List.count_append,q];by_cases h:k=c
  ·subst h;rw[if_pos rfl,hz,List.count_cons_of_ne (λe=>j e.symm),Nat.zero_add]
  rw[if_neg h,List.count_cons (l:=l),List.count_cons (l:=[]),List.count_nil];omega
def rf(z:Str):Prop:=z.length+2*(tl z).count 40+2*(tl z).count 41<=4190000
def Gv:FT:=g1 λd U=>∃z:Str,d=.str z/\rf z/\U (df (.lst ((vq z).map D.str)))
def gn(x z:Str)(c:Nat):(Txt.replace x ⟨#[c]⟩ z).length+(tl x).count c=x.length+z.length*(tl x).count c:=by
 rw[<- ui,fv,<- ui x,<- ui z];exact Oo c (tl z) (tl x)
def r40:("(" : Str)=⟨#[40]⟩:=by decide +kernel
def r41:(")" : Str)=⟨#[41]⟩:=by decide +kernel
def r10:("\n" : Str)=⟨#[10]⟩:=by decide +kernel
def r32:(" " : Str)=⟨#[32]⟩:=by decide +kernel
def l40:(" ( " : Str).length=3:=by decide +kernel
def l41:(" ) " : Str).length=3:=by decide +kernel
def l32:(" " : Str).length=1:=by decide +kernel
def Dj{z:Str}(h:rf z):z.length+(z.length+1)*(" ( " : Str).length<=16777216:=by
 unfold rf at h;rw[l40];omega
def Di{z:Str}(h:rf z):(Txt.replace z "(" " ( ").length+((Txt.replace z "(" " ( ").length+1)*(" ) " : Str).length<=16777216:=by
 have e:=gn z " ( " 40;rw[<- r40,l40]at e;unfold rf at h;rw[l41];omega
def Ox{z:Str}(h:rf z):(Txt.replace (Txt.replace z "(" " ( ") ")" " ) ").length<=4190000:=by
 have e:=gn z " ( " 40;rw[<- r40,l40]at e;have j:=gn (Txt.replace z "(" " ( ") " ) " 41;rw[<- r41,l41]at j;have q:(tl (Txt.replace z "(" " ( ")).count 41=(tl z).count 41:=by
  rw[r40,fv];exact Wa (by decide) (by decide +kernel) _
 unfold rf at h;omega
def Dh{z:Str}(h:rf z):(Txt.replace (Txt.replace (Txt.replace z "(" " ( ") ")" " ) ") "\n" " ").length<=4190000:=by
 have e:=gn (Txt.replace (Txt.replace z "(" " ( ") ")" " ) ") " " 10;rw[<- r10,l32]at e;have:=Ox h;omega
theorem E2(z:List Nat)(hz:1<=z.length):∀ps:List (List Nat),ps.length<=(jn z ps).length+1
 |[]=>Nat.zero_le _
 |[x]=>Nat.succ_le_succ (Nat.zero_le _)
 |x::y::r=>by
  have j:=E2 z hz (y::r);show _<=(x++z++jn z (y::r)).length+1;rw[zLa,zLa,zLc];omega
def Ov(x:Str)(c:Nat):(Txt.split x ⟨#[c]⟩).length<=x.length+1:=by
 have h:=E2 [c] (zaj _) ((Txt.split x ⟨#[c]⟩).map tl);have e:=dz ⟨#[c]⟩ (Txt.split x ⟨#[c]⟩);rw[StrLaws.join_split]at e;rw[zLm,<- show tl x=jn [c] _ from e,ui]at h;exact h
def Ts(T:Tops mg)(F:Fm K mg "words_of" 35):FD P w K mg base 1 "words_of" ["text"] Gv:=by
 have S:zt ["text","spread"] ["text"] (zh (top 35)):=by walk_at "f"
 obtain⟨f,fd,F,m⟩:=F;refine z3h F S ⟨_,rfl,rfl⟩ (F.binds λ_ _ _ _ _ _ us hl=>(by obtain⟨_,rfl⟩:=ve hl;rfl)) m λqZ A outer s H E ds U hr hl hT=>?_
 have hu:=hr.units;refine⟨_,(Kn (Dl 1 S.nd (qe (by decide +kernel) (qe (by decide +kernel) (qe (by decide +kernel) (ED.p (za 0))))))
   (SDs.p (zk (zw (yo (T:=["word"]) (F:=[]) (js:=[]) (yp (Hz (za 1) zg)) (cs1 (by walk_at "c")) .nil (by decide) (by walk_at "t") zx (yk 0) (λcl C fp s H=>(ck (qx hu (za 0) zg))) (λcl C fp s H=>(za 0))))))),?_⟩
 obtain⟨d,rfl,z,rfl,hz,h⟩:=vm hT;refine⟨Dj hz,Di hz,by have:=Ox hz;rw[l32];omega,trivial,?_⟩
 have a1:=Dh hz;have hs:=Ov (Txt.replace (Txt.replace (Txt.replace z "(" " ( ") ")" " ) ") "\n" " ") 32;rw[<- r32]at hs
 dsimp only [sRet]
 refine(y9 ((Txt.split (Txt.replace (Txt.replace (Txt.replace z "(" " ( ") ")" " ) ") "\n" " ") " ").map D.str) (λN j=>⟨by decide +kernel,by rw[xq];omega,by rw[xq];omega,trivial,j⟩)
  (λi gs=>gs=((((Txt.split (Txt.replace (Txt.replace (Txt.replace z "(" " ( ") ")" " ) ") "\n" " ") " ").take i).filter (λw=>w≠("" : Str))).map D.str)) ?_ rfl ?_ ?_)
 ·rw[zLm];omega
 ·rintro i d gs hd a0 rfl;rw[zai]at hd;obtain⟨q,hq,rfl⟩:=zar.mp hd;have ht:∀l:List Str,l[i]?=some q->l.take (i+1)=l.take i++[q]:=λl h=>by rw[List.take_succ,h];rfl
  rw[ht _ hq];refine z3b ?_;refine⟨xn▸trivial,xn▸trivial,λe=>⟨trivial,?_⟩,λe=>?_⟩
  ·have I:q≠("" : Str):=λz=>by rw[z]at e;exact absurd e (by decide +kernel)
   rw[List.filter_append,zMa,List.filter_cons_of_pos (by simpa using I)]
   rfl
  have Z:q=("" : Str):=by
   have e':(!(q==("" : Str)))=false:=e;simpa using e'
  rw[List.filter_append,zMa,List.filter_cons_of_neg (by simp[Z])]
  exact(List.append_nil _).symm
 rintro _ rfl;rw[zLm,List.take_length];exact⟨Sx _,h⟩
def Ud(w:Str):Prop:=tl w≠[]/\∀k∈tl w,¬ V9 k
def isBr(w:Str):Bool:=w==("(" : Str) || w==(")" : Str)
def Tok(w:Str):Prop:=isBr w=true\/Ud w
def wlen(zs:List Str):Nat:=(zs.map λw=>w.length+2).sum
def free(zs:List Str):Nat->Bool
 |0=>true
 |k+1=>isBr (zs.getD k "(")
structure Ln(zs:List Str)(j:Nat)(z:Str):Prop where
 beg:Beg (tl z) ((zs.take j).map tl) (free zs j)
 len:z.length<=4+wlen (zs.take j)
 cnt:(tl z).count 40+(tl z).count 41<=j
def Bl(b:Str):Prop:=(∀k∈tl b,k=32\/k=10)/\b.length<=4
def X2(a b:Str):(a++b).length=a.length+b.length:=by
 rw[<- ui,qg,zLa,ui,ui]
def Xy{b:Str}(h:Bl b):(tl b).count 40=0/\(tl b).count 41=0 :=
 ⟨List.count_eq_zero.mpr λm=>(by rcases h.1 _ m with z|z <;> exact absurd z (by decide)),List.count_eq_zero.mpr λm=>(by rcases h.1 _ m with z|z <;> exact absurd z (by decide))⟩
def Qg{w:Str}(h:isBr w=true):tl w=[40]\/tl w=[41]:=by
 unfold isBr at h;rw[Bool.or_eq_true,beq_iff_eq,beq_iff_eq]at h;rcases h with rfl|rfl
 ·exact .inl (by decide +kernel)
 exact .inr (by decide +kernel)
def Lv{l:List Nat}{j:List (List Nat)}{f:Bool}{b:Str}(h:Beg l j f)(q:Bl b):Beg (l++tl b) j (if b=("" : Str) then f else true):=by
 by_cases e:b=("" : Str)
 ·rw[if_pos e,e,show tl "" = [] from by decide +kernel,List.append_nil]
  exact h
 rw[if_neg e];exact Lu h q.1 (Gu.mpr e)
def W7{zs:List Str}{j:Nat}(q:j<zs.length):zs.take (j+1)=zs.take j++[zs[j]]:=by
 rw[List.take_succ,zaf q];rfl
def Jp{z:Str}(zs:List Str)(h:Bl z):Ln zs 0 z:=by
 refine⟨?_,by have:=h.2;unfold wlen;simp;omega,by have:=Xy h;omega⟩
 have:=Lv Ad h;rw[List.nil_append]at this;by_cases e:z=("" : Str)
 ·rw[if_pos e]at this;exact this
 rw[if_neg e]at this;exact this
def B1{zs:List Str}{j:Nat}{z b:Str}(h:Ln zs j z)(I:j<zs.length)(Z:Tok zs[j])(hb:Bl b)(a0:b.length<=2)(hs:b=("" : Str)->free zs j=true\/isBr zs[j]=true):Ln zs (j+1) (z++b++zs[j]):=by
 have g:zs.getD j "(" = zs[j]:=by rw[zaq,zaf I];rfl
 have q:=Lv h.beg hb;have c0:=Xy hb;have hl:=h.len;have hc:=h.cnt;have lw:wlen (zs.take (j+1))=wlen (zs.take j)+(zs[j].length+2):=by
  rw[W7 I];unfold wlen;rw[zMa,List.sum_append];rfl
 refine⟨?_,by rw[X2,X2,lw];omega,?_⟩
 ·show Beg _ _ (isBr (zs.getD j "("));rw[g,W7 I,zMa,qg,qg];cases hbr:isBr zs[j] with
  |true =>
   show Beg _ (_++[tl zs[j]]) true;rcases Qg hbr with e|e
   ·rw[e];exact Em q (.inl rfl)
   rw[e];exact Em q (.inr rfl)
  |false =>
   rcases Z with z|⟨h1,h2⟩
   ·rw[hbr]at z;cases z
   refine Gi ?_ h1 h2;by_cases e:b=("" : Str)
   ·rw[if_pos e]at q;rcases hs e with z|z
    ·rw[z]at q;exact q
    rw[hbr]at z;cases z
   rw[if_neg e]at q;exact q
 rw[qg,qg,List.count_append,List.count_append,List.count_append,List.count_append];have:(tl zs[j]).count 40+(tl zs[j]).count 41<=1:=by
  rcases Z with z|⟨h1,h2⟩
  ·rcases Qg z with e|e <;> rw[e] <;> decide
  rw[List.count_eq_zero.mpr λm=>h2 _ m (.inr (.inr (.inl rfl))),List.count_eq_zero.mpr λm=>h2 _ m (.inr (.inr (.inr rfl)))];exact Nat.zero_le _
 omega
def Zs:∀{a b:List Str},a.map tl=b.map tl->a=b
 |[],[],_=>rfl
 |x::a,y::b,h=>by
  rw[List.map_cons,List.map_cons]at h;rw[Od (List.cons.inj h).1,Zs (List.cons.inj h).2]
def Fy{zs:List Str}{z t:Str}(h:Ln zs zs.length z)(j:Bl t)(I:wlen zs+2*zs.length<=4000000):vq (z++t)=zs/\rf (z++t):=by
 have q:=Lv h.beg j;have c0:=Xy j;have hl:=h.len;have Z:=h.cnt;rw[List.take_length]at q hl;refine⟨Zs ?_,?_⟩
 ·rw[Ey,qg];exact Ae q
 unfold rf;rw[X2,qg,List.count_append,List.count_append];have:=j.2;omega
def g21(g:D->D->(EV->Prop)->Prop):FT:=λds U=>∃a b,ds=[a,b]/\g a b U
def U3{b:Str}(h:(tl b).all (λk=>k==32 || k==10)=true)(hl:b.length<=4):Bl b:=⟨λk j=>by
 have:=List.all_eq_true.mp h k j;rw[Bool.or_eq_true,beq_iff_eq,beq_iff_eq]at this;exact this,hl⟩
def xx1{α:Type}{l:List α}{i:Nat}(h:i<l.length):atI l (i:Int)=l[i]?:=by
 unfold atI ixN;rw[if_pos (by omega),if_pos (by omega)]
 simp
def v6:FT:=g1 λd U=>∃z,d=.str z/\z.length<=1000/\IsNm z/\U (dv (.str z))
def k9:FT:=g1 λd U=>∃z,d=.str z/\z∈km/\U (dv (.str z))
def Vh(T:Tops mg)(j:FD P w K mg base 1 "is_name" pC um)(F:Fm K mg "read_name" 40):FD P w K mg base 2 "read_name" ["part"] v6:=by
 have S:zt ["part"] ["part"] (zh (top 40)):=by walk_at "f"
 walk_at "b";refine⟨_,(zd (yi (wq (wg (zi j (hr.e rfl) (z9 (za 0) zb)))) (zk uj) ya)
   (zk (zw (za 0)))),?_⟩
 obtain⟨d,rfl,z,rfl,hl1,nm,h⟩:=vm hT;walk_at "dl";simp only[um,ZZ.g1];refine⟨z,rfl,hl1,λb I=>?_⟩;rw[I.mpr nm];exact⟨λq=>absurd q (by decide),λ_=>h⟩
def Xg(T:Tops mg)(Z:Con2 P w K mg)(F:Fm K mg "read_shape" 42):FD P w K mg base 1 "read_shape" ["part"] k9:=by
 have S:zt ["part"] ["part"] (zh (top 42)):=by walk_at "f"
 walk_at "b";refine⟨_,(zd (yi (Bw (za 0) (cq Z.c_SHAPES)) (zk uj) ya)
   (zk (zw (za 0)))),?_⟩
 obtain⟨d,rfl,z,rfl,hz,h⟩:=vm hT;walk_at "dl";have j:z = "num"\/z = "list"\/z = "tree":=by simpa [km] using hz
 rcases j with rfl|rfl|rfl <;> exact⟨by decide +kernel,λq=>absurd q (by decide +kernel),λ_=>h⟩
def Ga:∀(m:Nat),0<m->∃c r,Nat.toDigits 10 m=c::r/\c≠'0':=by
 intro m
 induction m using Nat.strongRecOn with
 |_ m ih =>
  intro j;by_cases h:m<10
  ·rw[Nat.toDigits_of_lt_base h];refine⟨_,_,rfl,?_⟩;have:∀k:Nat,k<10->0<k->k.digitChar≠'0':=by decide
   exact this m h j
  obtain⟨c,r,e,q⟩:=ih (m / 10) (by omega) (by omega)
  rw[Nat.toDigits_of_base_le (by decide) (by omega),e]
  exact⟨c,_,rfl,q⟩
def numS(i:Int):Str:=PySem.Str.ofString (toString i)
structure Figs(i:Int)(fs:List Nat):Prop where
 tx:tl (numS i)=if i<0 then 45::fs else fs
 lo:1<=fs.length
 hi:fs.length<=60
 dg:∀c∈fs,48<=c/\c<=57
 hd:i≠0->∀r,fs≠48::r
def La{m c:Nat}(h:c∈(Nat.toDigits 10 m).map Char.toNat):48<=c/\c<=57:=by
 obtain⟨d,j,rfl⟩:=zah.mp h;have:=Nat.isDigit_of_mem_toDigits (by decide) (by decide) j
 simp[Char.isDigit]at this;exact⟨this.1,this.2⟩
def Lb{m:Nat}(h:0<m)(r:List Nat):(Nat.toDigits 10 m).map Char.toNat≠48::r:=λe=>by
 obtain⟨c,q,I,j⟩:=Ga m h;rw[I,List.map_cons]at e;exact j (Char.toNat_inj.mp (List.cons.inj e).1)
def Xs{m:Nat}(h:m<10 ^ 60):1<=((Nat.toDigits 10 m).map Char.toNat).length/\((Nat.toDigits 10 m).map Char.toNat).length<=60:=by
 rw[zLm];have h2:=(Nat.length_toDigits_le_iff (b:=10) (n:=m) (k:=60) (by decide) (by decide)).mpr h
 refine⟨?_,h2⟩;have:=Nat.length_toDigits_pos (b:=10) (n:=m);omega
def Xd{i:Int}(h:i.natAbs<10 ^ 60):∃fs,Figs i fs:=by
 cases i with
 |ofNat m =>
  have e:tl (numS (m:Int))=_:=b5 m;refine⟨_,?_,(Xs (m:=m) (by simpa using h)).1,(Xs (m:=m) (by simpa using h)).2,λc j=>La j,λhz r=>Lb (by
   rcases Nat.eq_zero_or_pos m with z|z
   ·exact absurd (by rw[z];rfl) hz
   exact z) r⟩
  rw[if_neg (show ¬ (Int.ofNat m<0) from Int.not_lt.mpr (Int.natCast_nonneg m))];exact e
 |negSucc m =>
  refine⟨_,?_,(Xs (m:=m+1) (by simpa using h)).1,(Xs (m:=m+1) (by simpa using h)).2,λc j=>La j,λ_ r=>Lb (Nat.succ_pos m) r⟩
  rw[if_pos (Int.negSucc_lt_zero m)];exact cz m
def Ff(x:Str)(c:Nat):Txt.startswith x ⟨#[c]⟩=((tl x).head?==some c):=by
 unfold Txt.startswith
 rw[StrLaws.subAt_eq];show(decide (0+1<=x.length)&&(((tl x).drop 0).take 1==[c]))=_;rw[<- ui];cases tl x with
 |nil=>rfl
 |cons k r=>simp
def r45:("-" : Str)=⟨#[45]⟩:=by decide +kernel
def r48:("0" : Str)=⟨#[48]⟩:=by decide +kernel
def A9{x:Str}{k:Nat}{fs:List Nat}(h:tl x=k::fs):cutS x (some 1) none=⟨fs.toArray⟩:=by
 have hl:x.length=fs.length+1:=by rw[<- ui,h];rfl
 unfold cutS;rw[show x.cps.toList=k::fs from h,hl,show ZZ.sIx (fs.length+1) 0 (some 1)=1 from by unfold ZZ.sIx;simp,show ZZ.sIx (fs.length+1) (fs.length+1) none=fs.length+1 from rfl]
 simp
def Oi:FT:=g1 λd U=>∃i:Int,d=.str (numS i)/\i.natAbs<10 ^ 60/\U (dv (.bl true))
def Vm(T:Tops mg)(Z:Con2 P w K mg)(hF:GC K mg "FIGURES" (.str "0123456789"))(F:Fm K mg "is_number" 43):FD P w K mg base 1 "is_number" ["word"] Oi:=by
 have S:zt ["word","figures"] ["word"] (zh (top 43)):=by walk_at "f"
 walk_at "b";refine⟨_,(zd (zj (zm 1 S.nd (Q6 (wg (Vr (za 0) zg)) (L6 (za 0) (xi zc) wy) (za 0))))
   (zd (zj (yi (EW.et (qw (wq (Xo zc (w5 T.len (z9 (za 1) zb)) zc)) (sw (wq (wg (uq T.all (z9 (yo (T:=["sign"]) (F:=[]) (js:=[]) (yp (za 1)) (cs1 (by walk_at "c")) .nil (by decide) (by walk_at "t") zx (yk 0) yG (λcl C fp s H=>(z3r hu (za 0) (cq hF)))) zb))))))) (zk (zw tw)) ya))
   (zk (zw (z5w (Xr hu (za 0) zg) (sx (tu (Vr (za 1) zg)))))))),?_⟩
 obtain⟨d,rfl,i,rfl,hi,h⟩:=vm hT;obtain⟨fs,X⟩:=Xd hi;refine z_g [q_ (.str (numS i)),q_ (.str ⟨fs.toArray⟩)] ?_ ?_
 ·have tx:=X.tx;have nm:Txt.startswith (numS i) "-" = decide (i<0):=by
   rw[r45,Ff,tx];by_cases I:i<0
   ·rw[if_pos I,decide_eq_true I];rfl
   rw[if_neg I,decide_eq_false I];cases fs with
   |nil=>rfl
   |cons c r =>
    have:=X.dg c (zao ..);show(some c==some 45)=false;rw[beq_eq_false_iff_ne];intro e;have:=Option.some.inj e;omega
  have a1:(numS i).length<=61:=by
   have:=X.hi;rw[<- ui,tx];split
   ·rw[zLc];omega
   omega
  have es:tl (⟨fs.toArray⟩:Str)=fs:=rfl;refine⟨λz=>?_,λz=>?_⟩
  ·have I:i<0:=of_decide_eq_true (nm.symm.trans z);rw[if_pos I]at tx;refine⟨by rw[xq];omega,trivial,?_⟩
   show[q_ (.str (numS i)),q_ (.str (cutS (numS i) (some 1) none))]=_;rw[A9 tx]
  have I:¬ i<0:=of_decide_eq_false (nm.symm.trans z);rw[if_neg I]at tx;refine⟨trivial,?_⟩;show[q_ (.str (numS i)),q_ (.str (numS i))]=_;rw[show numS i=(⟨fs.toArray⟩:Str) from Od tx]
 have lo:=X.lo;have a5:=X.hi;have fl:(⟨fs.toArray⟩:Str).length=fs.length:=by rw[<- ui];rfl
 refine z_g [q_ (.str (numS i)),q_ (.str ⟨fs.toArray⟩)] ?_ ?_
 ·walk_at "dl";rw[fl];refine⟨by rw[xq];omega,λ_=>⟨λq=>absurd (by omega) q,λ_=>?_⟩,λq=>absurd (by omega) q⟩
  refine y9 (fs.map λc=>D.str ⟨#[c]⟩) (λN a0=>⟨trivial,a0⟩) (λj gs=>gs=List.replicate j (D.bl true)) (by rw[zLm];omega) rfl ?_ ?_
  ·rintro j d gs hd a4 rfl;rw[zai]at hd;obtain⟨c,hc,rfl⟩:=zar.mp hd;have a2:=X.dg c (zan hc);have e:(!(Builtin.Str.occurrences ("0123456789" : Str) ⟨#[c]⟩ 0 ("0123456789" : Str).length 1).isEmpty)=true:=by
    rw[StrLaws.found_one,show("0123456789" : Str).cps.toList=[48,49,50,51,52,53,54,55,56,57] from by decide +kernel,decide_eq_true_eq]
    simp only[zam,List.not_mem_nil,or_false];omega
   refine z3b ⟨λ_=>⟨trivial,?_⟩,λz=>nomatch z⟩;show List.replicate j _++[D.bl (!(Builtin.Str.occurrences ("0123456789" : Str) ⟨#[c]⟩ 0 ("0123456789" : Str).length 1).isEmpty)]=_;rw[e];exact List.replicate_succ'.symm
  rintro _ rfl;simp only[df,Sg,Us];exact λz=>nomatch z
 walk_at "dl";refine⟨λ_=>h,λq=>?_⟩;have hz:i≠0:=λe=>q (by rw[e];decide +kernel)
 have ns:Txt.startswith (⟨fs.toArray⟩:Str) "0" = false:=by
  rw[r48,Ff,show tl (⟨fs.toArray⟩:Str)=fs from rfl];cases fs with
  |nil=>rfl
  |cons c r =>
   show(some c==some 48)=false;rw[beq_eq_false_iff_ne];intro e;exact X.hd hz r (by rw[Option.some.inj e])
 show U (dv (.bl (!Txt.startswith (⟨fs.toArray⟩:Str) "0")));rw[ns];exact h
def gh:FT:=g1 λd U=>∃i:Int,d=.str (numS i)/\i.natAbs<10 ^ 60/\U (dv (.int i))
def d7{i:Int}(h:i.natAbs<10 ^ 60):(numS i).length<=61:=by
 obtain⟨fs,X⟩:=Xd h;have:=X.hi;rw[<- ui,X.tx];split
 ·rw[zLc];omega
 omega
def Z3(T:Tops mg)(j:FD P w K mg base 1 "is_number" ["word"] Oi)(F:Fm K mg "read_number" 44):FD P w K mg base 2 "read_number" ["part"] gh:=by
 have S:zt ["part"] ["part"] (zh (top 44)):=by walk_at "f"
 walk_at "b";refine⟨_,(zd (yi (EW.et (qw (wq (wg (vn T.isinstance (z9 (za 0) (z9 (Vq T.str ug) zb))))) (sw (wq (wg (zi j (hr.e rfl) (z9 (za 0) zb))))))) (zk uj) ya)
   (zk (zw (Bz T.int (z9 (za 0) zb))))),?_⟩
 obtain⟨d,rfl,i,rfl,hi,h⟩:=vm hT;have q:=d7 hi;walk_at "dl";exact⟨i,rfl,hi,(λz=>nomatch z),λ_=>⟨i,Hl hi,by omega,trivial,h⟩⟩
def Wd(z:Str)(e:D):Prop:=((z = "nil"\/z = "leaf")/\e=.tup [.str z])\/(IsNm z/\e=.tup [.str "var",.str z])\/(∃i:Int,i.natAbs<10 ^ 60/\z=numS i/\e=.tup [.str "num",.int i])
def fh:FT:=g1 λd U=>∃z e,d=.str z/\Wd z e/\U (dv e)
def z5l(z:Str):inD (.str z) [.str "nil",.str "leaf"]=decide (z=("nil" : Str)\/z=("leaf" : Str)):=by
 show(eqD (.str "nil") (.str z) || (eqD (.str "leaf") (.str z) || false))=_
 rw[ue,ue,Bool.or_false,Bool.eq_iff_iff,Bool.or_eq_true,beq_iff_eq,beq_iff_eq,decide_eq_true_eq];exact⟨λh=>h.imp Eq.symm Eq.symm,λh=>h.imp Eq.symm Eq.symm⟩
def Ny{i:Int}(h:i.natAbs<10 ^ 60):¬ IsNm (numS i)/\numS i≠("nil" : Str)/\numS i≠("leaf" : Str):=by
 obtain⟨fs,X⟩:=Xd h;have q:∃c∈tl (numS i),c<=57:=by
  have lo:=X.lo;rw[X.tx];cases fs with
  |nil=>cases lo
  |cons c r =>
   have I:=X.dg c (zao ..);split
   ·exact⟨c,zal _ (zao ..),I.2⟩
   exact⟨c,zao ..,I.2⟩
 obtain⟨c,j,I⟩:=q;refine⟨λnm=>?_,λe=>?_,λe=>?_⟩
 ·have:=nm.2.2.2.2 c j;unfold rj at this;rw[StrLaws.found_one,decide_eq_true_eq]at this;have big:∀k∈X1.cps.toList,97<=k:=by decide +kernel
  have:=big c this;omega
 ·rw[e]at j;have big:∀k∈tl ("nil" : Str),97<=k:=by decide +kernel
  have:=big c j;omega
 rw[e]at j;have big:∀k∈tl ("leaf" : Str),97<=k:=by decide +kernel
 have:=big c j;omega
def Vg(T:Tops mg)(I:FD P w K mg base 1 "is_name" pC um)(j:FD P w K mg base 2 "read_number" ["part"] gh)(F:Fm K mg "read_word" 51):FD P w K mg base 3 "read_word" ["word"] fh:=by
 have S:zt ["word"] ["word"] (zh (top 51)):=by walk_at "f"
 walk_at "b";refine⟨_,(zd (yi (z5v hu (za 0) (vb (z9 zg (z9 zg zb)))) (zk (zw (vb (z9 (za 0) zb)))) ya)
   (zd (yi (wg (zi I (hr.e rfl) (z9 (za 0) zb))) (zk (zw (vb (z9 zg (z9 (za 0) zb))))) ya)
   (zk (zw (vb (z9 zg (z9 (zi j (hr.e rfl) (z9 (za 0) zb)) zb))))))),?_⟩
 obtain⟨d,rfl,z,e,rfl,hw,h⟩:=vm hT;walk_at "dl";simp only[z5l,um,gh,ZZ.g1];simp only[if_false,decide_eq_true_eq,decide_eq_false_iff_not];refine⟨by decide +kernel,λq=>?_,λq=>?_⟩
 ·rcases hw with⟨_,rfl⟩|⟨nm,_⟩|⟨i,hi,rfl,_⟩
  ·exact h
  ·rcases q with z|z
   ·exact absurd z nm.2.2.1
   exact absurd z nm.2.2.2.1
  rcases q with z|z
  ·exact absurd z (Ny hi).2.1
  exact absurd z (Ny hi).2.2
 rcases hw with⟨z,_⟩|⟨nm,rfl⟩|⟨i,hi,rfl,rfl⟩
 ·exact absurd z q
 ·exact⟨z,rfl,by have:=nm.2.1;omega,λb Z=>⟨λ_=>h,λe=>absurd (Z.mpr nm) (by rw[e];decide)⟩⟩
 exact⟨_,rfl,by have:=d7 hi;omega,λb Z=>⟨λe=>absurd (Z.mp e) (Ny hi).1,λ_=>⟨i,rfl,hi,trivial,trivial,h⟩⟩⟩
def strE{a b:Str}(h:a.cps.toList=b.cps.toList):a=b:=by
 cases a
 cases b
 congr 1
 exact Array.toList_inj.mp h
def sC(a b:Str):(a++b).cps.toList=a.cps.toList++b.cps.toList:=by
 show(a.cps++b.cps).toList=_;simp
def s0:("" : Str).cps.toList=[]:=by decide +kernel
def sR(a:Str):a++("" : Str)=a:=strE (by rw[sC,s0,List.append_nil])
def sLn(a b:Str):(a++b).length=a.length+b.length:=by
 show(a.cps++b.cps).size=_;simp;rfl
def lp:Str:="("
def rp:Str:=")"
def sp:Str:=" "
def sep(p:Option Str)(w:Str):Str:=match p with
 |none=>""
 |some q=>if q≠lp/\w≠rp then sp else ""
def z4r(a:Str×Option Str)(w:Str):Str×Option Str:=(a.1++sep a.2 w++w,some w)
def runL(a:Str×Option Str)(j:List Str):Str×Option Str:=j.foldl z4r a
def t8(j:List Str):Str:=(runL ("",none) j).1
def N7(a:Str×Option Str)(xs ys:List Str):runL a (xs++ys)=runL (runL a xs) ys:=by
 unfold runL;rw[List.foldl_append]
def Good(c:List Str):Prop:=∃w ws,c=w::ws/\w≠rp/\(w::ws).getLast (by simp)≠lp
def Jo:lp≠rp:=by decide +kernel
def Tp(j:List Str):Good ([lp]++j++[rp]):=⟨lp,j++[rp],rfl,Jo,by
 rw[List.getLast_cons (by simp),List.getLast_append_of_ne_nil _ (by simp)]
 exact Jo.symm⟩
def Ue(w:Str):Prop:=w≠lp/\w≠rp/\w.length<=70
def f7{w:Str}(h:Ue w):Good [w]:=⟨w,[],rfl,h.2.1,h.1⟩
def wsum(j:List Str):Nat:=(j.map λw=>w.length+1).sum
def wu(a b:List Str):wsum (a++b)=wsum a+wsum b:=by
 unfold wsum;simp
theorem N6:∀(ws:List Str)(a:Str)(p:Option Str),(runL (a,p) ws).1.length<=a.length+wsum ws
 |[],a,p=>zaj _
 |w::ws,a,p=>by
  have:=N6 ws (a++sep p w++w) (some w);have e:wsum (w::ws)=w.length+1+wsum ws:=by unfold wsum;simp
  have l:(sep p w).length<=1:=by
   cases p with
   |none=>exact(by decide +kernel:("" : Str).length<=1)
   |some q =>
    show(if q≠lp/\w≠rp then sp else "").length<=1
    split
    ·exact(by decide +kernel:sp.length<=1)
    exact(by decide +kernel:("" : Str).length<=1)
  rw[sLn,sLn]at this;show(runL (a++sep p w++w,some w) ws).1.length<=_;omega
def Rt(ws:List Str):(t8 ws).length<=wsum ws:=by
 have:=N6 ws "" none;have e:("" : Str).length=0:=by decide +kernel
 unfold t8;omega
def W3(cs:List (List Str)):wsum cs.flatten=(cs.map wsum).sum:=by
 induction cs with
 |nil=>rfl
 |cons c cs ih=>rw[List.flatten_cons,wu,ih];simp
def Jk{i:Int}(h:i.natAbs<10 ^ 60):Ue (numS i):=by
 have no:∀c,c=40\/c=41->numS i≠⟨#[c]⟩:=λc j e=>by
  have:c∈Vv i:=by
   show c∈(numS i).cps.toList;rw[e];simp
  have:=Sa this;omega
 have:=d7 h;exact⟨no 40 (.inl rfl),no 41 (.inr rfl),by omega⟩
def d8{z:Str}(h:IsNm z):Ue z:=by
 have no:∀c,c=40\/c=41->z≠⟨#[c]⟩:=λc j e=>by
  have:=h.2.2.2.2 c (by rw[e];exact List.mem_singleton.mpr rfl)
  rcases j with rfl|rfl <;> exact absurd this (by decide +kernel)
 exact⟨no 40 (.inl rfl),no 41 (.inr rfl),by have:=h.2.1;omega⟩
def ExB(e:D)(c:List Str):Prop :=
 (∃i:Int,i.natAbs<10 ^ 60/\e=.tup [.str "num",.int i]/\c=[numS i])\/(∃z,IsNm z/\e=.tup [.str "var",.str z]/\c=[z])\/(e=.tup [.str "nil"]/\c=[("nil" : Str)])\/(e=.tup [.str "leaf"]/\c=[("leaf" : Str)])
def W1(R:D->List Str->Prop)(es:List D)(cs:List (List Str)):Prop:=es.length=cs.length/\∀(i:Nat) e c,es[i]?=some e->cs[i]?=some c->R e c
def ops:List Str:=["add","sub","cons","node"]
def ar(o:Str):Nat:=if o = "node" then 3 else 2
def Ex1:Nat->D->List Str->Prop
 |0,_,_=>False
 |n+1,e,c=>ExB e c\/(∃f es cs,IsNm f/\W1 (Ex1 n) es cs/\es.length<=4/\e=.tup [.str "call",.str f,.tup es]/\c=[lp,"call",f]++cs.flatten++[rp]) \/
  (∃o es cs,o∈ops/\W1 (Ex1 n) es cs/\(es.length<=4/\es.length=ar o)/\e=.tup (.str o::es)/\c=[lp,o]++cs.flatten++[rp])
def LE:Nat->Nat
 |0=>0
 |n+1=>100+4*LE n
def wz{w:Str}(h:w∈(["nil","leaf","call","add","sub","cons","node","give","let","less","list","tree","fn","num"]:List Str)):Ue w:=by
 have:∀w∈(["nil","leaf","call","add","sub","cons","node","give","let","less","list","tree","fn","num"]:List Str),w≠lp/\w≠rp/\w.length<=70:=by decide +kernel
 exact this w h
def Fc{l:List Nat}{b:Nat}(h:∀ x∈l,x<=b):l.sum<=l.length*b:=by
 induction l with
 |nil=>simp
 |cons x l ih =>
  have h1:=h x zao;have h2:=ih λy j=>h y (zal _ j);rw[List.sum_cons,zLc,Nat.add_mul];omega
def xb(w:Str)(ws:List Str):wsum (w::ws)=w.length+1+wsum ws:=by unfold wsum;simp
def W1.mem{R:D->List Str->Prop}{es:List D}{cs:List (List Str)}(h:W1 R es cs){c:List Str}(q:c∈cs):∃e∈es,R e c:=by
 obtain⟨i,hi⟩:=List.getElem?_of_mem q;have hl:=(zag.mp hi).1;have j:es[i]?=some (es[i]'(by rw[h.1];exact hl)):=by simp
 exact⟨_,zan j,h.2 i _ c j hi⟩
def W1.mem'{R:D->List Str->Prop}{es:List D}{cs:List (List Str)}(h:W1 R es cs){e:D}(q:e∈es):∃c∈cs,R e c:=by
 obtain⟨i,hi⟩:=List.getElem?_of_mem q;have hl:=(zag.mp hi).1;have j:cs[i]?=some (cs[i]'(by rw[<- h.1];exact hl)):=by simp
 exact⟨_,zan j,h.2 i e _ hi j⟩
def t3:True∧True∧True:=⟨trivial,trivial,trivial⟩
def Vn{e:D}{c:List Str}(h:ExB e c):Good c/\wsum c<=100/\re e:=by
 rcases h with⟨i,hi,rfl,rfl⟩|⟨z,hz,rfl,rfl⟩|⟨rfl,rfl⟩|⟨rfl,rfl⟩
 ·have g:=Jk hi;refine⟨f7 g,?_,t3⟩;have:=g.2.2;unfold wsum;simp;omega
 ·have hz:=d8 hz;refine⟨f7 hz,?_,t3⟩;have:=hz.2.2;unfold wsum;simp;omega
 ·exact⟨f7 (wz (by simp)),by decide +kernel,⟨trivial,trivial⟩⟩
 exact⟨f7 (wz (by simp)),by decide +kernel,⟨trivial,trivial⟩⟩
def Jg{o:Str}(h:o∈ops):Ue o:=wz (by
 unfold ops at h;simp only[zam,List.not_mem_nil,or_false]at h ⊢;rcases h with h|h|h|h <;> simp[h])
def Tr{n:Nat}{es:List D}{cs:List (List Str)}(h:W1 (Ex1 n) es cs)(hl:es.length<=4)(j:∀ e c,Ex1 n e c->Good c/\wsum c<=LE n/\re e):wsum cs.flatten<=4*LE n:=by
 rw[W3];have:=Fc (l:=cs.map wsum) (b:=LE n) λx q=>by
  obtain⟨c,Z,rfl⟩:=zah.mp q;obtain⟨e,_,I⟩:=h.mem Z;exact(j e c I).2.1
 rw[zLm,<- h.1]at this;exact zak this (Nat.mul_le_mul_right _ hl)
def Zt:lp.length=1:=by decide +kernel
def Zl:rp.length=1:=by decide +kernel
theorem xy:∀(n:Nat)(e:D)(c:List Str),Ex1 n e c->Good c/\wsum c<=LE n/\re e
 |0,_,_,h=>h.elim
 |n+1,e,c,h=>by
  rcases h with h|⟨f,es,cs,q,hp,hl,rfl,rfl⟩|⟨o,es,cs,ho,hp,⟨hl,_⟩,rfl,rfl⟩
  ·obtain⟨a,b,c⟩:=Vn h;exact⟨a,by show _<=100+4*LE n;omega,c⟩
  ·have q:=d8 q;have fl:=Tr hp hl (xy n);refine⟨Tp ([("call" : Str),f]++cs.flatten),?_,trivial,trivial,yu.mpr λd I=>?_,trivial⟩
   ·show wsum ([lp,"call",f]++cs.flatten++[rp])<=100+4*LE n;have h1:=q.2.2;have h2:("call" : Str).length=4:=by decide +kernel
    rw[wu,wu,xb,xb,xb,Zt,h2];have h3:wsum [rp]=2:=by rw[xb,Zl];rfl
    have h4:wsum []=0:=rfl;omega
   obtain⟨Z,_,j⟩:=hp.mem' I;exact(xy n d Z j).2.2
  have fl:=Tr hp hl (xy n);have og:=Jg ho;refine⟨Tp ([o]++cs.flatten),?_,trivial,yu.mpr λd I=>?_⟩
  ·show wsum ([lp,o]++cs.flatten++[rp])<=100+4*LE n;have h1:=og.2.2;rw[wu,wu,xb,xb,Zt];have h3:wsum [rp]=2:=by rw[xb,Zl];rfl
   have h4:wsum []=0:=rfl;omega
  obtain⟨Z,_,j⟩:=hp.mem' I;exact(xy n d Z j).2.2
def M8{i:Int}(h:i.natAbs<10 ^ 60):i.natAbs.log2<1920:=by
 by_cases z:i.natAbs=0
 ·rw[z];decide
 exact(Nat.log2_lt z).mpr (Nat.lt_trans h (by decide +kernel))
def B5:∀{n:Nat},n<=4->LE n<=8500
 |0,_=>by decide
 |1,_=>by decide
 |2,_=>by decide
 |3,_=>by decide
 |4,_=>by decide
 |n+5,h=>by omega
theorem Mz:∀{n:Nat}{e:D}{c:List Str},Ex1 n e c->Ex1 (n+1) e c
 |0,_,_,h=>h.elim
 |n+1,e,c,h=>by
  rcases h with h|⟨f,es,cs,hf,hp,hl,he,hc⟩|⟨o,es,cs,ho,hp,hl,he,hc⟩
  ·exact .inl h
  ·exact .inr (.inl ⟨f,es,cs,hf,⟨hp.1,λi e c a b=>Mz (hp.2 i e c a b)⟩,hl,he,hc⟩)
  exact .inr (.inr ⟨o,es,cs,ho,⟨hp.1,λi e c a b=>Mz (hp.2 i e c a b)⟩,hl,he,hc⟩)
def bk(j:List Str)(cs:List (List Str)):List Str:=[lp]++j++cs.flatten++[rp]
def brW(zs:List Str):List Str:=[lp]++zs++[rp]
def Bo:Nat->D->List Str->Prop
 |0,_,_=>False
 |n+1,b,c =>
  (∃e k,Ex1 4 e k/\b=.tup [.str "give",e]/\c=bk ["give"] [k]) \/
  (∃z e k b1 c1,IsNm z/\Ex1 4 e k/\Bo n b1 c1/\b=.tup [.str "let",.str z,e,b1]/\c=bk ["let",z] [k,c1]) \/
  (∃e1 k1 e2 k2 b1 c1 b2 c2,Ex1 4 e1 k1/\Ex1 4 e2 k2/\Bo n b1 c1/\Bo n b2 c2/\b=.tup [.str "less",e1,e2,b1,b2]/\c=bk ["less"] [k1,k2,c1,c2]) \/
  (∃(o z:Str)(b1:D)(c1 zs:List Str)(b2:D)(c2:List Str),(o = "list"\/o = "tree")/\IsNm z/\Bo n b1 c1/\(∀w∈zs,IsNm w)/\zs≠[]/\(zs.length<=3/\zs.length=if o = "tree" then 3 else 2)/\Bo n b2 c2/\b=.tup ([.str o,.str z,b1]++zs.map D.str++[b2])/\c=bk [o,z] [c1,brW zs,c2])
def LB:Nat->Nat
 |0=>0
 |n+1=>18000+2*LB n
def LE4:LE 4=8500:=rfl
def Y4(j:List Str)(cs:List (List Str)):wsum (bk j cs)=4+wsum j+(cs.map wsum).sum:=by
 unfold bk;rw[wu,wu,wu,W3];have I:wsum [rp]=2:=by rw[xb,Zl];rfl
 have q:wsum [lp]=2:=by rw[xb,Zt];rfl
 omega
def Zw{w:Str}(h:Ue w):wsum [w]<=71:=by
 rw[xb];have:=h.2.2;show _+0<=_;omega
def Sq(w v:Str):wsum [w,v]=wsum [w]+wsum [v]:=wu [w] [v]
def K7{zs:List Str}(h:∀ w∈zs,Ue w):wsum zs<=zs.length*71:=by
 unfold wsum;have:=Fc (l:=zs.map λw=>w.length+1) (b:=71) λx j=>by
  obtain⟨w,q,rfl⟩:=zah.mp j;have:=(h w q).2.2;omega
 rwa [zLm]at this
def K6(zs:List Str):wsum (brW zs)=4+wsum zs:=by
 unfold brW;rw[wu,wu];have q:wsum [rp]=2:=by rw[xb,Zl];rfl
 have j:wsum [lp]=2:=by rw[xb,Zt];rfl
 omega
def Xb(j:List Str)(cs:List (List Str)):Good (bk j cs):=by
 have:=Tp (j++cs.flatten);unfold bk
 rwa [<- List.append_assoc]at this
def Mh{o:Str}(h:o = "list"\/o = "tree"):Ue o:=by
 rcases h with rfl|rfl
 ·exact wz (by simp)
 exact wz (by simp)
theorem wv:∀(n:Nat)(b:D)(c:List Str),Bo n b c->Good c/\wsum c<=LB n/\re b
 |0,_,_,h=>h.elim
 |n+1,b,c,h=>by
  have k1:wsum [("give" : Str)]<=71:=Zw (wz (by simp))
  have k2:wsum [("let" : Str)]<=71:=Zw (wz (by simp))
  have k3:wsum [("less" : Str)]<=71:=Zw (wz (by simp))
  rcases h with⟨e,k,he,rfl,rfl⟩|⟨z,e,k,b1,j,hz,he,hb,rfl,rfl⟩|⟨e1,a6,e2,a5,b1,j,b2,c2,a9,a8,I,q,rfl,rfl⟩|⟨o,z,b1,j,zs,b2,c2,ho,hz,I,a7,hn,⟨hl,_⟩,q,rfl,rfl⟩
  ·obtain⟨a,b,c⟩:=xy 4 e k he;refine⟨Xb _ _,?_,trivial,c,trivial⟩;rw[Y4];show _+(wsum k+0)<=18000+2*LB n;rw[LE4]at b;omega
  ·obtain⟨a,b,c⟩:=xy 4 e k he;obtain⟨a',b',c'⟩:=wv n b1 j hb;refine⟨Xb _ _,?_,trivial,trivial,c,c',trivial⟩;have:=Zw (d8 hz);rw[Y4,Sq];show _+(wsum k+(wsum j+0))<=18000+2*LB n;rw[LE4]at b;omega
  ·obtain⟨a1,c3,b3⟩:=xy 4 e1 _ a9;obtain⟨a2,c0,b0⟩:=xy 4 e2 _ a8;obtain⟨a3,b9,a0⟩:=wv n b1 j I;obtain⟨a4,b4,Z⟩:=wv n b2 c2 q;refine⟨Xb _ _,?_,trivial,b3,b0,a0,Z,trivial⟩;rw[Y4];show _+(wsum a6+(wsum a5+(wsum j+(wsum c2+0))))<=18000+2*LB n;rw[LE4]at c3 c0;omega
  obtain⟨a3,b9,a0⟩:=wv n b1 j I;obtain⟨a4,b4,Z⟩:=wv n b2 c2 q;refine⟨Xb _ _,?_,yu.mpr ?_⟩
  ·have h1:=Zw (d8 hz);have h2:=Zw (Mh ho);have h3:=K7 λw hw=>d8 (a7 w hw);rw[Y4,Sq];show _+(wsum j+(wsum (brW zs)+(wsum c2+0)))<=18000+2*LB n;rw[K6];omega
  intro d hd;simp only[List.cons_append,List.nil_append,zam,zas,List.not_mem_nil,or_false]at hd;rcases hd with rfl|rfl|rfl|hd|rfl
  ·trivial
  ·trivial
  ·exact a0
  ·obtain⟨t,_,rfl⟩:=zah.mp hd;trivial
  exact Z
def T9:∀{n:Nat},n<=5->LB n<=600000
 |0,_=>by decide
 |1,_=>by decide
 |2,_=>by decide
 |3,_=>by decide
 |4,_=>by decide
 |5,_=>by decide
 |n+6,h=>by omega
def prW(p:Str×Str):List Str:=brW [p.1,p.2]
def gq{α j:Type}{l:List α}{i:Nat}{d:α}(f:α->j)(h:l[i]?=some d):(l.take (i+1)).map f=(l.take i).map f++[f d]:=by
 rw[List.take_succ,h];simp
def xm(ns:List Int)(k:Nat):Int:=match ns[k]? with
 |some n=>n.fmod (10 ^ 62)
 |none=>0
def fi:FT:=ZZ.g2 λd e U=>∃(ns:List Int)(k:Nat),d=.scr ns/\e=.int k/\U (dv (.int (xm ns k)))
def mkS(w:List Nat):Str:=⟨w.toArray⟩
def Fx{a b:List Nat}(h:mkS a=mkS b):a=b:=by
 have:=congrArg (λz:Str=>z.cps.toList) h;exact this
def jo(w:List Nat):(mkS w).length=w.length:=rfl
def T5(w:List Nat)(c:Nat):mkS w++(⟨#[c]⟩:Str)=mkS (w++[c]):=by
 have:(mkS w++(⟨#[c]⟩:Str)).cps=(mkS (w++[c])).cps:=by
  apply Array.toList_inj.mp;show(w.toArray++#[c]).toList=w++[c];simp
 exact congrArg Str.mk this
def st(x:Int):Int:=1+2*x.fmod 6
def bs(c:Int)(n:Nat):Int:=if (c.fdiv 1664).fmod 2=1 then((c.fdiv 3328).fdiv ((n:Int)+1)+(n:Int)*n).fmod 26 else(c.fdiv 64).fmod 26
def lt(c k:Int)(n:Nat):Int:=if (n:Int)=(c.fdiv 8).fmod (1+c.fmod 8) then(bs c n+k*st (c.fdiv 3328)).fmod 26 else bs c n
def ltr(c k:Int)(n:Nat):Nat:=97+(lt c k n).toNat
def wd0(c k:Int):List Nat:=(List.range (1+c.fmod 8).toNat).map (ltr c k)
def ws26:List Str:=["num","list","tree","give","let","less","call","cons","node","add","sub","fn","var","make","sum","open","hold","leafs","nila","price","room","run","ways","find","ahead","cut"]
def ws13:List Str:=["num","list","tree","give","let","less","call","cons","node","add","sub","fn","var"]
def ws11:List Str:=["make","sum","open","hold","leafs","nila","price","room","run","ways","find"]
def ws2:List Str:=["ahead","cut"]
def nm(c k:Int):Str:=if (c.fdiv 5).fmod 8=3 then ws26.getD ((k*st (c.fdiv 40)+c.fdiv 240).fmod 26).toNat "" else if mkS (wd0 c k) = "nil"\/mkS (wd0 c k) = "leaf" then mkS (wd0 c k)++("x" : Str) else mkS (wd0 c k)
def bw:FT:=ZZ.g2 λa b U=>∃(c:Int)(k:Nat),a=.int c/\b=.int k/\k<=100/\U (dv (.str (nm c k)))
def Rl(x:Int):atI [D.int 1,D.int 3,D.int 5,D.int 7,D.int 9,D.int 11] (x.fmod 6)=some (.int (st x)):=by
 have m:=yt x 6 (by decide)
 unfold st;have h:x.fmod 6=0\/x.fmod 6=1\/x.fmod 6=2\/x.fmod 6=3\/x.fmod 6=4\/x.fmod 6=5:=by omega
 rcases h with h|h|h|h|h|h <;> rw[h] <;> rfl
def z0g(x:Int):0<=st x/\st x<=11:=by
 have m:=yt x 6 (by decide)
 unfold st;omega
def C5(x:Int):atI (ws26.map D.str) (x.fmod 26)=some (.str (ws26.getD (x.fmod 26).toNat "")):=by
 have m:=yt x 26 (by decide)
 have hl:(x.fmod 26).toNat<ws26.length:=by show _<26;omega
 refine U8 m.1 ?_;rw[zai,zaf hl,zaq,zaf hl];rfl
def abc:Str:="abcdefghijklmnopqrstuvwxyz"
def Ah:∀i:Fin 26,abc.cps.toList[i.val]?=some (97+i.val):=by decide +kernel
def Hb{Q:Nat->Prop}(x:Int)(h:Q (97+(x.fmod 26).toNat)):match atI ("abcdefghijklmnopqrstuvwxyz" : Str).cps.toList (x.fmod 26) with
  |some c=>Q c
  |none=>False:=by
 have m:=yt x 26 (by decide)
 have e:=U8 m.1 (Ah ⟨(x.fmod 26).toNat,by omega⟩)
 unfold abc at e;rw[e];exact h
def z6a(c:Int)(n:Nat):0<=bs c n/\bs c n<26:=by
 unfold bs;split
 ·exact yt _ 26 (by decide)
 exact yt _ 26 (by decide)
def B0(c k:Int)(n:Nat):0<=lt c k n/\lt c k n<26:=by
 unfold lt;split
 ·exact yt _ 26 (by decide)
 exact z6a c n
def fm26{a b:Int}(h:a.fmod 26=b.fmod 26):∃q,a-b=26*q:=by
 have h1:=Int.fmod_def a 26;have h2:=Int.fmod_def b 26;exact⟨a.fdiv 26-b.fdiv 26,by omega⟩
def Sy{s b:Int}{k k':Nat}(Z:∃ x,s=st x)(hk:k<=25)(a0:k'<=25)(h:(b+(k:Int)*s).fmod 26=(b+(k':Int)*s).fmod 26):k=k':=by
 obtain⟨x,rfl⟩:=Z;obtain⟨q,j⟩:=fm26 h;have m:=yt x 6 (by decide)
 unfold st at j;have I:x.fmod 6=0\/x.fmod 6=1\/x.fmod 6=2\/x.fmod 6=3\/x.fmod 6=4\/x.fmod 6=5:=by omega
 rcases I with h|h|h|h|h|h <;> rw[h]at j <;> omega
def z4h:ws26.Nodup:=by decide +kernel
def Hq{l:List Str}(q:l.Nodup){i j:Nat}(hi:i<l.length)(I:j<l.length)(h:l.getD i "" = l.getD j ""):i=j:=by
 rw[zaq,zaq,zaf hi,zaf I]at h;exact(List.getElem_inj q).mp h
def Y6(c k:Int):(wd0 c k).length=(1+c.fmod 8).toNat:=by
 unfold wd0;rw[zLm,List.length_range]
def O4{c:Int}{k k':Nat}(Z:k<=25)(q:k'<=25)(h:wd0 c k=wd0 c k'):k=k':=by
 have mb:=yt c 8 (by decide)
 have j:=yt (c.fdiv 8) (1+c.fmod 8) (by omega)
 have e:=congrArg (λl=>l[((c.fdiv 8).fmod (1+c.fmod 8)).toNat]?) h;have hl:((c.fdiv 8).fmod (1+c.fmod 8)).toNat<(1+c.fmod 8).toNat:=by omega
 unfold wd0 at e;simp only[zai,List.getElem?_range hl,Option.map_some]at e;have e1:=Option.some.inj e;have p:((((c.fdiv 8).fmod (1+c.fmod 8)).toNat:Nat):Int)=(c.fdiv 8).fmod (1+c.fmod 8):=Int.toNat_of_nonneg j.1;have b1:=B0 c k ((c.fdiv 8).fmod (1+c.fmod 8)).toNat;have b2:=B0 c k' ((c.fdiv 8).fmod (1+c.fmod 8)).toNat;unfold ltr at e1;have I:lt c k ((c.fdiv 8).fmod (1+c.fmod 8)).toNat=lt c k' ((c.fdiv 8).fmod (1+c.fmod 8)).toNat:=by omega
 unfold lt at I;rw[if_pos p,if_pos p]at I;exact Sy ⟨_,rfl⟩ Z q I
def Ew:("x" : Str).length=1:=by decide +kernel
def Fv{c:Int}{k k':Nat}(q:k<=25)(j:k'<=25)(h:nm c k=nm c k'):k=k':=by
 unfold nm at h;by_cases hc:(c.fdiv 5).fmod 8=3
 ·rw[if_pos hc,if_pos hc]at h;have Z:=yt ((k:Int)*st (c.fdiv 40)+c.fdiv 240) 26 (by decide)
  have I:=yt ((k':Int)*st (c.fdiv 40)+c.fdiv 240) 26 (by decide)
  have e:=Hq z4h (by show _<26;omega) (by show _<26;omega) h
  refine Sy (s:=st (c.fdiv 40)) (b:=c.fdiv 240) ⟨_,rfl⟩ q j ?_;rw[Int.add_comm,Int.add_comm (c.fdiv 240)];omega
 rw[if_neg hc,if_neg hc]at h;have l1:=Y6 c k;have l2:=Y6 c k';by_cases h1:mkS (wd0 c k) = "nil"\/mkS (wd0 c k) = "leaf" <;> by_cases h2:mkS (wd0 c k') = "nil"\/mkS (wd0 c k') = "leaf"
 ·rw[if_pos h1,if_pos h2]at h;have ex:("x" : Str)=⟨#[120]⟩:=by decide +kernel
  rw[ex,T5,T5]at h;exact O4 q j (List.append_cancel_right (Fx h))
 ·rw[if_pos h1,if_neg h2]at h;have:=congrArg Str.length h;rw[Str.length_append,jo,jo,Ew]at this;omega
 ·rw[if_neg h1,if_pos h2]at h;have:=congrArg Str.length h;rw[Str.length_append,jo,jo,Ew]at this;omega
 rw[if_neg h1,if_neg h2]at h;exact O4 q j (Fx h)
def z0k:∀i:Fin 26,rj (97+i.val)=true:=by decide +kernel
def z4g:∀w∈ws26,1<=w.length/\w.length<=8/\w≠"nil"/\w≠"leaf"/\∀c∈w.cps.toList,rj c=true:=by decide +kernel
def wk(c:Int)(k:Nat):IsNm (nm c k):=by
 unfold nm;by_cases hc:(c.fdiv 5).fmod 8=3
 ·rw[if_pos hc];have I:=yt ((k:Int)*st (c.fdiv 40)+c.fdiv 240) 26 (by decide)
  have hl:(((k:Int)*st (c.fdiv 40)+c.fdiv 240).fmod 26).toNat<ws26.length:=by show _<26;omega
  rw[zaq,zaf hl];exact z4g _ (List.getElem_mem hl)
 rw[if_neg hc];have q:=yt c 8 (by decide)
 have l1:=Y6 c k;have sg:∀x∈wd0 c k,rj x=true:=λx j=>by
  obtain⟨n,_,rfl⟩:=zah.mp j;have b:=B0 c k n;exact z0k ⟨(lt c k n).toNat,by omega⟩
 by_cases h1:mkS (wd0 c k) = "nil"\/mkS (wd0 c k) = "leaf"
 ·rw[if_pos h1];rcases h1 with h1|h1 <;> rw[h1]
  ·have:IsNm (("nil" : Str)++("x" : Str)):=by
    unfold IsNm
    decide +kernel
   exact this
  have:IsNm (("leaf" : Str)++("x" : Str)):=by
   unfold IsNm
   decide +kernel
  exact this
 rw[if_neg h1];refine⟨by rw[jo];omega,by rw[jo];omega,λe=>h1 (.inl e),λe=>h1 (.inr e),sg⟩
def Dq{tc:TDb}{q j:TDS}{L:DE}{Z:DZ}(b:Bool)(h:∀ N:Bool->Prop,N b->tc L N)(h1:b=true->q L Z)(h2:b=false->j L Z):sIf tc q j L Z:=h _ ⟨h1,h2⟩
def Cr(c:Nat):(⟨#[c]⟩:Str).length=1:=rfl
def Z6(T:Tops mg)(F:Fm K mg "_law_cell_at" 53):FD P w K mg base 1 "_law_cell_at" pN fi:=by
 have S:zt ["_law_script","_law_k"] pN (zh (top 53)):=by walk_at "f"
 walk_at "b";refine⟨_,(zd (yi (cj (za 1) (w5 T.len (z9 (za 0) zb))) (zk (zw (yj (zn hu (za 0) (za 1)) (cm zc zc)))) ya)
   (zk (zw zc))),?_⟩
 obtain⟨d,e,rfl,ns,k,rfl,rfl,h⟩:=Bu hT;unfold xm at h;walk_at "dl";refine⟨λq=>?_,λq=>?_⟩
 ·have j:k<ns.length:=by omega
  rw[U8 (x:=ns[k]) (by omega) (by simp[j])]
  rw[zaf j]at h;exact h
 rw[List.getElem?_eq_none (by omega)]at h
 exact h
def Tz(T:Tops mg)(F:Fm K mg "_law_name" 54):FD P w K mg base 1 "_law_name" pF bw:=by
 have S:zt ["_law_cell","_law_k","_law_some","_law_many","_law_at","_law_word","_law_j","_law_letter"] pF (zh (top 54)):=by walk_at "f"
 walk_at "b";refine⟨_,(zd (zj (yi (xh hu (yj (v5 (za 0) zc) zc) zc) (zd (zj (zm 2 S.nd (zy (z9 zg (z9 zg (z9 zg (z9 zg (z9 zg (z9 zg (z9 zg (z9 zg (z9 zg (z9 zg (z9 zg (z9 zg (z9 zg zb))))))))))))))))
    (zd (zj (zm 2 S.nd (yb (za 2) (zy (z9 zg (z9 zg (z9 zg (z9 zg (z9 zg (z9 zg (z9 zg (z9 zg (z9 zg (z9 zg (z9 zg zb)))))))))))))))
    (zd (zj (zm 2 S.nd (yb (za 2) (zy (z9 zg (z9 zg zb))))))
    (zk (zw (zn hu (za 2) (yj (yb (Zz (za 1) (zn hu (zy (z9 zc (z9 zc (z9 zc (z9 zc (z9 zc (z9 zc zb))))))) (yj (v5 (za 0) zc) zc))) (v5 (za 0) zc)) zc))))))) ya))
   (zd (zj (zm 3 S.nd (yb zc (yj (za 0) zc))))
   (zd (zj (zm 4 S.nd (yj (v5 (za 0) zc) (za 3))))
   (zd (zj (zm 5 S.nd zg))
   (zd (zj (Zj (wt T.range (z9 (za 3) zb)) (zo (i:=6) S.nd rfl (by walk_at "o")) (yk 6) (zd (zm 7 S.nd (yj (v5 (za 0) zc) zc))
    (zd (yi (xh hu (yj (v5 (za 0) zc) zc) zc) (zk (zm 7 S.nd (yj (yb (v5 (v5 (za 0) zc) (yb (za 6) zc)) (Zz (za 6) (za 6))) zc))) ya)
    (zd (yi (xh hu (za 6) (za 4)) (zk (zm 7 S.nd (yj (yb (za 7) (Zz (za 1) (zn hu (zy (z9 zc (z9 zc (z9 zc (z9 zc (z9 zc (z9 zc zb))))))) (yj (v5 (za 0) zc) zc)))) zc))) ya)
    (zk (zm 5 S.nd (yb (za 5) (zn hu zg (za 7))))))))))
   (zd (yi (EW.et (qw (xh hu (za 5) zg) (sw (xh hu (za 5) zg)))) (zk (zm 5 S.nd (yb (za 5) zg))) ya)
   (zk (zw (za 5))))))))),?_⟩
 obtain⟨c0,k0,rfl,i,j,rfl,rfl,j1,h⟩:=Bu hT;have er:=Rl (i.fdiv 40);have ew:=C5 ((j:Int)*st (i.fdiv 40)+i.fdiv 240);have sb:=z0g (i.fdiv 40);have a4:=z0g (i.fdiv 3328);refine ze (λL=>¬ (i.fdiv 5).fmod 8=3/\L=[q_ (.int i),q_ (.int (j:Int)),none,none,none,none,none,none]) ?_ ?_
 ·refine Dq (decide ((i.fdiv 5).fmod 8=3)) (λN Z=>?_) (λq=>?_) (λq=>?_)
  ·walk_at "dl";exact⟨fdl,Z⟩
  ·refine ze (λL=>∃l:List D,l=ws13.map D.str/\L=[q_ (.int i),q_ (.int (j:Int)),Q_ (.lst l),none,none,none,none,none]) ?_ ?_
   ·walk_at "dl";exact⟨_,rfl,rfl⟩
   rintro _ ⟨l1,e1,rfl⟩;have n1:l1.length=13:=by rw[e1];rfl
   refine ze (λL=>∃l:List D,l=l1++ws11.map D.str/\L=[q_ (.int i),q_ (.int (j:Int)),Q_ (.lst l),none,none,none,none,none]) ?_ ?_
   ·walk_at "dl";exact⟨by rw[n1,sizeLine_eq];omega,_,rfl,rfl⟩
   rintro _ ⟨l2,e2,rfl⟩;have n2:l2.length=24:=by rw[e2,zLa,n1];rfl
   refine ze (λL=>∃l:List D,l=l2++ws2.map D.str/\L=[q_ (.int i),q_ (.int (j:Int)),Q_ (.lst l),none,none,none,none,none]) ?_ ?_
   ·walk_at "dl";exact⟨by rw[n2,sizeLine_eq];omega,_,rfl,rfl⟩
   rintro _ ⟨l3,e3,rfl⟩;rw[e2,e1,<- zMa,<- zMa,show ws13++ws11++ws2=ws26 from rfl]at e3;rw[<- e3]at ew;walk_at "dl";rw[er];walk_at "dl";rw[ew];unfold nm at h;rw[if_pos (of_decide_eq_true q)]at h;exact⟨fdl,IntMulOk.of_left (a:=(j:Int)) (Y3 (by omega)),fdl,trivial,h⟩
  walk_at "dl";exact of_decide_eq_false q
 rintro _ ⟨a1,rfl⟩;unfold nm at h;rw[if_neg a1]at h;have mb:=yt i 8 (by decide)
 have a5:=yt (i.fdiv 8) (1+i.fmod 8) (by omega)
 refine z_g [q_ (.int i),q_ (.int (j:Int)),none,q_ (.int (1+i.fmod 8)),none,none,none,none] ?_ ?_
 ·walk_at "dl"
 refine z_g [q_ (.int i),q_ (.int (j:Int)),none,q_ (.int (1+i.fmod 8)),q_ (.int ((i.fdiv 8).fmod (1+i.fmod 8))),none,none,none] ?_ ?_
 ·walk_at "dl";exact⟨fdl,λz=>by omega⟩
 refine z_g [q_ (.int i),q_ (.int (j:Int)),none,q_ (.int (1+i.fmod 8)),q_ (.int ((i.fdiv 8).fmod (1+i.fmod 8))),q_ (.str ""),none,none] ?_ ?_
 ·exact⟨trivial,rfl⟩
 refine ze (λL=>∃(a b:Option EV),L=[q_ (.int i),q_ (.int (j:Int)),none,q_ (.int (1+i.fmod 8)),q_ (.int ((i.fdiv 8).fmod (1+i.fmod 8))),q_ (.str (mkS (wd0 i j))),a,b]) ?_ ?_
 ·refine ko (rngD 0 (1+i.fmod 8).toNat) (λN Z=>?_) (λn L=>∃(a b:Option EV),L=[q_ (.int i),q_ (.int (j:Int)),none,q_ (.int (1+i.fmod 8)),q_ (.int ((i.fdiv 8).fmod (1+i.fmod 8))),q_ (.str (mkS ((List.range n).map (ltr i j)))),a,b]) ?_ ?_ ?_
  ·exact⟨by omega,by omega,Z⟩
  ·exact⟨none,none,rfl⟩
  ·rintro n d L hd ⟨a,b,rfl⟩;have dn:d=.int n:=by
    obtain⟨hn,rfl⟩:=vt hd;simp
   have n8:n<8:=by
    obtain⟨hn,_⟩:=vt hd;omega
   subst dn;have a2:=Rl (i.fdiv 3328);have al:("abcdefghijklmnopqrstuvwxyz" : Str).length<=sizeLine:=by rw[sizeLine_eq];decide +kernel
   have go:∀(u:EV)(c:Nat),c=ltr i j n->(mkS ((List.range n).map (ltr i j))).length+({cps:=#[c]}:Str).length<=sizeLine/\∃(a b:Option EV),[q_ (D.int i),q_ (D.int (j:Int)),none,q_ (D.int (1+i.fmod 8)),q_ (D.int ((i.fdiv 8).fmod (1+i.fmod 8))),q_ (D.str (mkS ((List.range n).map (ltr i j))++({cps:=#[c]}:Str))),q_ (D.int n),some u]=[q_ (D.int i),q_ (D.int (j:Int)),none,q_ (D.int (1+i.fmod 8)),q_ (D.int ((i.fdiv 8).fmod (1+i.fmod 8))),q_ (D.str (mkS ((List.range (n+1)).map (ltr i j)))),a,b]:=λu c hc=>by
    refine⟨by rw[Cr,jo,zLm,List.length_range,sizeLine_eq];omega,q_ (D.int n),some u,?_⟩
    rw[T5,List.range_succ,zMa,hc];rfl
   have mo:IntMulOk (n:Int) n:=IntMulOk.of_left (a:=(n:Int)) (Y3 (by omega))
   have a0:IntMulOk (j:Int) (st (i.fdiv 3328)):=IntMulOk.of_left (a:=(j:Int)) (Y3 (by omega))
   have fo:∀x:Int,FdOk x ((n:Int)+1):=λx=>fdOk (m:=64) (by omega) (Y3 (by omega))
   walk_at "dl";rw[a2];refine⟨fdl,fdl,λq1=>⟨fdl,fo _,mo,λI=>⟨fdl,a0,al,Hb _ (go _ _ ?_)⟩,λI=>⟨al,Hb _ (go _ _ ?_)⟩⟩,λq1=>⟨λI=>⟨fdl,a0,al,Hb _ (go _ _ ?_)⟩,λI=>⟨al,Hb _ (go _ _ ?_)⟩⟩⟩
   ·unfold ltr lt bs;rw[if_pos I,if_pos q1]
   ·unfold ltr lt bs;rw[if_neg I,if_pos q1]
   ·unfold ltr lt bs;rw[if_pos I,if_neg q1]
   unfold ltr lt bs;rw[if_neg I,if_neg q1]
  rintro L ⟨a,b,rfl⟩;rw[xt];exact⟨a,b,rfl⟩
 rintro _ ⟨a,b,rfl⟩;have wl:=Y6 i j;have hz:(mkS (wd0 i j)).length+("x" : Str).length<=sizeLine:=by rw[jo,Ew,sizeLine_eq];omega
 walk_at "dl";refine⟨λq=>⟨hz,?_⟩,λq=>⟨λI=>⟨hz,?_⟩,λI=>?_⟩⟩
 ·rw[if_pos (.inl q)]at h;exact h
 ·rw[if_pos (.inr I)]at h;exact h
 rw[if_neg (λy=>y.elim q I)]at h;exact h
def rowD(r:D×List Str):D:=.tup [r.1,.lst (r.2.map D.str)]
def wds(j:List (D×List Str)):List Str:=(j.map Prod.snd).flatten
def Yc:FT:=g1 λd U=>∃rows:List (D×List Str),d=.lst (rows.map rowD)/\(wds rows).length<=10000000/\U (df (.lst ((wds rows).map D.str)))
structure OkT(rows:List (Str×Str)):Prop where
 nm:∀p∈rows,IsNm p.1/\IsSh p.2
 nd:(rows.map Prod.fst).Nodup
 ln:rows.length<=1000
def Sw:FT:=g3 λth j q U=>∃(rows:List (Str×Str))(s:Str)(i:Int),th=.lst (rows.map prD)/\OkT rows/\j=.str s/\IsSh s/\q=.int i/\∀e c,ExB e c->(∀fs n,Sh1 fs rows (n+1) e (some s))->U ⟨.new,rowD (e,c)⟩
theorem Yl:∀{rows:List (Str×Str)}{z s:Str},(rows.map Prod.fst).Nodup->(z,s)∈rows->v7 rows z=some s
 |[],_,_,_,h=>nomatch h
 |p::r,z,s,hn,h=>by
  rw[List.map_cons,List.nodup_cons]at hn;unfold v7;rcases zam.mp h with e|h
  ·rw[<- e,if_pos rfl]
  rw[if_neg (λe=>hn.1 (by rw[<- e];exact zah.mpr ⟨_,h,rfl⟩))]
  exact Yl hn.2 h
def Fi(fs:List Fn)(env:List (Str×Str))(n:Nat):Sh1 fs env (n+1) (.tup [.str "nil"]) (some "list"):=.inr (.inr (.inr ⟨"nil",[],[],by decide,by decide,by decide,rfl,⟨rfl,λi e c j=>by simp at j⟩,by decide,by decide⟩))
def Oz(fs:List Fn)(env:List (Str×Str))(n:Nat):Sh1 fs env (n+1) (.tup [.str "leaf"]) (some "tree"):=.inr (.inr (.inr ⟨"leaf",[],[],by decide,by decide,by decide,rfl,⟨rfl,λi e c j=>by simp at j⟩,by decide,by decide⟩))
def Ka{j:List (D×List Str)}{i:Nat}{r:D×List Str}(h:j[i]?=some r):wds (j.take (i+1))=wds (j.take i)++r.2:=by
 unfold wds;rw[List.take_succ,h];simp
def K9(j:List (D×List Str))(i:Nat):(wds (j.take i)).length<=(wds j).length:=by
 conv=>rhs;rw[<- List.take_append_drop i j]
 unfold wds;rw[zMa,List.flatten_append,zLa];omega
def xk(j:List Str):vg (j.map D.str):=Sx j
def WdT(j:List (Str×Str))(s:Str)(fs:List D):Prop:=∃zs:List Str,fs=zs.map D.str/\∀z∈zs,IsNm z/\v7 j z=some s
def Gn{j:List (Str×Str)}{s:Str}:WdT j s []:=⟨[],rfl,λ_ h=>(nomatch h)⟩
def Gp{j:List (Str×Str)}{s:Str}{fs:List D}{z:Str}(h:WdT j s fs)(g:IsNm z/\v7 j z=some s):WdT j s (fs++[.str z]):=by
 obtain⟨zs,rfl,a⟩:=h;refine⟨zs++[z],by simp,λw q=>?_⟩
 rcases zas.mp q with q|q
 ·exact a w q
 rw[List.mem_singleton.mp q];exact g
def okW(zs:List Str):okD 40 (D.lst (zs.map D.str)):=by
 rw[su (by decide)]
 intro x j;obtain⟨z,_,rfl⟩:=zah.mp j;rw[xn];trivial
def ok0:okD 40 (D.lst []):=by
 rw[su (by decide)]
 exact λx j=>(nomatch j)
def Ni(x:Int):∃r:Int,(r=1\/r = -1)/\atI [dv (D.int 1),dv (D.int (-1))] (x.fmod 2)=q_ (.int r):=by
 have m:=yt x 2 (by decide)
 rcases(by omega:x.fmod 2=0\/x.fmod 2=1) with e|e
 ·exact⟨1,.inl rfl,by rw[e,jg]⟩
 exact⟨-1,.inr rfl,by rw[e,jf]⟩
def Nh{Q:Str->Prop}{zs:List Str}(h:∀ z∈zs,Q z)(j:zs≠[])(x:Int):∃w,Q w/\atI (zs.map D.str) (x.fmod (zs.length:Int))=some (.str w):=by
 obtain⟨d,q,e⟩:=Lw (l:=zs.map D.str) (by simpa using j) x
 obtain⟨r,hr,rfl⟩:=zah.mp q;rw[zLm]at e;exact⟨r,h r hr,e⟩
def Zd:FT:=g1 λd U=>d=.fd 0/\∀c:Int,U (dv (.int c))
def Tx(T:Tops mg)(F:Fm K mg "_law_next" 55):FD P w K mg base 1 "_law_next" pK Zd:=by
 have S:zt ["_law_feed"] pK (zh (top 55)):=by walk_at "f"
 walk_at "b";refine⟨_,(Ko 0 T.len),?_⟩;obtain⟨d,rfl,rfl,h⟩:=vm hT;walk_at "dl";exact h
def S3(T:Tops mg)(F:Fm K mg "_law_flat" 56):FD P w K mg base 1 "_law_flat" pG Yc:=by
 have S:zt ["_law_made","_law_words","_law_one","_law_more"] pG (zh (top 56)):=by walk_at "f"
 walk_at "b";refine⟨_,(zd (zj (zm 1 S.nd (zy zb)))
   (zd (zj (Zj (yp (za 0)) (xv (K0:=K) (n:=2) (by rfl) (by rfl) (ye (zo (i:=2) S.nd rfl (by walk_at "o")) (ye (zo (i:=3) S.nd rfl (by walk_at "o")) xu))) (w6 2 3) (zk (zm 1 S.nd (yb (za 1) (za 3))))))
   (zk (zw (za 1))))),?_⟩
 obtain⟨d,rfl,j,rfl,hb,h⟩:=vm hT;refine z_g [q_ (.lst (j.map rowD)),Q_ (.lst []),none,none] ?_ ?_
 ·walk_at "dl"
 refine ze (λL=>∃a b,L=[q_ (.lst (j.map rowD)),Q_ (.lst ((wds j).map D.str)),a,b]) ?_ ?_
 ·refine ko (j.map rowD) (λN q=>?_) (λi L=>∃a b,L=[q_ (.lst (j.map rowD)),Q_ (.lst ((wds (j.take i)).map D.str)),a,b]) ⟨none,none,rfl⟩ ?_ ?_
  ·exact⟨trivial,q⟩
  ·rintro i d L Z ⟨a,b,rfl⟩;rw[zai]at Z;obtain⟨r,I,rfl⟩:=zar.mp Z;unfold rowD;walk_at "dl";have e:=Ka I;have l1:=K9 j (i+1);rw[e]at l1 ⊢;rw[zLa]at l1;rw[zMa];exact⟨by rw[xq];omega,_,_,rfl⟩
  rintro L ⟨a,b,rfl⟩;rw[zLm,List.take_length];exact⟨a,b,rfl⟩
 rintro _ ⟨a,b,rfl⟩;exact⟨xk _,h⟩
def Vj(T:Tops mg)(F:Fm K mg "_law_plain" 57):FD P w K mg base 1 "_law_plain" pO Sw:=by
 have S:zt ["_law_there","_law_shape","_law_cell","_law_some","_law_name_here","_law_number","_law_word"] pO (zh (top 57)):=by walk_at "f"
 walk_at "b";refine⟨_,(zd (zj (yn (T:=["_law_name_here","_law_kind"]) (F:=["_law_shape"]) (js:=[1]) 3 S.nd (yp (za 0)) (cs1 (by walk_at "c")) (.cons rfl .nil) (by decide) (by walk_at "t") (u3 (ym yc (xg yc yw) zx (ym yc yw zx u5))) (w6 0 1) (λcl C fp s H=>(ck (xh hu (za 1) (za 2)))) (λcl C fp s H=>(za 0))))
   (zd (yi (EW.et (ci (qx hu (za 3) (zy zb)) (jb (qx hu (yj (za 2) zc) zc)))) (zd (zm 4 S.nd (zn hu (za 3) (yj (v5 (za 2) zc) (w5 T.len (z9 (za 3) zb)))))
    (zk (zw (yf (z9 (yf (z9 zg (z9 (za 4) zb))) (z9 (zy (z9 (za 4) zb)) zb)))))) ya)
   (zd (yi (xh hu (za 1) zg) (zd (zm 5 S.nd (Zz (uf (z9 zc (z9 (Q5 zc) zb)) (yj (v5 (za 2) zc) zc)) (yj (v5 (za 2) zc) (cm zc zc))))
    (zk (zw (yf (z9 (yf (z9 zg (z9 (za 5) zb))) (z9 (zy (z9 (L5 T.str (z9 (za 5) zb)) zb)) zb)))))) ya)
   (zd (zm 6 S.nd (uf (z9 zg (z9 zg zb)) (Xq T.int (z9 (Xr hu (za 1) zg) zb))))
   (zk (zw (yf (z9 (yf (z9 (za 6) zb)) (z9 (zy (z9 (za 6) zb)) zb))))))))),?_⟩
 obtain⟨a0,b0,c0,rfl,j,s,i,rfl,ok,rfl,a2,rfl,h⟩:=z3j hT;have hl1:=ok.ln;refine ze (λL=>∃zs:List Str,(∀z∈zs,IsNm z/\v7 j z=some s)/\L=[q_ (.lst (j.map prD)),q_ (.str s),q_ (.int i),Q_ (.lst (zs.map D.str)),none,none,none]) ?_ ?_
 ·refine y9 (j.map prD) (λN a4=>?_) (λi fs=>WdT j s fs) (by rw[zLm];omega) Gn ?_ ?_
  ·exact⟨trivial,a4⟩
  ·rintro k e fs he a7 wd;rw[zai]at he;obtain⟨p,hp,rfl⟩:=zar.mp he;have gp:=ok.nm p (zan hp);walk_at "p";simp only[prD];walk_at "dl";exact⟨λq=>Gp wd ⟨gp.1,Yl ok.nd (by have:=zan hp;rw[<- q];exact this)⟩,λ_=>wd⟩
  rintro fs ⟨zs,rfl,hz⟩;exact⟨trivial,zs,hz,rfl⟩
 rintro _ ⟨zs,hz,rfl⟩;walk_at "dl";refine⟨okW zs,ok0,λa5=>⟨λ_=>?_,λ_=>?_⟩,λ_=>?_⟩
 ·have a1:zs≠[]:=λz=>by
   subst z;exact absurd a5 (by decide)
  have a6:¬ (zs.length:Int)=0:=λz=>a1 (List.eq_nil_of_length_eq_zero (by omega))
  obtain⟨w,gw,ew⟩:=Nh hz a1 (i.fdiv 3);rw[bj]at ew;rw[ew];exact⟨fdl,a6,trivial,trivial,h _ _ (.inr (.inl ⟨w,gw.1,rfl,rfl⟩)) λfs n=>.inr (.inl ⟨w,rfl,gw.2.symm⟩)⟩
 ·refine⟨λZ=>?_,λZ=>?_⟩
  ·obtain⟨r,I,er⟩:=Ni (i.fdiv 3);have mm:=yt (i.fdiv 6) (10 ^ 60) (by decide)
   have bd:(r*(i.fdiv 6).fmod (10 ^ 60)).natAbs<10 ^ 60:=by
    rcases I with rfl|rfl
    ·omega
    omega
   rw[er];exact⟨fdl,fdl,IntMulOk.of_left (by rcases I with rfl|rfl <;> decide),M8 bd,h _ _ (.inl ⟨_,bd,rfl,rfl⟩) λfs n=>.inl ⟨_,rfl,by rw[Z];rfl⟩⟩
  by_cases ht:s = "tree"
  ·rw[if_pos ht,jf];exact⟨trivial,trivial,rfl,trivial,h _ _ (.inr (.inr (.inr ⟨rfl,rfl⟩))) λfs n=>by rw[ht];exact Oz fs j n⟩
  rw[if_neg ht,jg];exact⟨trivial,trivial,rfl,trivial,h _ _ (.inr (.inr (.inl ⟨rfl,rfl⟩))) λfs n=>by rw[a2.resolve_left Z |>.resolve_right ht];exact Fi fs j n⟩
 refine⟨λZ=>?_,λZ=>?_⟩
 ·obtain⟨r,I,er⟩:=Ni (i.fdiv 3);have mm:=yt (i.fdiv 6) (10 ^ 60) (by decide)
  have bd:(r*(i.fdiv 6).fmod (10 ^ 60)).natAbs<10 ^ 60:=by
   rcases I with rfl|rfl
   ·omega
   omega
  rw[er];exact⟨fdl,fdl,IntMulOk.of_left (by rcases I with rfl|rfl <;> decide),M8 bd,h _ _ (.inl ⟨_,bd,rfl,rfl⟩) λfs n=>.inl ⟨_,rfl,by rw[Z];rfl⟩⟩
 by_cases ht:s = "tree"
 ·rw[if_pos ht,jf];exact⟨trivial,trivial,rfl,trivial,h _ _ (.inr (.inr (.inr ⟨rfl,rfl⟩))) λfs n=>by rw[ht];exact Oz fs j n⟩
 rw[if_neg ht,jg];exact⟨trivial,trivial,rfl,trivial,h _ _ (.inr (.inr (.inl ⟨rfl,rfl⟩))) λfs n=>by rw[a2.resolve_left Z |>.resolve_right ht];exact Fi fs j n⟩
def g5(g:D->D->D->D->D->(EV->Prop)->Prop):FT:=λds U=>∃a b c d e,ds=[a,b,c,d,e]/\g a b c d e U
structure Hd where
 name:Str
 kinds:List Str
 shape:Str
 size:List Int
def hdD(h:Hd):D:=.tup [.str h.name,.lst (h.kinds.map D.str),.str h.shape,.lst (h.size.map D.int)]
structure OkH(h:Hd):Prop where
 name:IsNm h.name
 n0:h.kinds≠[]
 n4:h.kinds.length<=4
 kinds:∀k∈h.kinds,IsSh k
 shape:IsSh h.shape
 gv:ji h.shape h.size h.kinds
 size:∀i∈h.size,i.natAbs<10 ^ 60
structure OkHs(hs:List Hd):Prop where
 ok:∀h∈hs,OkH h
 ln:hs.length<=8
 nd:(hs.map Hd.name).Nodup
def hdFn(h:Hd):Fn:=⟨h.name,h.kinds.map λk=>("",k),h.shape,[],.non⟩
def hfs(j:List Hd):List Fn:=j.map hdFn
def tE:Nat->FT
 |0=>λ_ _=>False
 |n+1=>g5 λI q th j Z U=>I=.fd 0/\∃(hs:List Hd)(rows:List (Str×Str))(s:Str),q=.lst (hs.map hdD)/\OkHs hs/\th=.lst (rows.map prD)/\OkT rows/\j=.str s/\IsSh s/\Z=.int n/\n<=3/\∀e c,Ex1 (n+1) e c->Sh1 (hfs hs) rows (n+1) e (some s)->U ⟨.new,rowD (e,c)⟩
def Hds(all:List Hd)(s:Str)(fs:List D):Prop:=∃hs:List Hd,fs=hs.map hdD/\∀h∈hs,h∈all/\h.shape=s
def Bj{all:List Hd}{s:Str}:Hds all s []:=⟨[],rfl,λ_ h=>(nomatch h)⟩
def Bk{all:List Hd}{s:Str}{fs:List D}{z:Hd}(h:Hds all s fs)(g:z∈all/\z.shape=s):Hds all s (fs++[hdD z]):=by
 obtain⟨zs,rfl,a⟩:=h;refine⟨zs++[z],by simp,λw j=>?_⟩
 rcases zas.mp j with j|j
 ·exact a w j
 rw[List.mem_singleton.mp j];exact g
structure Uc(fs:List Fn)(env:List (Str×Str))(n:Nat)(ks:List Str)(i:Nat)(ds:List D)(rs:List (D×List Str)):Prop where
 eq:ds=rs.map rowD
 ln:rs.length=i
 ok:∀(j:Nat)(r:D×List Str)(k:Str),rs[j]?=some r->ks[j]?=some k->Ex1 n r.1 r.2/\Sh1 fs env n r.1 (some k)
def Wg{fs:List Fn}{env:List (Str×Str)}{n:Nat}{ks:List Str}{i:Nat}{ds:List D}{rs:List (D×List Str)}{e:D}{c:List Str}{k:Str}(h:Uc fs env n ks i ds rs)(hk:ks[i]?=some k)(g:Ex1 n e c)(g21:Sh1 fs env n e (some k)):Uc fs env n ks (i+1) (ds++[rowD (e,c)]) (rs++[(e,c)]):=by
 refine⟨by rw[h.eq];simp,by simp[h.ln],λj r Z hr q=>?_⟩
 rcases Nat.lt_or_ge j rs.length with hj|hj
 ·rw[List.getElem?_append_left hj]at hr;exact h.ok j r Z hr q
 rw[List.getElem?_append_right hj]at hr;have I:j-rs.length=0:=by
  rcases Nat.eq_zero_or_pos (j-rs.length) with z|z
  ·exact z
  rw[List.getElem?_eq_none (by rw[List.length_singleton];exact z)]at hr;cases hr
 rw[I]at hr;cases hr;have:j=i:=by have:=h.ln;omega
 subst this;rw[hk]at q;cases q;exact⟨g,g21⟩
def Uc.all{fs:List Fn}{env:List (Str×Str)}{n:Nat}{ks:List Str}{ds:List D}{rs:List (D×List Str)}(h:Uc fs env n ks ks.length ds rs):(∀r∈rs,Ex1 n r.1 r.2)/\w8 (Sh1 fs env n) (rs.map Prod.fst) (ks.map some):=by
 refine⟨λr hr=>?_,by rw[zLm,zLm,h.ln],λi e c I Z=>?_⟩
 ·obtain⟨j,q⟩:=List.getElem?_of_mem hr;have hl:=(zag.mp q).1;exact(h.ok j r _ q (zaf (by rw[<- h.ln];exact hl))).1
 rw[zai]at I Z;obtain⟨r,hr,rfl⟩:=zar.mp I;obtain⟨k,hk,rfl⟩:=zar.mp Z;exact(h.ok i r k hr hk).2
theorem Ed:∀{hs:List Hd}{h:Hd},(hs.map Hd.name).Nodup->h∈hs->fnL (hfs hs) h.name=some (hdFn h)
 |[],_,_,h=>nomatch h
 |a::r,h,hn,hm=>by
  rw[List.map_cons,List.nodup_cons]at hn;show(if h.name=a.name then some (hdFn a) else fnL (hfs r) h.name)=_
  rcases zam.mp hm with e|hm
  ·rw[e,if_pos rfl]
  rw[if_neg (λe=>hn.1 (by rw[<- e];exact zah.mpr ⟨_,hm,rfl⟩))]
  exact Ed hn.2 hm
def Dk{j:List Hd}{h:Hd}{env:List (Str×Str)}{n:Nat}{es:List D}{s:Str}(ok:OkHs j)(Z:h∈j)(q:h.shape=s)(I:w8 (Sh1 (hfs j) env n) es (h.kinds.map some))(hl:es.length<=100):Sh1 (hfs j) env (n+1) (.tup [.str "call",.str h.name,.tup es]) (some s):=.inr (.inr (.inl ⟨h.name,es,_,rfl,I,hl,by
 unfold b8;rw[Ed ok.nd Z];show _=ifS _ ((h.kinds.map λk=>(("" : Str),k)).map Prod.snd) h.shape;rw[List.map_map,show(Prod.snd ∘ λk:Str=>(("" : Str),k))=id from rfl,List.map_id];unfold ifS;rw[if_pos rfl,q]⟩))
def Opk(s o:Str)(ks:List Str):Prop:=(s = "list"/\o = "cons"/\ks=[("num" : Str),"list"])\/(s = "tree"/\o = "node"/\ks=[("tree" : Str),"num","tree"])\/(s≠"list"/\s≠"tree"/\(o = "add"\/o = "sub")/\ks=[("num" : Str),"num"])
def Wm{s o:Str}{ks:List Str}(h:Opk s o ks)(I:IsSh s):o∈ops/\ks.length<=3/\ks.length=ar o/\(∀k∈ks,IsSh k)/\o≠"num"/\o≠"var"/\o≠"call"/\qc o=some (ks,s):=by
 rcases h with⟨rfl,rfl,rfl⟩|⟨rfl,rfl,rfl⟩|⟨h1,h2,Z,rfl⟩
 ·exact⟨by decide,by decide,by decide,λk j=>by simp at j;rcases j with rfl|rfl <;> simp[IsSh],by decide,by decide,by decide,by decide⟩
 ·exact⟨by decide,by decide,by decide,λk j=>by simp at j;rcases j with rfl|rfl|rfl <;> simp[IsSh],by decide,by decide,by decide,by decide⟩
 have:s = "num":=(I.resolve_right λz=>z.elim h1 h2);subst this;have q:∀k∈([("num" : Str),"num"]),IsSh k:=λk j=>by simp at j;rw[j];exact .inl rfl
 rcases Z with rfl|rfl
 ·exact⟨by decide,by decide,by decide,q,by decide,by decide,by decide,by decide⟩
 exact⟨by decide,by decide,by decide,q,by decide,by decide,by decide,by decide⟩
def z4s{fs:List Fn}{env:List (Str×Str)}{n:Nat}{es:List D}{s o:Str}{ks:List Str}(h:Opk s o ks)(Z:IsSh s)(hp:w8 (Sh1 fs env n) es (ks.map some))(hl:es.length<=100):Sh1 fs env (n+1) (.tup (.str o::es)) (some s):=by
 obtain⟨_,_,_,_,I,q,j,ft⟩:=Wm h Z;refine .inr (.inr (.inr ⟨o,es,_,I,q,j,rfl,hp,hl,?_⟩));unfold Bp;rw[ft];exact(if_pos rfl).symm
def okHd(I:List Hd):okD 40 (D.lst (I.map hdD)):=by
 rw[su (by decide)]
 intro x j;obtain⟨z,_,rfl⟩:=zah.mp j;unfold hdD;rw[Cv (by decide)]
 intro y q;simp only[zam,List.not_mem_nil,or_false]at q;rcases q with rfl|rfl|rfl|rfl
 ·rw[xn];trivial
 ·rw[su (by decide)]
  intro x j;obtain⟨z,_,rfl⟩:=zah.mp j;rw[xn];trivial
 ·rw[xn];trivial
 rw[su (by decide)]
 intro x j;obtain⟨z,_,rfl⟩:=zah.mp j;rw[uc];trivial
def C7{Q:Hd->Prop}{j:List Hd}(h:∀ z∈j,Q z)(q:j≠[])(x:Int):∃w,Q w/\atI (j.map hdD) (x.fmod (j.length:Int))=some (hdD w):=by
 obtain⟨d,I,e⟩:=Lw (l:=j.map hdD) (by simpa using q) x
 obtain⟨r,hr,rfl⟩:=zah.mp I;rw[zLm]at e;exact⟨r,h r hr,e⟩
def fq{n:Nat}{rs:List (D×List Str)}(h:∀ r∈rs,Ex1 n r.1 r.2):W1 (Ex1 n) (rs.map Prod.fst) (rs.map Prod.snd):=by
 refine⟨by simp,λi e c q j=>?_⟩
 rw[zai]at q j;obtain⟨r,hr,rfl⟩:=zar.mp q;rw[hr]at j;cases j;exact h r (zan hr)
def Wf{n:Nat}{rs:List (D×List Str)}(h:∀ r∈rs,Ex1 n r.1 r.2):vg (rs.map Prod.fst):=yu.mpr λd j=>by
 obtain⟨r,hr,rfl⟩:=zah.mp j;exact(xy n _ _ (h r hr)).2.2
def v8(c:List Str):c.length<=wsum c:=by
 induction c with
 |nil=>exact zaj _
 |cons a c ih =>
  rw[xb,zLc];omega
def O3{n:Nat}{rs:List (D×List Str)}(h:∀ r∈rs,Ex1 n r.1 r.2)(hl:rs.length<=4)(j:n<=4):(wds rs).length<=34000:=by
 have:=Tr (fq h) (by simpa using hl) (xy n)
 have:=B5 j;have:=v8 (rs.map Prod.snd).flatten;show(rs.map Prod.snd).flatten.length<=_;omega
def C8(x:Int):∃o:Str,(o = "add"\/o = "sub")/\atI [dv (D.str "add"),dv (D.str "sub")] (x.fmod 2)=q_ (.str o):=by
 have m:=yt x 2 (by decide)
 rcases(by omega:x.fmod 2=0\/x.fmod 2=1) with e|e
 ·exact⟨"add",.inl rfl,by rw[e,jg]⟩
 exact⟨"sub",.inr rfl,by rw[e,jf]⟩
def fstD:D->Option D
 |.tup (e::_)=>some e
 |_=>none
def qt(rs:List (D×List Str)):(rs.map rowD).filterMap fstD=rs.map Prod.fst:=by
 rw[List.filterMap_map,<- List.filterMap_eq_map];rfl
def Hw{n:Nat}(T:Tops mg)(b9:FD P w K mg base 1 "_law_next" pK Zd)(b4:FD P w K mg base 1 "_law_plain" pO Sw)(a8:FD P w K mg base 1 "_law_flat" pG Yc)(a7:FD P w K mg base (n+2) "_law_e" pD (tE n))(F:Fm K mg "_law_e" 58):FD P w K mg base (n+3) "_law_e" pD (tE (n+1)):=by
 have S:zt ["_law_feed","_law_heads","_law_there","_law_shape","_law_deep","_law_cell","_law_some","_law_head_here","_law_made","_law_word","_law_kinds"] pD (zh (top 58)):=by walk_at "f"
 walk_at "b";refine⟨_,(zd (zj (zm 5 S.nd (zi b9 hr.d (z9 (za 0) zb))))
   (zd (zj (yi (EW.et (qw (cj (za 4) zc) (qw (cj (Q7 0) zc) (sw (cj (yj (za 5) zc) zc))))) (zk (zw (zi b4 hr.d (z9 (za 2) (z9 (za 3) (z9 (v5 (za 5) zc) zb)))))) ya))
   (zd (zj (Ra 0 (uk (Q7 0) zc)))
   (zd (zj (yn (T:=["_law_head_here"]) (F:=["_law_shape"]) (js:=[3]) 6 S.nd (yp (za 1)) (cs1 (by walk_at "c")) (.cons rfl .nil) (by decide) (by walk_at "t") zx (yk 0) (λcl C fp s H=>(ck (xh hu (zn hu (za 0) zc) (za 1)))) (λcl C fp s H=>(za 0))))
   (zd (zj (yi (EW.et (ci (Hy (yj (za 5) zc) zc) (jb (qx hu (za 6) (zy zb))))) (zd (zj (zm 7 S.nd (zn hu (za 6) (yj (v5 (za 5) zc) (w5 T.len (z9 (za 6) zb))))))
    (zd (zj (yn (T:=["_law_kind"]) (F:=["_law_feed","_law_heads","_law_there","_law_deep"]) (js:=[0,1,2,4]) 8 S.nd (yp (zn hu (za 7) zc)) (cs1 (by walk_at "c")) (.cons rfl (.cons rfl (.cons rfl (.cons rfl .nil)))) (by decide) (by walk_at "t") zx (yk 0) yG (λcl C fp s H=>(zi a7 hr.d (z9 (za 1) (z9 (za 2) (z9 (za 3) (z9 (za 0) (z9 (uk (za 4) zc) zb)))))))))
    (zk (tj 8 (zw (yf (z9 (yf (z9 zg (z9 (zn hu (za 7) zc) (z9 (x5 T.tuple (z9 (cu (T:=["_law_one","_law_more"]) (F:=[]) (js:=[]) (yp (za 8)) (cs1 (by walk_at "c")) .nil (by decide) (by walk_at "t") (u3 (ym yc (xg yc yw) zx (ym yc yw zx u5))) (w6 0 1) yG (λcl C fp s H=>(za 0))) zb)) zb)))) (z9 (yb (yb (zy (z9 zg (z9 zg (z9 (zn hu (za 7) zc) zb)))) (zi a8 hr.d (z9 (za 8) zb))) (zy (z9 zg zb))) zb)))))))) ya))
   (zd (zj (zm 9 S.nd (uf (z9 zg (z9 zg zb)) (yj (v5 (za 5) zc) zc))))
   (zd (zj (zm 10 S.nd (zy (z9 zg (z9 zg zb)))))
   (zd (zj (yi (xh hu (za 3) zg) (zd (zm 9 S.nd zg)
    (zk (zm 10 S.nd (zy (z9 zg (z9 zg zb)))))) ya))
   (zd (zj (yi (xh hu (za 3) zg) (zd (zm 9 S.nd zg)
    (zk (zm 10 S.nd (zy (z9 zg (z9 zg (z9 zg zb))))))) ya))
   (zd (zj (tj 10 (yn (T:=["_law_kind"]) (F:=["_law_feed","_law_heads","_law_there","_law_deep"]) (js:=[0,1,2,4]) 8 S.nd (yp (za 10)) (cs1 (by walk_at "c")) (.cons rfl (.cons rfl (.cons rfl (.cons rfl .nil)))) (by decide) (by walk_at "t") zx (yk 0) yG (λcl C fp s H=>(zi a7 hr.d (z9 (za 1) (z9 (za 2) (z9 (za 3) (z9 (za 0) (z9 (uk (za 4) zc) zb))))))))))
   (zk (tj 8 (zw (yf (z9 (x5 T.tuple (z9 (yb (zy (z9 (za 9) zb)) (cu (T:=["_law_one","_law_more"]) (F:=[]) (js:=[]) (yp (za 8)) (cs1 (by walk_at "c")) .nil (by decide) (by walk_at "t") (u3 (ym yc (xg yc yw) zx (ym yc yw zx u5))) (w6 0 1) yG (λcl C fp s H=>(za 0)))) zb)) (z9 (yb (yb (zy (z9 zg (z9 (za 9) zb))) (zi a8 hr.d (z9 (za 8) zb))) (zy (z9 zg zb))) zb)))))))))))))))),?_⟩
 obtain⟨a0,b0,c0,d0,e0,rfl,rfl,Z,j,s,rfl,oh,rfl,ot,rfl,a6,rfl,e1,h⟩:=hT;refine ze (λL=>∃c:Int,L=[q_ (.fd 0),q_ (.lst (Z.map hdD)),q_ (.lst (j.map prD)),q_ (.str s),q_ (.int n),q_ (.int c),none,none,none,none,none]) ?_ ?_
 ·walk_at "dl";simp only[Zd,ZZ.g1];exact⟨trivial,λc=>⟨trivial,c,rfl⟩⟩
 rintro _ ⟨c,rfl⟩;refine ze (λL=>∃m:Nat,n=m+1/\L=[q_ (.fd 0),q_ (.lst (Z.map hdD)),q_ (.lst (j.map prD)),q_ (.str s),q_ (.int n),q_ (.int c),none,none,none,none,none]) ?_ ?_
 ·walk_at "dl";simp only[Sw,ZZ.g3];have pl:FdOk c 8/\∃(rows':List (Str×Str))(s':Str)(i:Int),D.lst (j.map prD)=.lst (rows'.map prD)/\OkT rows'/\D.str s=.str s'/\IsSh s'/\D.int (c.fdiv 8)=.int i/\∀e c,ExB e c->(∀fs n,Sh1 fs rows' (n+1) e (some s'))->True/\U ⟨.new,rowD (e,c)⟩:=⟨fdl,j,s,_,rfl,ot,rfl,a6,rfl,λe c a5 a4=>⟨trivial,h e c (.inl a5) (a4 _ _)⟩⟩;exact⟨λ_=>pl,λhn=>λc1=>⟨λ_=>pl,λ_=>⟨λ_=>pl,λ_=>⟨n-1,by omega⟩⟩⟩⟩
 rintro _ ⟨m,rfl,rfl⟩;refine z_g [q_ (.fd 0),q_ (.lst (Z.map hdD)),q_ (.lst (j.map prD)),q_ (.str s),q_ (.int (m+1:Nat)),q_ (.int c),none,none,none,none,none] ?_ ?_
 ·walk_at "dl"
 refine ze (λL=>∃os:List Hd,(∀h∈os,h∈Z/\h.shape=s)/\L=[q_ (.fd 0),q_ (.lst (Z.map hdD)),q_ (.lst (j.map prD)),q_ (.str s),q_ (.int (m+1:Nat)),q_ (.int c),Q_ (.lst (os.map hdD)),none,none,none,none]) ?_ ?_
 ·refine y9 (Z.map hdD) (λN I=>?_) (λi fs=>Hds Z s fs) (by rw[zLm];have:=oh.ln;omega) Bj ?_ ?_
  ·exact⟨trivial,I⟩
  ·rintro k e fs he b3 wd;rw[zai]at he;obtain⟨p,hp,rfl⟩:=zar.mp he;have gp:=zan hp;walk_at "p";simp only[hdD];walk_at "dl";exact⟨λq=>Bk wd ⟨gp,q⟩,λ_=>wd⟩
  rintro fs ⟨zs,rfl,hz⟩;exact⟨trivial,zs,hz,rfl⟩
 rintro _ ⟨os,oo,rfl⟩;refine z_g [q_ (.fd 0),q_ (.lst (Z.map hdD)),q_ (.lst (j.map prD)),q_ (.str s),q_ (.int (m+1:Nat)),q_ (.int c),Q_ (.lst (os.map hdD)),none,none,none,none] ?_ ?_
 ·refine Dq (decide (c.fmod 8 > 5)&&decide (os≠[])) (λN I=>?_) (λhb=>?_) (λ_=>?_)
  ·have ne:(5<c.fmod 8->okD 40 (D.lst (os.map hdD))/\okD 40 (D.lst [])/\N !eqD (D.lst (os.map hdD)) (D.lst []))/\(¬5<c.fmod 8->N false):=by
    refine⟨λz=>⟨okHd os,ok0,?_⟩,λz=>?_⟩
    ·have e:(decide (c.fmod 8 > 5)&&decide (os≠[]))=!eqD (D.lst (os.map hdD)) (D.lst []):=by
      cases os with
      |nil=>simp[eqD,eqDs]
      |cons a l =>
       have:decide (c.fmod 8 > 5)=true:=decide_eq_true z;rw[this];rfl
     rw[<- e];exact I
    rw[show decide (c.fmod 8 > 5)=false from decide_eq_false z]at I;exact I
   walk_at "dl";exact ne
  ·have a9:os≠[]:=by
    simp only[Bool.and_eq_true,decide_eq_true_eq]at hb;exact hb.2
   have c3:¬ (os.length:Int)=0:=λz=>a9 (List.eq_nil_of_length_eq_zero (by omega))
   obtain⟨w,⟨wm,c2⟩,ew⟩:=C7 oo a9 (c.fdiv 8);have ow:=oh.ok w wm;rw[bj]at ew;refine z_g [q_ (.fd 0),q_ (.lst (Z.map hdD)),q_ (.lst (j.map prD)),q_ (.str s),q_ (.int (m+1:Nat)),q_ (.int c),Q_ (.lst (os.map hdD)),q_ (hdD w),none,none,none] ?_ ?_
   ·walk_at "dl";rw[ew];exact⟨fdl,c3,rfl⟩
   refine ze (λL=>∃rs:List (D×List Str),Uc (hfs Z) j (m+1) w.kinds w.kinds.length (rs.map rowD) rs/\L=[q_ (.fd 0),q_ (.lst (Z.map hdD)),q_ (.lst (j.map prD)),q_ (.str s),q_ (.int (m+1:Nat)),q_ (.int c),Q_ (.lst (os.map hdD)),q_ (hdD w),Q_ (.lst (rs.map rowD)),none,none]) ?_ ?_
   ·refine y9 (w.kinds.map D.str) (λN I=>?_) (λi ds=>∃rs,Uc (hfs Z) j (m+1) w.kinds i ds rs) (by rw[zLm];have:=ow.n4;omega) ⟨[],rfl,rfl,λ_ _ _ z=>by simp at z⟩ ?_ ?_
    ·unfold hdD;exact⟨trivial,I⟩
    ·rintro k e fs he b3 ⟨qs,wd⟩;rw[zai]at he;obtain⟨p,hp,rfl⟩:=zar.mp he;walk_at "p";walk_at "dl";exact⟨_,_,_,_,_,rfl,rfl,Z,j,p,rfl,oh,rfl,ot,rfl,ow.kinds p (zan hp),by rw[show((m+1:Nat):Int)-1=(m:Int) by omega],by omega,λe c a5 a4=>⟨trivial,_,Wg wd hp a5 a4⟩⟩
    rintro fs ⟨zs,hz⟩;rw[zLm]at hz;have e:=hz.eq;subst e;exact⟨trivial,zs,hz,rfl⟩
   rintro _ ⟨rs,hR,rfl⟩;obtain⟨a2,hP⟩:=hR.all;have lr:=hR.ln;have l4:=ow.n4;have wl:=O3 a2 (by omega) (by omega)
   simp only[hdD];walk_at "dl";refine k6 (rs.map rowD) (λN I=>?_) fstD (by rw[zLm];omega) (λd hd=>?_) ?_
   ·exact⟨trivial,I⟩
   ·obtain⟨r,_,rfl⟩:=zah.mp hd;unfold rowD;walk_at "p";walk_at "dl";rfl
   rw[qt];walk_at "dl";simp only[Yc,ZZ.g1];have a1:=h (.tup [.str "call",.str w.name,.tup (rs.map Prod.fst)]) ([lp,"call",w.name]++(rs.map Prod.snd).flatten++[rp]) (.inr (.inl ⟨w.name,_,_,ow.name,fq a2,by rw[zLm];omega,rfl,rfl⟩)) (Dk oh wm c2 hP (by rw[zLm];omega))
   have pu:=xk ([lp,"call",w.name]++wds rs++[rp]);unfold rowD at a1;rw[zMa,zMa]at a1 pu;exact⟨Wf a2,rs,rfl,by omega,by simp only[zLm,zLc,zLn];rw[xq];omega,by simp only[zLa,zLm,zLc,zLn];rw[xq];omega,pu,a1⟩
  exact rfl
 refine ze (λL=>∃o:Str,(o = "add"\/o = "sub")/\L=[q_ (.fd 0),q_ (.lst (Z.map hdD)),q_ (.lst (j.map prD)),q_ (.str s),q_ (.int (m+1:Nat)),q_ (.int c),Q_ (.lst (os.map hdD)),none,none,q_ (.str o),none]) ?_ ?_
 ·walk_at "dl";obtain⟨o,ho,eo⟩:=C8 (c.fdiv 8);rw[eo];exact⟨fdl,trivial,o,ho,rfl⟩
 rintro _ ⟨o,ho,rfl⟩;refine ze (λL=>∃(o:Str)(ks:List Str),(o = "add"\/o = "sub")/\ks=[("num" : Str),"num"]/\L=[q_ (.fd 0),q_ (.lst (Z.map hdD)),q_ (.lst (j.map prD)),q_ (.str s),q_ (.int (m+1:Nat)),q_ (.int c),Q_ (.lst (os.map hdD)),none,none,q_ (.str o),Q_ (.lst (ks.map D.str))]) ?_ ?_
 ·walk_at "dl";exact⟨o,["num","num"],ho,rfl,rfl⟩
 rintro _ ⟨o,ks,ho,hk,rfl⟩;refine ze (λL=>∃(o:Str)(ks:List Str),((s = "list"/\o = "cons"/\ks=[("num" : Str),"list"])\/(s≠"list"/\(o = "add"\/o = "sub")/\ks=[("num" : Str),"num"]))/\L=[q_ (.fd 0),q_ (.lst (Z.map hdD)),q_ (.lst (j.map prD)),q_ (.str s),q_ (.int (m+1:Nat)),q_ (.int c),Q_ (.lst (os.map hdD)),none,none,q_ (.str o),Q_ (.lst (ks.map D.str))]) ?_ ?_
 ·walk_at "dl";exact⟨λq=>⟨"cons",["num","list"],.inl ⟨q,rfl,rfl⟩,rfl⟩,λq=>⟨o,ks,.inr ⟨q,ho,hk⟩,rfl⟩⟩
 rintro _ ⟨o,ks,ho,rfl⟩;refine ze (λL=>∃(o:Str)(ks:List Str),Opk s o ks/\L=[q_ (.fd 0),q_ (.lst (Z.map hdD)),q_ (.lst (j.map prD)),q_ (.str s),q_ (.int (m+1:Nat)),q_ (.int c),Q_ (.lst (os.map hdD)),none,none,q_ (.str o),Q_ (.lst (ks.map D.str))]) ?_ ?_
 ·walk_at "dl";exact⟨λq=>⟨"node",["tree","num","tree"],.inr (.inl ⟨q,rfl,rfl⟩),rfl⟩,λq=>⟨o,ks,ho.elim (λz=>.inl z) λz=>.inr (.inr ⟨z.1,q,z.2⟩),rfl⟩⟩
 rintro _ ⟨o,ks,hop,rfl⟩;obtain⟨ho,hk,e2,d3,_⟩:=Wm hop a6;refine ze (λL=>∃(rs:List (D×List Str))(x:Option EV),Uc (hfs Z) j (m+1) ks ks.length (rs.map rowD) rs/\L=[q_ (.fd 0),q_ (.lst (Z.map hdD)),q_ (.lst (j.map prD)),q_ (.str s),q_ (.int (m+1:Nat)),q_ (.int c),Q_ (.lst (os.map hdD)),none,Q_ (.lst (rs.map rowD)),q_ (.str o),x]) ?_ ?_
 ·walk_at "dl";refine y9 (ks.map D.str) (λN I=>?_) (λi ds=>∃rs,Uc (hfs Z) j (m+1) ks i ds rs) (by rw[zLm];omega) ⟨[],rfl,rfl,λ_ _ _ z=>by simp at z⟩ ?_ ?_
  ·exact⟨trivial,I⟩
  ·rintro k e fs he b3 ⟨qs,wd⟩;rw[zai]at he;obtain⟨p,hp,rfl⟩:=zar.mp he;walk_at "p";walk_at "dl";exact⟨_,_,_,_,_,rfl,rfl,Z,j,p,rfl,oh,rfl,ot,rfl,d3 p (zan hp),by rw[show((m+1:Nat):Int)-1=(m:Int) by omega],by omega,λe c a5 a4=>⟨trivial,_,Wg wd hp a5 a4⟩⟩
  rintro fs ⟨zs,hz⟩;rw[zLm]at hz;have e:=hz.eq;subst e;exact⟨trivial,zs,_,hz,rfl⟩
 rintro _ ⟨rs,x,hR,rfl⟩;obtain⟨a2,hP⟩:=hR.all;have lr:=hR.ln;have wl:=O3 a2 (by omega) (by omega)
 walk_at "dl";refine k6 (rs.map rowD) (λN I=>?_) fstD (by rw[zLm];omega) (λd hd=>?_) ?_
 ·exact⟨trivial,I⟩
 ·obtain⟨r,_,rfl⟩:=zah.mp hd;unfold rowD;walk_at "p";walk_at "dl";rfl
 rw[qt];walk_at "dl";simp only[Yc,ZZ.g1];have a1:=h (.tup (.str o::rs.map Prod.fst)) ([lp,o]++(rs.map Prod.snd).flatten++[rp]) (.inr (.inr ⟨o,_,_,ho,fq a2,by rw[zLm];omega,rfl,rfl⟩)) (z4s hop a6 hP (by rw[zLm];omega))
 have pu:=xk ([lp,o]++wds rs++[rp]);unfold rowD at a1;rw[zMa,zMa]at a1 pu;exact⟨by rw[xq];omega,rs,rfl,by omega,by simp only[zLm,zLc,zLn];rw[xq];omega,by simp only[zLa,zLm,zLc,zLn];rw[xq];omega,⟨Wf a2,pu⟩,a1⟩
theorem Mw(T:Tops mg)(I:FD P w K mg base 1 "_law_next" pK Zd)(q:FD P w K mg base 1 "_law_plain" pO Sw)(j:FD P w K mg base 1 "_law_flat" pG Yc)(F:Fm K mg "_law_e" 58):∀n:Nat,FD P w K mg base (n+2) "_law_e" pD (tE n)
 |0=>by
  have S:zt ["_law_feed","_law_heads","_law_there","_law_shape","_law_deep","_law_cell","_law_some","_law_head_here","_law_made","_law_word","_law_kinds"] pD (zh (top 58)):=by walk_at "f"
  obtain⟨f,fd,F,m⟩:=F;refine x6 F S (F.binds λ_ _ _ _ _ _ us hl=>(by obtain⟨_,_,_,_,_,rfl⟩:=P7 hl;rfl)) m λqZ A outer s H E ds U hr hl hT=>?_
  exact hT.elim
 |n+1=>Hw T I q j (Mw T I q j F n) F
def g6(g:D->D->D->D->D->D->(EV->Prop)->Prop):FT:=λds U=>∃a b c d e f,ds=[a,b,c,d,e,f]/\g a b c d e f U
def g8(g:D->D->D->D->D->D->D->D->(EV->Prop)->Prop):FT:=λds U=>∃a b c d e f i j,ds=[a,b,c,d,e,f,i,j]/\g a b c d e f i j U
structure OkB(n:Nat)(rows:List (Str×Str))(zs:List Str):Prop where
 ot:OkT rows
 rl:rows.length+3*n<=100
 nz:∀z∈zs,IsNm z
 nd:(rows.map Prod.fst++zs).Nodup
 lo:3*n<=zs.length
 hi:zs.length<=100
def OkB.down{n:Nat}{j:List (Str×Str)}{zs:List Str}(h:OkB (n+1) j zs):OkB n j zs:=⟨h.ot,by have:=h.rl;omega,h.nz,h.nd,by have:=h.lo;omega,h.hi⟩
theorem g9:∀(zs ks:List Str),(zs.take ks.length).zip ks=zs.zip ks
 |zs,[]=>by rw[List.zip_nil_right,List.zip_nil_right]
 |[],k::ks=>rfl
 |z::zs,k::ks=>by
  rw[zLc,List.take_succ_cons,List.zip_cons_cons,List.zip_cons_cons,g9 zs ks]
def Et{zs ks:List Str}(h:ks.length<=zs.length):(zs.zip ks).map Prod.fst=zs.take ks.length:=by
 rw[<- g9,List.map_fst_zip (by rw[List.length_take];omega)]
def OkB.more{n:Nat}{j:List (Str×Str)}{zs ks:List Str}(h:OkB (n+1) j zs)(hk:ks.length<=3)(hs:∀ k∈ks,IsSh k):OkB n (j++zs.zip ks) (zs.drop ks.length)/\bv j (zs.zip ks):=by
 have hl:ks.length<=zs.length:=by have:=h.lo;omega
 have I:=Et hl;have nd:=h.nd;rw[<- List.take_append_drop ks.length zs,<- List.append_assoc]at nd;have nd1:=(List.nodup_append.mp nd).1;have hm:∀p∈zs.zip ks,IsNm p.1/\IsSh p.2:=λp q=>by
  obtain⟨a,b⟩:=p;have:=List.of_mem_zip q;exact⟨h.nz _ this.1,hs _ this.2⟩
 have Z:(zs.zip ks).length=ks.length:=by rw[List.length_zip];omega
 refine⟨⟨⟨λp q=>?_,by rw[zMa,I];exact nd1,by rw[zLa,Z];have:=h.rl;omega⟩,by rw[zLa,Z];have:=h.rl;omega,λz hz=>h.nz z (List.mem_of_mem_drop hz),by rw[zMa,I];exact nd,by rw[List.length_drop];have:=h.lo;omega,by rw[List.length_drop];have:=h.hi;omega⟩,by rw[I];exact(List.nodup_append.mp nd1).2.1,λp q=>(hm p q).1,λp q hq=>?_,by rw[Z];exact hk⟩
 ·rcases zas.mp q with q|q
  ·exact h.ot.nm p q
  exact hm p q
 have m1:p.1∈zs.take ks.length:=by rw[<- I];exact zah.mpr ⟨p,q,rfl⟩
 exact(List.nodup_append.mp nd1).2.2 p.1 hq p.1 m1 rfl
theorem Oy{fs:List Fn}{env:List (Str×Str)}:∀{n:Nat}{e:D}{r:Option Str},Sh1 fs env n e r->Sh1 fs env (n+1) e r
 |0,_,_,h=>h.elim
 |n+1,e,r,h=>by
  rcases h with h|h|⟨f,es,rs,he,hp,hl,hc⟩|⟨o,es,rs,n1,n2,n3,he,hp,hl,hc⟩
  ·exact .inl h
  ·exact .inr (.inl h)
  ·exact .inr (.inr (.inl ⟨f,es,rs,he,⟨hp.1,λi e c a b=>Oy (hp.2 i e c a b)⟩,hl,hc⟩))
  exact .inr (.inr (.inr ⟨o,es,rs,n1,n2,n3,he,⟨hp.1,λi e c a b=>Oy (hp.2 i e c a b)⟩,hl,hc⟩))
def Rb(fs:List Fn)(due:Str)(M n:Nat)(env:List (Str×Str))(b:D):Prop:=Bd fs due M n env b true
variable{fs:List Fn}{due:Str}{M n:Nat}{env:List (Str×Str)}
def Du{e:D}(h:Sh1 fs env M e (some due)):Rb fs due M (n+1) env (.tup [.str "give",e]):=.inl ⟨e,_,h,rfl,(decide_eq_true rfl).symm⟩
def z0y{z s:Str}{e b:D}(h:Sh1 fs env M e (some s))(fr:bv env [(z,s)])(j:Rb fs due M n (env++[(z,s)]) b):Rb fs due M (n+1) env (.tup [.str "let",.str z,e,b]):=.inr (.inl ⟨z,e,_,b,h,by have:z.length<=8:=(fr.2.1 _ zao).2.1;omega,rfl,.inl ⟨s,rfl,fr,j⟩⟩)
def Dt{q j b1 b2:D}(h1:Sh1 fs env M q (some ("num" : Str)))(h2:Sh1 fs env M j (some ("num" : Str)))(g1:Rb fs due M n env b1)(g21:Rb fs due M n env b2):Rb fs due M (n+1) env (.tup [.str "less",q,j,b1,b2]):=.inr (.inr (.inl ⟨q,j,_,_,b1,b2,h1,h2,rfl,.inl ⟨rfl,rfl,true,true,g1,g21,rfl⟩⟩))
def Ds{k z:Str}{b1 b2:D}{zs ks:List Str}(I:jr k=some ks)(hr:v7 env z=some k)(hl:zs.length=ks.length)(fr:bv env (zs.zip ks))(g1:Rb fs due M n env b1)(g21:Rb fs due M n (env++zs.zip ks) b2):Rb fs due M (n+1) env (.tup ([.str k,.str z,b1]++zs.map D.str++[b2])):=.inr (.inr (.inr ⟨k,z,b1,zs,ks,b2,I,hl,λy j=>by
 have e:(zs.zip ks).map Prod.fst=zs:=List.map_fst_zip (by omega)
 rw[<- e]at j;obtain⟨p,q,rfl⟩:=zah.mp j;have:=(fr.2.1 p q).2.1;omega,rfl,.inr ⟨hr,true,g1,.inr ⟨rfl,.inl ⟨fr,g21⟩⟩⟩⟩))
def On:Nat->FT
 |0=>λ_ _=>False
 |n+1=>g6 λZ I th q j de U=>Z=.fd 0/\∃(hs:List Hd)(rows:List (Str×Str))(zs:List Str)(s:Str),I=.lst (hs.map hdD)/\OkHs hs/\th=.lst (rows.map prD)/\OkB n rows zs/\q=.lst (zs.map D.str)/\j=.str s/\IsSh s/\de=.int n/\n<=4/\∀b c,Bo (n+1) b c->Rb (hfs hs) s 4 (n+1) rows b->U ⟨.new,rowD (b,c)⟩
def Ax(n:Nat):FT:=g8 λfe he th I j de q Z U=>fe=.fd 0/\∃(hs:List Hd)(rows:List (Str×Str))(zs:List Str)(s:Str)(o k:Str),he=.lst (hs.map hdD)/\OkHs hs/\th=.lst (rows.map prD)/\OkB n rows zs/\I=.lst (zs.map D.str)/\j=.str s/\IsSh s/\de=.int n/\1<=n/\n<=4/\q=.str o/\(IsNm o/\v7 rows o=some k)/\Z=.str k/\(k = "list"\/k = "tree")/\∀b c,Bo (n+1) b c->Rb (hfs hs) s 4 (n+1) rows b->U ⟨.new,rowD (b,c)⟩
def K8(k o:Str)(q zs j:List Str):bk [k,o] [q,brW zs,j]=lp::k::o::(q++[lp]++zs++[rp]++j++[rp]):=by
 simp[bk,brW]
def Qr{k:Str}(I:k = "list"\/k = "tree"):∃ks:List Str,jr k=some ks/\(∀j∈ks,IsSh j)/\ks.length<=3/\ks≠[]/\(ks.length=if k = "tree" then 3 else 2)/\atI [df (D.lst [.str "num",.str "list"]),df (D.lst [.str "tree",.str "num",.str "tree"])] (if k = "tree" then 1 else 0)=some (df (.lst (ks.map D.str))):=by
 rcases I with rfl|rfl
 ·exact⟨["num","list"],by decide,λj q=>by simp at q;rcases q with rfl|rfl <;> simp[IsSh],by decide,by decide,by decide,by rw[if_neg (by decide),jg];rfl⟩
 exact⟨["tree","num","tree"],by decide,λj q=>by simp at q;rcases q with rfl|rfl|rfl <;> simp[IsSh],by decide,by decide,by decide,by rw[if_pos rfl,jf];rfl⟩
def Tw{n:Nat}(T:Tops mg)(a7:FD P w K mg base (2*n+7) "_law_body" pH (On n))(F:Fm K mg "_law_open" 59):FD P w K mg base (2*n+8) "_law_open" pQ (Ax n):=by
 have S:zt ["_law_feed","_law_heads","_law_there","_law_names","_law_shape","_law_deep","_law_opened","_law_kind","_law_kinds","_law_some","_law_brought","_law_first","_law_other","_law_words"] pQ (zh (top 59)):=by walk_at "f"
 walk_at "b";refine⟨_,(zd (zj (zm 8 S.nd (uf (z9 (zy (z9 zg (z9 zg zb))) (z9 (zy (z9 zg (z9 zg (z9 zg zb)))) zb)) (Xq T.int (z9 (Xr hu (za 7) zg) zb)))))
   (zd (zj (yn (T:=["_law_k"]) (F:=["_law_names","_law_kinds"]) (js:=[3,8]) 9 S.nd (wt T.range (z9 (w5 T.len (z9 (za 8) zb)) zb)) (cs1 (by walk_at "c")) (.cons rfl (.cons rfl .nil)) (by decide) (by walk_at "t") zx (yk 0) yG (λcl C fp s H=>(yf (z9 (zn hu (za 1) (za 0)) (z9 (zn hu (za 2) (za 0)) zb))))))
   (zd (zj (zm 10 S.nd (xc (za 3) wy (xi (w5 T.len (z9 (za 8) zb))))))
   (zd (zj (zm 11 S.nd (zi a7 hr.d (z9 (za 0) (z9 (za 1) (z9 (za 2) (z9 (za 3) (z9 (za 4) (z9 (uk (za 5) zc) zb)))))))))
   (zd (zj (zm 12 S.nd (zi a7 hr.d (z9 (za 0) (z9 (za 1) (z9 (yb (za 2) (za 9)) (z9 (xc (za 3) (xi (w5 T.len (z9 (za 8) zb))) wy) (z9 (za 4) (z9 (uk (za 5) zc) zb)))))))))
   (zd (zj (zm 13 S.nd (yb (yb (yb (yb (yb (yb (zy (z9 zg (z9 (za 7) (z9 (za 6) zb)))) (zn hu (za 11) zc)) (zy (z9 zg zb))) (za 10)) (zy (z9 zg zb))) (zn hu (za 12) zc)) (zy (z9 zg zb)))))
   (zk (N0 (z9 (L9 (L9 (yf (z9 (za 7) (z9 (za 6) (z9 (zn hu (za 11) zc) zb)))) (x5 T.tuple (z9 (za 10) zb))) (yf (z9 (zn hu (za 12) zc) zb))) (z9 (za 13) zb)))))))))),?_⟩
 obtain⟨a0,b0,c0,d0,e0,f0,g0,h0,rfl,rfl,q,j,zs,s,o,k,rfl,oh,rfl,ob,rfl,rfl,b3,rfl,h3,g7,rfl,⟨go,gr⟩,rfl,hk,h⟩:=hT;obtain⟨m,rfl⟩:∃m,n=m+1:=⟨n-1,by omega⟩
 obtain⟨ks,e5,e4,a8,d3,c3,e6⟩:=Qr hk;have kl:ks.length<=3/\ks≠[]:=⟨a8,d3⟩;have b4:=ob.nz;have e9:=ob.lo;have e8:=ob.hi;have f8:=ob.rl;obtain⟨b9,fr⟩:=ob.more a8 e4;have e7:(zs.zip ks).length=ks.length:=by rw[List.length_zip];omega
 refine z_g [q_ (.fd 0),q_ (.lst (q.map hdD)),q_ (.lst (j.map prD)),q_ (.lst (zs.map D.str)),q_ (.str s),q_ (.int (m+1:Nat)),q_ (.str o),q_ (.str k),Q_ (.lst (ks.map D.str)),none,none,none,none,none] ?_ ?_
 ·walk_at "dl";rw[e6];exact⟨trivial,rfl⟩
 refine ze (λL=>∃more:List (Str×Str),more=zs.zip ks/\L=[q_ (.fd 0),q_ (.lst (q.map hdD)),q_ (.lst (j.map prD)),q_ (.lst (zs.map D.str)),q_ (.str s),q_ (.int (m+1:Nat)),q_ (.str o),q_ (.str k),Q_ (.lst (ks.map D.str)),Q_ (.lst (more.map prD)),none,none,none,none]) ?_ ?_
 ·refine y9 (rngD 0 ks.length) (λN e1=>?_) (λi fs=>fs=((zs.zip ks).take i).map prD) (by rw[xt];omega) rfl ?_ ?_
  ·walk_at "dl";rw[Int.toNat_natCast];exact⟨by omega,by omega,e1⟩
  ·rintro i e fs he h5 rfl;obtain⟨hi,rfl⟩:=vt he;walk_at "p";walk_at "dl";rw[xx1 (by omega),zaf (by omega),xx1 hi,zaf hi]
   refine⟨⟨trivial,trivial⟩,?_⟩;have ez:(zs.zip ks)[i]?=some (zs[i]'(by omega),ks[i]):=List.getElem?_zip_eq_some.mpr ⟨zaf _,zaf hi⟩
   rw[List.take_succ,ez,zMa];rfl
  rintro fs rfl;rw[xt,List.take_of_length_le (by omega)]
  exact⟨trivial,_,rfl,rfl⟩
 rintro _ ⟨more,a2,rfl⟩;have h4:more.length<=3:=by rw[a2];omega
 refine z_g [q_ (.fd 0),q_ (.lst (q.map hdD)),q_ (.lst (j.map prD)),q_ (.lst (zs.map D.str)),q_ (.str s),q_ (.int (m+1:Nat)),q_ (.str o),q_ (.str k),Q_ (.lst (ks.map D.str)),Q_ (.lst (more.map prD)),Q_ (.lst ((zs.take ks.length).map D.str)),none,none,none] ?_ ?_
 ·walk_at "dl";rw[cutD_take,<- List.map_take]
 refine ze (λL=>∃b1 I,Bo (m+1) b1 I/\Rb (hfs q) s 4 (m+1) j b1/\L=[q_ (.fd 0),q_ (.lst (q.map hdD)),q_ (.lst (j.map prD)),q_ (.lst (zs.map D.str)),q_ (.str s),q_ (.int (m+1:Nat)),q_ (.str o),q_ (.str k),Q_ (.lst (ks.map D.str)),Q_ (.lst (more.map prD)),Q_ (.lst ((zs.take ks.length).map D.str)),q_ (rowD (b1,I)),none,none]) ?_ ?_
 ·walk_at "dl";exact⟨_,_,_,_,_,_,rfl,rfl,q,j,zs,s,rfl,oh,rfl,ob.down,rfl,rfl,b3,by rw[show((m+1:Nat):Int)-1=(m:Int) by omega],by omega,λb c a4 a1=>⟨trivial,b,c,a4,a1,rfl⟩⟩
 rintro _ ⟨b1,I,a6,e3,rfl⟩;refine ze (λL=>∃b2 Z,Bo (m+1) b2 Z/\Rb (hfs q) s 4 (m+1) (j++more) b2/\L=[q_ (.fd 0),q_ (.lst (q.map hdD)),q_ (.lst (j.map prD)),q_ (.lst (zs.map D.str)),q_ (.str s),q_ (.int (m+1:Nat)),q_ (.str o),q_ (.str k),Q_ (.lst (ks.map D.str)),Q_ (.lst (more.map prD)),Q_ (.lst ((zs.take ks.length).map D.str)),q_ (rowD (b1,I)),q_ (rowD (b2,Z)),none]) ?_ ?_
 ·walk_at "dl";refine⟨by rw[xq];omega,_,_,_,_,_,_,rfl,rfl,q,j++more,zs.drop ks.length,s,rfl,oh,by rw[zMa],by rw[a2];exact b9,by rw[cutD_drop,List.map_drop],rfl,b3,by rw[show((m+1:Nat):Int)-1=(m:Int) by omega],by omega,λb c a4 a1=>⟨trivial,b,c,a4,a1,rfl⟩⟩
 rintro _ ⟨b2,Z,a5,e2,rfl⟩;refine z_g [q_ (.fd 0),q_ (.lst (q.map hdD)),q_ (.lst (j.map prD)),q_ (.lst (zs.map D.str)),q_ (.str s),q_ (.int (m+1:Nat)),q_ (.str o),q_ (.str k),Q_ (.lst (ks.map D.str)),Q_ (.lst (more.map prD)),Q_ (.lst ((zs.take ks.length).map D.str)),q_ (rowD (b1,I)),q_ (rowD (b2,Z)),Q_ (.lst ((bk [k,o] [I,brW (zs.take ks.length),Z]).map D.str))] ?_ ?_
 ·have f1:=(wv _ _ _ a6).2.1;have f2:=(wv _ _ _ a5).2.1;have f3:=T9 (n:=m+1) (by omega)
  have f4:=v8 I;have f5:=v8 Z;have f6:=List.length_take_le ks.length zs;rw[K8];unfold rowD;walk_at "dl";simp only[zLa,zLm,zLc,zLn,zMa];rw[xq];exact⟨by omega,by omega,by omega,by omega,by omega,by omega,rfl⟩
 have f1:=(wv _ _ _ a6).2.2;have f2:=(wv _ _ _ a5).2.2;have f6:=List.length_take_le ks.length zs;have a9:=h (.tup ([.str k,.str o,b1]++(zs.take ks.length).map D.str++[b2])) (bk [k,o] [I,brW (zs.take ks.length),Z]) (.inr (.inr (.inr ⟨k,o,b1,I,zs.take ks.length,b2,Z,hk,go,a6,λw hw=>b4 w (List.mem_of_mem_take hw),λz=>?_,⟨by omega,by rw[List.length_take,Nat.min_eq_left (by omega)];exact c3⟩,a5,rfl,rfl⟩))) (Ds e5 gr (by rw[List.length_take];omega) (by rw[g9];exact fr) e3 (by rw[g9,<- a2];exact e2))
 ·unfold rowD;walk_at "dl";unfold rowD at a9;exact⟨f1,xk _,by rw[xq];omega,f2,by rw[xq];omega,xk _,a9⟩
 have:=congrArg List.length z;rw[List.length_take,zLn]at this;have:=List.length_pos_iff.mpr kl.2;omega
def z1h(x:Int):∃k:Str,IsSh k/\atI [dv (D.str "num"),dv (D.str "list"),dv (D.str "tree")] (x.fmod 3)=q_ (.str k):=by
 have m:=yt x 3 (by decide)
 rcases(by omega:x.fmod 3=0\/x.fmod 3=1\/x.fmod 3=2) with e|e|e
 ·exact⟨"num",.inl rfl,by rw[e,jg]⟩
 ·exact⟨"list",.inr (.inl rfl),by rw[e,jf]⟩
 exact⟨"tree",.inr (.inr rfl),by rw[e,Ly]⟩
def bk1(k:List Str):bk ["give"] [k]=[lp,"give"]++k++[rp]:=by simp[bk]
def bk2(z:Str)(q c:List Str):bk ["let",z] [q,c]=[lp,"let",z]++q++c++[rp]:=by simp[bk]
def N4{tc:TDb}{I j:TDS}{L:DE}{Z:DZ}{Q:Prop}(h:∀ N:Bool->Prop,(∀ b,(b=false->Q)->N b)->tc L N)(h1:I L Z)(h2:Q->j L Z):sIf tc I j L Z:=h _ λb q=>⟨λ_=>h1,λhb=>h2 (q hb)⟩
def C6(b:Bool):∃k:Str,(k = "list"\/k = "tree")/\atI [dv (D.str "list"),dv (D.str "tree")] (if b=true then 1 else 0)=q_ (.str k):=by
 cases b
 ·exact⟨"list",.inl rfl,by rw[if_neg (by decide),jg]⟩
 exact⟨"tree",.inr rfl,by rw[if_pos rfl,jf]⟩
def ne3:(3:Int)≠0:=by decide
def ne8:(8:Int)≠0:=by decide
def Xu{t:TDs}{tk:TD}{L:DE}{U:EV->Prop}(rs:List EV)(k:Int)(r:EV)(h:atI rs k=some r)(j:∀ N:List EV->Prop,N rs->t L N)(I:Nat.ble rs.length 1000=true)(q:∀ N:EV->Prop,N (dv (.int k))->tk L N)(p:U r):A6 t tk L U:=j _ ⟨I,q _ (by dsimp only [dv];rw[h];exact p)⟩
def S4{n:Nat}(T:Tops mg)(Z:FD P w K mg base 5 "_law_e" pD (tE 3))(f1:FD P w K mg base 1 "_law_next" pK Zd)(f2:FD P w K mg base 1 "_law_flat" pG Yc)(e9:FD P w K mg base 6 "_law_e" pD (tE 4))(b3:FD P w K mg base (2*n+7) "_law_body" pH (On n))(e8:FD P w K mg base (2*n+8) "_law_open" pQ (Ax n))(F:Fm K mg "_law_body" 60):FD P w K mg base (2*n+9) "_law_body" pH (On (n+1)):=by
 have S:zt ["_law_feed","_law_heads","_law_there","_law_names","_law_shape","_law_deep","_law_cell","_law_way","_law_made","_law_kind","_law_body_here","_law_some"] pH (zh (top 60)):=by walk_at "f"
 walk_at "b";refine⟨_,(zd (zj (zm 6 S.nd (zi f1 hr.d (z9 (za 0) zb))))
   (zd (zj (zm 7 S.nd (yj (za 6) zc)))
   (zd (zj (yi (EW.et (qw (cj (za 7) zc) (qw (cj (za 5) zc) (sw (cj (Q7 0) zc))))) (zd (zj (zm 8 S.nd (zi e9 hr.d (z9 (za 0) (z9 (za 1) (z9 (za 2) (z9 (za 4) (z9 zc zb))))))))
    (zk (zw (yf (z9 (yf (z9 zg (z9 (zn hu (za 8) zc) zb))) (z9 (yb (yb (zy (z9 zg (z9 zg zb))) (zn hu (za 8) zc)) (zy (z9 zg zb))) zb)))))) ya))
   (zd (zj (Ra 0 (uk (Q7 0) zc)))
   (zd (zj (yi (cj (za 7) zc) (zd (zj (zm 9 S.nd (uf (z9 zg (z9 zg (z9 zg zb))) (yj (v5 (za 6) zc) zc))))
    (zd (zj (zm 8 S.nd (zi Z hr.d (z9 (za 0) (z9 (za 1) (z9 (za 2) (z9 (za 9) (z9 zc zb))))))))
    (zd (zj (zm 10 S.nd (zi b3 hr.d (z9 (za 0) (z9 (za 1) (z9 (yb (za 2) (zy (z9 (yf (z9 (zn hu (za 3) zc) (z9 (za 9) zb))) zb))) (z9 (xc (za 3) (xi zc) wy) (z9 (za 4) (z9 (uk (za 5) zc) zb)))))))))
    (zk (zw (yf (z9 (yf (z9 zg (z9 (zn hu (za 3) zc) (z9 (zn hu (za 8) zc) (z9 (zn hu (za 10) zc) zb))))) (z9 (yb (yb (yb (zy (z9 zg (z9 zg (z9 (zn hu (za 3) zc) zb)))) (zn hu (za 8) zc)) (zn hu (za 10) zc)) (zy (z9 zg zb))) zb)))))))) ya))
   (zd (zj (zm 9 S.nd (uf (z9 zg (z9 zg zb)) (Xq T.int (z9 (z5x (za 7) zc) zb)))))
   (zd (zj (yn (T:=["_law_name_here","_law_one"]) (F:=["_law_kind"]) (js:=[9]) 11 S.nd (yp (za 2)) (cs1 (by walk_at "c")) (.cons rfl .nil) (by decide) (by walk_at "t") (u3 (ym yc (xg yc yw) zx (ym yc yw zx u5))) (w6 0 1) (λcl C fp s H=>(ck (xh hu (za 1) (za 2)))) (λcl C fp s H=>(za 0))))
   (zd (zj (yi (EW.et (ci (cj (za 7) zc) (jb (qx hu (za 11) (zy zb))))) (zk (zw (zi e8 hr.d (z9 (za 0) (z9 (za 1) (z9 (za 2) (z9 (za 3) (z9 (za 4) (z9 (za 5) (z9 (zn hu (za 11) (yj (v5 (za 6) zc) (w5 T.len (z9 (za 11) zb)))) (z9 (za 9) zb))))))))))) ya))
   (zd (zj (zm 8 S.nd (zy (z9 (zi Z hr.d (z9 (za 0) (z9 (za 1) (z9 (za 2) (z9 zg (z9 zc zb)))))) (z9 (zi Z hr.d (z9 (za 0) (z9 (za 1) (z9 (za 2) (z9 zg (z9 zc zb)))))) zb)))))
   (zd (zj (qi 8 (zi b3 hr.d (z9 (za 0) (z9 (za 1) (z9 (za 2) (z9 (za 3) (z9 (za 4) (z9 (uk (za 5) zc) zb)))))))))
   (zd (zj (qi 8 (zi b3 hr.d (z9 (za 0) (z9 (za 1) (z9 (za 2) (z9 (za 3) (z9 (za 4) (z9 (uk (za 5) zc) zb)))))))))
   (zk (tj 8 (zw (yf (z9 (x5 T.tuple (z9 (yb (zy (z9 zg zb)) (cu (T:=["_law_one","_law_more"]) (F:=[]) (js:=[]) (yp (za 8)) (cs1 (by walk_at "c")) .nil (by decide) (by walk_at "t") (u3 (ym yc (xg yc yw) zx (ym yc yw zx u5))) (w6 0 1) yG (λcl C fp s H=>(za 0)))) zb)) (z9 (yb (yb (zy (z9 zg (z9 zg zb))) (zi f2 hr.d (z9 (za 8) zb))) (zy (z9 zg zb))) zb))))))))))))))))),?_⟩
 obtain⟨a0,b0,c0,d0,e0,f0,rfl,rfl,hs,I,zs,s,rfl,oh,rfl,ob,rfl,rfl,a8,rfl,i8,h⟩:=hT;have f5:=ob.nz;have b9:=ob.lo;have f4:=ob.hi;have i4:=ob.rl;have ot:=ob.ot;refine ze (λL=>∃c:Int,L=[q_ (.fd 0),q_ (.lst (hs.map hdD)),q_ (.lst (I.map prD)),q_ (.lst (zs.map D.str)),q_ (.str s),q_ (.int n),q_ (.int c),none,none,none,none,none]) ?_ ?_
 ·exact⟨rfl,rfl,λc=>⟨trivial,c,rfl⟩⟩
 rintro _ ⟨c,rfl⟩;refine ze (λL=>L=[q_ (.fd 0),q_ (.lst (hs.map hdD)),q_ (.lst (I.map prD)),q_ (.lst (zs.map D.str)),q_ (.str s),q_ (.int n),q_ (.int c),q_ (.int (c.fmod 8)),none,none,none,none]) ⟨ne8,trivial,rfl⟩ ?_;rintro _ rfl;refine ze (λL=>∃m:Nat,n=m+1/\L=[q_ (.fd 0),q_ (.lst (hs.map hdD)),q_ (.lst (I.map prD)),q_ (.lst (zs.map D.str)),q_ (.str s),q_ (.int n),q_ (.int c),q_ (.int (c.fmod 8)),none,none,none,none]) ?_ ?_
 ·refine N4 (Q:=1<=n) (λN a5=>?_) ?_ (λq=>?_)
  ·walk_at "dl";have t:N true:=a5 true λz=>(nomatch z);exact⟨λ_=>t,λ_=>⟨λ_=>t,λhn=>λc1=>a5 _ λ_=>by omega⟩⟩
  ·refine ze (λL=>∃e k,Ex1 4 e k/\Sh1 (hfs hs) I 4 e (some s)/\L=[q_ (.fd 0),q_ (.lst (hs.map hdD)),q_ (.lst (I.map prD)),q_ (.lst (zs.map D.str)),q_ (.str s),q_ (.int n),q_ (.int c),q_ (.int (c.fmod 8)),q_ (rowD (e,k)),none,none,none]) ?_ ?_
   ·exact⟨rfl,_,_,_,_,_,rfl,rfl,hs,I,s,rfl,oh,rfl,ot,rfl,a8,rfl,by decide,λe k a2 a4=>⟨trivial,e,k,a2,a4,rfl⟩⟩
   rintro _ ⟨e,k,a2,a4,rfl⟩;have ef:=xy 4 e k a2;have lk:=v8 k;have l4:=LE4;have a1:=h (.tup [.str "give",e]) (bk ["give"] [k]) (.inl ⟨e,k,a2,rfl,rfl⟩) (Du a4);have pu:=xk (bk ["give"] [k]);rw[bk1]at a1 pu;unfold rowD at a1 ⊢;simp only[zMa,List.map_cons,List.map_nil,List.cons_append,List.nil_append]at a1 pu;walk_at "dl";exact⟨ef.2.2,by rw[xq];omega,by rw[xq];omega,pu.2.2,a1⟩
  exact⟨n-1,by omega,rfl⟩
 rintro _ ⟨m,rfl,rfl⟩;refine z_g [q_ (.fd 0),q_ (.lst (hs.map hdD)),q_ (.lst (I.map prD)),q_ (.lst (zs.map D.str)),q_ (.str s),q_ (.int (m+1:Nat)),q_ (.int c),q_ (.int (c.fmod 8)),none,none,none,none] ?_ ?_
 ·walk_at "dl"
 refine z_g [q_ (.fd 0),q_ (.lst (hs.map hdD)),q_ (.lst (I.map prD)),q_ (.lst (zs.map D.str)),q_ (.str s),q_ (.int (m+1:Nat)),q_ (.int c),q_ (.int (c.fmod 8)),none,none,none,none] ?_ ?_
 ·refine Dq (decide (c.fmod 8<4)) (λN a5=>?_) (λ_=>?_) (λ_=>?_)
  ·exact a5
  ·obtain⟨k,e3,ek⟩:=z1h (c.fdiv 8);refine z_g [q_ (.fd 0),q_ (.lst (hs.map hdD)),q_ (.lst (I.map prD)),q_ (.lst (zs.map D.str)),q_ (.str s),q_ (.int (m+1:Nat)),q_ (.int c),q_ (.int (c.fmod 8)),none,q_ (.str k),none,none] ?_ ?_
   ·exact Xu _ _ _ ek (λN h=>h) rfl (λN h=>⟨fdl,ne3,h⟩) ⟨trivial,rfl⟩
   refine ze (λL=>∃e q,Ex1 4 e q/\Sh1 (hfs hs) I 4 e (some k)/\L=[q_ (.fd 0),q_ (.lst (hs.map hdD)),q_ (.lst (I.map prD)),q_ (.lst (zs.map D.str)),q_ (.str s),q_ (.int (m+1:Nat)),q_ (.int c),q_ (.int (c.fmod 8)),q_ (rowD (e,q)),q_ (.str k),none,none]) ?_ ?_
   ·exact⟨rfl,_,_,_,_,_,rfl,rfl,hs,I,k,rfl,oh,rfl,ot,rfl,e3,rfl,by decide,λe k a2 a4=>⟨trivial,e,k,Mz a2,Oy a4,rfl⟩⟩
   rintro _ ⟨e,q,a2,a4,rfl⟩;obtain⟨f6,fr⟩:=ob.more (ks:=[k]) (by simp) (λj hj=>by rw[List.mem_singleton.mp hj];exact e3)
   obtain⟨z0,zr,rfl⟩:∃z0 zr,zs=z0::zr:=by
    cases zs with
    |nil=>simp at b9
    |cons a b=>exact⟨a,b,rfl⟩
   have gz:=f5 z0 zao;rw[zLc]at b9 f4;refine ze (λL=>∃b1 c1,Bo (m+1) b1 c1/\Rb (hfs hs) s 4 (m+1) (I++[(z0,k)]) b1/\L=[q_ (.fd 0),q_ (.lst (hs.map hdD)),q_ (.lst (I.map prD)),q_ (.lst ((z0::zr).map D.str)),q_ (.str s),q_ (.int (m+1:Nat)),q_ (.int c),q_ (.int (c.fmod 8)),q_ (rowD (e,q)),q_ (.str k),q_ (rowD (b1,c1)),none]) ?_ ?_
   ·walk_at "dl";refine⟨by rw[xq];omega,_,_,_,_,_,_,rfl,rfl,hs,I++[(z0,k)],zr,s,rfl,oh,by rw[zMa];rfl,by have:=f6;rw[List.zip_cons_cons,List.zip_nil_right]at this;exact this,congrArg D.lst (cutD_drop (D.str z0::zr.map D.str) 1),rfl,a8,by rw[show((m+1:Nat):Int)-1=(m:Int) by omega],by omega,λb c a7 a6=>⟨trivial,b,c,a7,a6,rfl⟩⟩
   rintro _ ⟨b1,c1,a9,b4,rfl⟩;have ef:=xy 4 e q a2;have bf:=wv _ _ _ a9;have lk:=v8 q;have f8:=v8 c1;have l4:=LE4;have f3:=T9 (n:=m+1) (by omega)
   have a1:=h (.tup [.str "let",.str z0,e,b1]) (bk ["let",z0] [q,c1]) (.inr (.inl ⟨z0,e,q,b1,c1,gz,a2,a9,rfl,rfl⟩)) (z0y a4 (by have:=fr;rw[List.zip_cons_cons,List.zip_nil_right]at this;exact this) b4)
   have pu:=xk (bk ["let",z0] [q,c1]);rw[bk2]at a1 pu;unfold rowD at a1 ⊢;simp only[zMa,List.map_cons,List.map_nil,List.cons_append,List.nil_append]at a1 pu;walk_at "dl";exact⟨⟨ef.2.2,bf.2.2⟩,by rw[xq];omega,by rw[xq];omega,by rw[zLa,zLm,zLm,xq];omega,pu.2.2.2,a1⟩
  exact rfl
 refine ze (λL=>∃k:Str,(k = "list"\/k = "tree")/\L=[q_ (.fd 0),q_ (.lst (hs.map hdD)),q_ (.lst (I.map prD)),q_ (.lst (zs.map D.str)),q_ (.str s),q_ (.int (m+1:Nat)),q_ (.int c),q_ (.int (c.fmod 8)),none,q_ (.str k),none,none]) ?_ ?_
 ·obtain⟨k,hk,ek⟩:=C6 (decide (5<c.fmod 8));exact Xu _ _ _ ek (λN h=>h) rfl (λN h=>h) ⟨trivial,k,hk,rfl⟩
 rintro _ ⟨k,hk,rfl⟩;refine ze (λL=>∃ws:List Str,(∀w∈ws,IsNm w/\v7 I w=some k)/\L=[q_ (.fd 0),q_ (.lst (hs.map hdD)),q_ (.lst (I.map prD)),q_ (.lst (zs.map D.str)),q_ (.str s),q_ (.int (m+1:Nat)),q_ (.int c),q_ (.int (c.fmod 8)),none,q_ (.str k),none,Q_ (.lst (ws.map D.str))]) ?_ ?_
 ·refine y9 (I.map prD) (λN a5=>?_) (λi fs=>WdT I k fs) (by rw[zLm];omega) Gn ?_ ?_
  ·exact⟨trivial,a5⟩
  ·rintro i e fs he i9 wd;rw[zai]at he;obtain⟨p,hp,rfl⟩:=zar.mp he;have gp:=ot.nm p (zan hp);walk_at "p";simp only[prD];walk_at "dl";exact⟨λq=>Gp wd ⟨gp.1,Yl ot.nd (by have:=zan hp;rw[<- q];exact this)⟩,λ_=>wd⟩
  rintro fs ⟨ws,rfl,hz⟩;exact⟨trivial,ws,hz,rfl⟩
 rintro _ ⟨ws,g0,rfl⟩;refine z_g [q_ (.fd 0),q_ (.lst (hs.map hdD)),q_ (.lst (I.map prD)),q_ (.lst (zs.map D.str)),q_ (.str s),q_ (.int (m+1:Nat)),q_ (.int c),q_ (.int (c.fmod 8)),none,q_ (.str k),none,Q_ (.lst (ws.map D.str))] ?_ ?_
 ·walk_at "dl";refine λ_=>⟨okW ws,ok0,λh5=>?_⟩;have c3:ws≠[]:=λz=>by
   subst z;exact absurd h5 (by decide)
  have h6:¬ (ws.length:Int)=0:=λz=>c3 (List.eq_nil_of_length_eq_zero (by omega))
  obtain⟨w,gw,ew⟩:=Nh g0 c3 (c.fdiv 8);rw[bj]at ew;rw[ew];exact⟨fdl,h6,_,_,_,_,_,_,_,_,rfl,rfl,hs,I,zs,s,w,k,rfl,oh,rfl,ob,rfl,rfl,a8,rfl,by omega,by omega,rfl,gw,rfl,hk,λb c a7 a6=>⟨trivial,h b c a7 a6⟩⟩
 refine ze (λL=>∃e1 k1 e2 k2,Ex1 4 e1 k1/\Ex1 4 e2 k2/\Sh1 (hfs hs) I 4 e1 (some ("num" : Str))/\Sh1 (hfs hs) I 4 e2 (some ("num" : Str))/\L=[q_ (.fd 0),q_ (.lst (hs.map hdD)),q_ (.lst (I.map prD)),q_ (.lst (zs.map D.str)),q_ (.str s),q_ (.int (m+1:Nat)),q_ (.int c),q_ (.int (c.fmod 8)),Q_ (.lst [rowD (e1,k1),rowD (e2,k2)]),q_ (.str k),none,Q_ (.lst (ws.map D.str))]) ?_ ?_
 ·exact⟨rfl,_,_,_,_,_,rfl,rfl,hs,I,_,rfl,oh,rfl,ot,rfl,.inl rfl,rfl,by decide,λe k a2 a4=>⟨rfl,_,_,_,_,_,rfl,rfl,hs,I,_,rfl,oh,rfl,ot,rfl,.inl rfl,rfl,by decide,λe' k' e4 d3=>⟨rfl,rfl,trivial,e,k,e',k',Mz a2,Mz e4,Oy a4,Oy d3,rfl⟩⟩⟩
 rintro _ ⟨e1,k1,e2,k2,e6,e5,h3,g7,rfl⟩;refine ze (λL=>∃b1 c1,Bo (m+1) b1 c1/\Rb (hfs hs) s 4 (m+1) I b1/\L=[q_ (.fd 0),q_ (.lst (hs.map hdD)),q_ (.lst (I.map prD)),q_ (.lst (zs.map D.str)),q_ (.str s),q_ (.int (m+1:Nat)),q_ (.int c),q_ (.int (c.fmod 8)),Q_ (.lst [rowD (e1,k1),rowD (e2,k2),rowD (b1,c1)]),q_ (.str k),none,Q_ (.lst (ws.map D.str))]) ?_ ?_
 ·refine Yj rfl ?_;exact⟨rfl,_,_,_,_,_,_,rfl,rfl,hs,I,zs,s,rfl,oh,rfl,ob.down,rfl,rfl,a8,congrArg D.int (show((m+1:Nat):Int)-1=(m:Int) by omega),by omega,λb c a7 a6=>⟨trivial,Nat.le_of_ble_eq_true rfl,b,c,a7,a6,rfl⟩⟩
 rintro _ ⟨b1,c1,a9,b4,rfl⟩;refine ze (λL=>∃b2 c2,Bo (m+1) b2 c2/\Rb (hfs hs) s 4 (m+1) I b2/\L=[q_ (.fd 0),q_ (.lst (hs.map hdD)),q_ (.lst (I.map prD)),q_ (.lst (zs.map D.str)),q_ (.str s),q_ (.int (m+1:Nat)),q_ (.int c),q_ (.int (c.fmod 8)),Q_ (.lst [rowD (e1,k1),rowD (e2,k2),rowD (b1,c1),rowD (b2,c2)]),q_ (.str k),none,Q_ (.lst (ws.map D.str))]) ?_ ?_
 ·refine Yj rfl ?_;exact⟨rfl,_,_,_,_,_,_,rfl,rfl,hs,I,zs,s,rfl,oh,rfl,ob.down,rfl,rfl,a8,congrArg D.int (show((m+1:Nat):Int)-1=(m:Int) by omega),by omega,λb c a7 a6=>⟨trivial,Nat.le_of_ble_eq_true rfl,b,c,a7,a6,rfl⟩⟩
 rintro _ ⟨b2,c2,e7,h4,rfl⟩;have h8:=xy 4 _ _ e6;have h7:=xy 4 _ _ e5;have i3:=wv _ _ _ a9;have i0:=wv _ _ _ e7;have f8:=v8 k1;have i7:=v8 k2;have i6:=v8 c1;have i5:=v8 c2;have l4:=LE4;have f3:=T9 (n:=m+1) (by omega)
 have fl:(wds [(e1,k1),(e2,k2),(b1,c1),(b2,c2)]).length=k1.length+(k2.length+(c1.length+c2.length)):=by simp[wds]
 have a1:=h (.tup [.str "less",e1,e2,b1,b2]) (bk ["less"] [k1,k2,c1,c2]) (.inr (.inr (.inl ⟨e1,k1,e2,k2,b1,c1,b2,c2,e6,e5,a9,e7,rfl,rfl⟩))) (Dt h3 g7 b4 h4);have pu:=xk (bk ["less"] [k1,k2,c1,c2]);unfold bk at a1 pu;unfold rowD at a1;rw[zMa,zMa]at a1 pu;walk_at "dl";refine k6 ([(e1,k1),(e2,k2),(b1,c1),(b2,c2)].map rowD) (λN a5=>?_) fstD (Nat.le_of_ble_eq_true rfl) (λd hd=>?_) ?_
 ·exact⟨trivial,a5⟩
 ·obtain⟨r,_,rfl⟩:=zah.mp hd;unfold rowD;walk_at "p";walk_at "dl";rfl
 rw[qt];walk_at "dl";exact⟨by rw[xq];omega,[(e1,k1),(e2,k2),(b1,c1),(b2,c2)],rfl,by omega,by simp only[zLm,zLc,zLn];rw[xq];omega,by simp only[zLa,zLm,zLc,zLn];rw[xq];omega,⟨⟨h8.2.2,h7.2.2,i3.2.2,i0.2.2⟩,pu⟩,a1⟩
theorem S5(T:Tops mg)(Z:FD P w K mg base 1 "_law_next" pK Zd)(I:FD P w K mg base 1 "_law_flat" pG Yc)(q:FD P w K mg base 6 "_law_e" pD (tE 4))(j:FD P w K mg base 5 "_law_e" pD (tE 3))(G:Fm K mg "_law_open" 59)(F:Fm K mg "_law_body" 60):∀n:Nat,FD P w K mg base (2*n+7) "_law_body" pH (On n)
 |0=>by
  have S:zt ["_law_feed","_law_heads","_law_there","_law_names","_law_shape","_law_deep","_law_cell","_law_way","_law_made","_law_kind","_law_body_here","_law_some"] pH (zh (top 60)):=by walk_at "f"
  obtain⟨f,fd,F,m⟩:=F;refine x6 F S (F.binds λ_ _ _ _ _ _ us hl=>(by obtain⟨_,_,_,_,_,_,rfl⟩:=z2k hl;rfl)) m λqZ A outer s H E ds U hr hl hT=>?_
  exact hT.elim
 |n+1=>S4 T j Z I q (S5 T Z I q j G F n) (Tw T (S5 T Z I q j G F n) G) F
inductive Pt where
 |w (z:Str)
 |b (ps:List Pt)
mutual
def pd:Pt->D
 |.w z=>.str z
 |.b ps=>.lst (pds ps)
def pds:List Pt->List D
 |[]=>[]
 |p::ps=>pd p::pds ps
end
mutual
def pw:Pt->List Str
 |.w z=>[z]
 |.b ps=>lp::(pws ps++[rp])
def pws:List Pt->List Str
 |[]=>[]
 |p::ps=>pw p++pws ps
end
mutual
def LR(H:Hp)(P:Addr->Prop):Pt->V->Prop
 |.w z,v=>v=.str z
 |.b ps,v=>∃a xs,v=.ref a/\H a=some (.lst xs)/\P a/\LRs H P ps xs
def LRs(H:Hp)(P:Addr->Prop):List Pt->List V->Prop
 |[],xs=>xs=[]
 |p::ps,xs=>∃v r,xs=v::r/\LR H P p v/\LRs H P ps r
end
mutual
theorem LR.hop{H H':Hp}{P j:Addr->Prop}(k:∀ b u,H b=some u->P b->H' b=some u/\j b):∀(p:Pt)(v:V),LR H P p v->LR H' j p v
 |.w _,_,h=>h
 |.b ps,v,h=>by
  obtain⟨a,xs,e,q,n,r⟩:=h;exact⟨a,xs,e,(k _ _ q n).1,(k _ _ q n).2,LRs.hop k ps xs r⟩
theorem LRs.hop{H H':Hp}{P j:Addr->Prop}(k:∀ b u,H b=some u->P b->H' b=some u/\j b):∀(ps:List Pt)(xs:List V),LRs H P ps xs->LRs H' j ps xs
 |[],_,h=>h
 |p::ps,xs,h=>by
  obtain⟨v,r,e,q,t⟩:=h;exact⟨v,r,e,LR.hop k p v q,LRs.hop k ps r t⟩
end
mutual
theorem LR.rep{K:W.Frag}{H:Hp}{P:Addr->Prop}:∀(p:Pt)(v:V),LR H P p v->RepN K H P (pd p) v
 |.w _,_,h=>h
 |.b ps,v,h=>by
  obtain⟨a,xs,e,q,n,r⟩:=h;exact⟨a,xs,e,q,n,LRs.rep ps xs r⟩
theorem LRs.rep{K:W.Frag}{H:Hp}{P:Addr->Prop}:∀(ps:List Pt)(xs:List V),LRs H P ps xs->xa K H P (pds ps) xs
 |[],_,h=>h
 |p::ps,xs,h=>by
  obtain⟨v,r,e,q,t⟩:=h;exact⟨v,r,e,LR.rep p v q,LRs.rep ps r t⟩
end
theorem LRs.snoc{H:Hp}{P:Addr->Prop}{p:Pt}{v:V}(q:LR H P p v):∀{ps:List Pt}{xs:List V},LRs H P ps xs->LRs H P (ps++[p]) (xs++[v])
 |[],_,h=>by cases h;exact⟨v,[],rfl,q,rfl⟩
 |p'::ps,xs,h=>by
  obtain⟨u,r,rfl,j,t⟩:=h;exact⟨u,r++[v],rfl,j,LRs.snoc q t⟩
def LRs.len{H:Hp}{P:Addr->Prop}:∀{ps:List Pt}{xs:List V},LRs H P ps xs->xs.length=ps.length
 |[],_,h=>by cases h;rfl
 |p::ps,xs,h=>by
  obtain⟨u,r,rfl,j,t⟩:=h;rw[zLc,zLc,LRs.len t]
def Stk(H:Hp)(P:Addr->Prop):List (Addr×List Pt)->Prop
 |[]=>True
 |(a,ps)::r=>(∃xs,H a=some (.lst xs)/\LRs H P ps xs)/\Stk H P r
theorem Stk.hop{H H':Hp}{P j:Addr->Prop}(k:∀ b u,H b=some u->P b->H' b=some u/\j b):∀{st:List (Addr×List Pt)},(∀b∈st.map Prod.fst,∀u,H b=some u->H' b=some u)->Stk H P st->Stk H' j st
 |[],_,_=>trivial
 |(a,ps)::r,g,⟨⟨xs,q,l⟩,t⟩=>⟨⟨xs,g a zao _ q,LRs.hop k _ _ l⟩,Stk.hop k (λb I=>g b (zal _ I)) t⟩
def Stk.at{H:Hp}{P:Addr->Prop}:∀{st:List (Addr×List Pt)},Stk H P st->∀a∈st.map Prod.fst,∃u,H a=some u
 |(a,ps)::r,⟨⟨xs,q,_⟩,t⟩,b,hb=>by
  rcases zam.mp hb with e|hb
  ·subst e;exact⟨_,q⟩
  exact Stk.at t b hb
def refs(st:List (Addr×List Pt)):List V:=(st.map λp=>V.ref p.1).reverse
structure NS(H_ H:Hp)(A:Addr)(st:List (Addr×List Pt)):Prop where
 same:Same H_ H
 fr:∀a∈A::st.map Prod.fst,H_ a=none
 nd:(A::st.map Prod.fst).Nodup
 lA:H A=some (.lst (refs st))
 sk:Stk H (λb=>H_ b=none/\b∉A::st.map Prod.fst) st
def uy{H_ H:Hp}{a:Addr}{o:HO}(s:Same H_ H)(h:H_ a=none):Same H_ (upd H a o):=λb u j=>by
 rw[zv (λe=>by subst e;rw[h]at j;cases j)]
 exact s b u j
def NS.opn{H_ H:Hp}{A:Addr}{st:List (Addr×List Pt)}(n:NS H_ H A st){p:Addr}(Z:H p=none):NS H_ (upd (upd H p (.lst [])) A (.lst (refs st++[.ref p]))) A ((p,[])::st):=by
 have pA:p≠A:=λe=>by subst e;rw[n.lA]at Z;cases Z
 have ps:p∉st.map Prod.fst:=λz=>by obtain⟨u,e⟩:=n.sk.at p z;rw[Z]at e;cases e
 have I:=n.same.free Z;have nd:=List.nodup_cons.mp n.nd;refine⟨uy (uy n.same I) (n.fr A zao),λa ha=>?_,?_,?_,⟨⟨[],by rw[zv pA];exact zu,rfl⟩,Stk.hop (λb u j q=>?_) (λb j u hu=>?_) n.sk⟩⟩
 ·rcases zam.mp ha with e|ha
  ·subst e;exact n.fr _ zao
  rcases zam.mp ha with e|ha
  ·rw[e];exact I
  exact n.fr a (zal _ ha)
 ·rw[List.nodup_cons];refine⟨λz=>?_,List.nodup_cons.mpr ⟨ps,nd.2⟩⟩;rcases zam.mp z with e|z
  ·exact pA e.symm
  exact nd.1 z
 ·rw[zu];unfold refs;rw[List.map_cons,List.reverse_cons]
 ·have bp:b≠p:=λe=>by subst e;rw[Z]at j;cases j
  have bA:b≠A:=λe=>q.2 (by rw[e];exact zao)
  refine⟨by rw[zv bA,zv bp];exact j,q.1,λz=>?_⟩
  rcases zam.mp z with e|z
  ·exact bA e
  rcases zam.mp z with e|z
  ·exact bp e
  exact q.2 (zal _ z)
 have bp:b≠p:=λe=>by subst e;exact ps j
 have bA:b≠A:=λe=>by subst e;exact nd.1 j
 rw[zv bA,zv bp];exact hu
def NS.add{H_ H:Hp}{A a:Addr}{ps:List Pt}{st:List (Addr×List Pt)}(n:NS H_ H A ((a,ps)::st))(z:Str):∃xs,H a=some (.lst xs)/\xs.length=ps.length/\NS H_ (upd H a (.lst (xs++[.str z]))) A ((a,ps++[.w z])::st):=by
 obtain⟨⟨xs,q,l⟩,t⟩:=n.sk;have nd:=List.nodup_cons.mp n.nd;have j:=List.nodup_cons.mp nd.2;have aA:A≠a:=λe=>nd.1 (by rw[e];exact zao)
 have k:∀b u,H b=some u->(H_ b=none/\b∉A::((a,ps)::st).map Prod.fst)->upd H a (.lst (xs++[.str z])) b=some u/\(H_ b=none/\b∉A::((a,ps++[.w z])::st).map Prod.fst):=λb u I g=>by
  have Z:b≠a:=λe=>g.2 (by rw[e];exact zal _ zao)
  exact⟨by rw[zv Z];exact I,g⟩
 exact⟨xs,q,l.len,uy n.same (n.fr a (zal _ zao)),n.fr,n.nd,by rw[zv aA];exact n.lA,⟨xs++[.str z],zu,LRs.snoc (p:=.w z) (v:=.str z) (by exact rfl) (LRs.hop k _ _ l)⟩,Stk.hop k (λb I u hu=>by rw[zv (λe=>by subst e;exact j.1 I)];exact hu) t⟩
def NS.cls{H_ H:Hp}{A a b:Addr}{ps j:List Pt}{st:List (Addr×List Pt)}(n:NS H_ H A ((a,ps)::(b,j)::st)):∃ys,upd H A (.lst (refs ((b,j)::st))) b=some (.lst ys)/\ys.length=j.length/\NS H_ (upd (upd H A (.lst (refs ((b,j)::st)))) b (.lst (ys++[.ref a]))) A ((b,j++[.b ps])::st):=by
 obtain⟨⟨xs,q,l⟩,⟨ys,q2,l2⟩,t⟩:=n.sk;have nd:=List.nodup_cons.mp n.nd;have I:=List.nodup_cons.mp nd.2;have a0:=List.nodup_cons.mp I.2;have hA:A≠a:=λe=>nd.1 (by rw[e];exact zao)
 have hB:A≠b:=λe=>nd.1 (by rw[e];exact zal _ zao)
 have a1:a≠b:=λe=>I.1 (by rw[e];exact zao)
 have k:∀c u,H c=some u->(H_ c=none/\c∉A::((a,ps)::(b,j)::st).map Prod.fst)->upd (upd H A (.lst (refs ((b,j)::st)))) b (.lst (ys++[.ref a])) c=some u/\(H_ c=none/\c∉A::((b,j++[.b ps])::st).map Prod.fst):=λc u Z g=>by
  have cA:c≠A:=λe=>g.2 (by rw[e];exact zao)
  have cb:c≠b:=λe=>g.2 (by rw[e];exact zal _ (zal _ zao))
  refine⟨by rw[zv cb,zv cA];exact Z,g.1,λz=>?_⟩
  rcases zam.mp z with e|z
  ·exact cA e
  exact g.2 (zal _ (zal _ z))
 have fa:H_ a=none:=n.fr a (zal _ zao);have fb:H_ b=none:=n.fr b (zal _ (zal _ zao));have la:LR (upd (upd H A (.lst (refs ((b,j)::st)))) b (.lst (ys++[.ref a]))) (λc=>H_ c=none/\c∉A::((b,j++[.b ps])::st).map Prod.fst) (.b ps) (.ref a):=⟨a,xs,rfl,by rw[zv a1,zv hA.symm];exact q,⟨fa,λz=>by
  rcases zam.mp z with e|z
  ·exact hA e.symm
  exact I.1 z⟩,LRs.hop k _ _ l⟩
 refine⟨ys,by rw[zv hB.symm];exact q2,l2.len,uy (uy n.same (n.fr A zao)) fb,λc Z=>?_,?_,by rw[zv hB,zu];rfl,⟨ys++[.ref a],zu,LRs.snoc la (LRs.hop k _ _ l2)⟩,Stk.hop k (λc Z u hu=>?_) t⟩
 ·rcases zam.mp Z with e|Z
  ·subst e;exact n.fr _ zao
  exact n.fr c (zal _ (zal _ Z))
 ·rw[List.nodup_cons];exact⟨λz=>nd.1 (zal _ z),I.2⟩
 have cA:c≠A:=λe=>by subst e;exact nd.1 (zal _ (zal _ Z))
 have cb:c≠b:=λe=>by subst e;exact a0.1 Z
 rw[zv cb,zv cA];exact hu
def tv:List (List Pt)->Str->Option (List (List Pt))
 |[],_=>none
 | ps::r,w=>if w=lp then some ([]::ps::r) else if w=rp then(match r with
  |[]=>none
  | qs::r'=>some ((qs++[.b ps])::r')) else some ((ps++[.w w])::r)
def Ou(ps:List Pt)(r:List (List Pt)):tv (ps::r) lp=some ([]::ps::r):=by simp[tv]
def Ot(ps j:List Pt)(r:List (List Pt)):tv (ps::j::r) rp=some ((j++[.b ps])::r):=by simp[tv,Jo.symm]
def Fe(ps:List Pt)(r:List (List Pt)){z:Str}(h1:z≠lp)(h2:z≠rp):tv (ps::r) z=some ((ps++[.w z])::r):=by simp[tv,h1,h2]
def runN:List (List Pt)->List Str->Option (List (List Pt))
 |st,[]=>some st
 |st,w::ws=>(tv st w).bind λj=>runN j ws
theorem Yk:∀(ws vs:List Str)(st:List (List Pt)),runN st (ws++vs)=(runN st ws).bind λj=>runN j vs
 |[],_,_=>rfl
 |w::ws,vs,st=>by
  show(tv st w).bind _=((tv st w).bind _).bind _;rw[Option.bind_assoc]
  congr 1
  funext j
  exact Yk ws vs j
mutual
def Pt.ok:Pt->Prop
 |.w z=>z≠lp/\z≠rp
 |.b ps=>Pt.oks ps
def Pt.oks:List Pt->Prop
 |[]=>True
 |p::ps=>p.ok/\Pt.oks ps
end
mutual
theorem z0t:∀(p:Pt),p.ok->∀(ps:List Pt)(r:List (List Pt)),runN (ps::r) (pw p)=some ((ps++[p])::r)
 |.w z,h,ps,r=>by
  show(tv (ps::r) z).bind _=_;rw[Fe ps r h.1 h.2];rfl
 |.b qs,h,ps,r=>by
  show(tv (ps::r) lp).bind _=_;rw[Ou];show runN ([]::ps::r) (pws qs++[rp])=_;rw[Yk,Uq qs h [] (ps::r)];show(tv (([]++qs)::ps::r) rp).bind _=_;rw[Ot];rfl
theorem Uq:∀(qs:List Pt),Pt.oks qs->∀(ps:List Pt)(r:List (List Pt)),runN (ps::r) (pws qs)=some ((ps++qs)::r)
 |[],_,ps,r=>by rw[List.append_nil];rfl
 |q::qs,h,ps,r=>by
  show runN (ps::r) (pw q++pws qs)=_;rw[Yk,z0t q h.1 ps r];show runN ((ps++[q])::r) (pws qs)=_;rw[Uq qs h.2,List.append_assoc];rfl
end
def Oh:FT:=g1 λd U=>∃(zs:List Str)(ps:List Pt),d=.lst (zs.map D.str)/\zs.length<=1000000/\runN [[]] zs=some [ps]/\U ⟨.new,.lst (pds ps)⟩
structure NW(H_:Hp)(a A:Addr)(zs:List Str)(ps:List Pt)(i:Nat)(σ:St)(H:Hp):Prop where
 sg:∃x y,σ=[some (.ref a),some (.ref A),x,y]
 ex:∃st,NS H_ H A st/\runN (st.map Prod.snd) (zs.drop i)=some [ps]/\st.length<=i+1/\∀p∈st,p.2.length<=i
def NS.start{H_:Hp}{p A:Addr}(hp:H_ p=none)(q:upd H_ p (.lst []) A=none):NS H_ (upd (upd H_ p (.lst [])) A (.lst [.ref p])) A [(p,[])]:=by
 have I:p≠A:=λe=>by subst e;rw[zu]at q;cases q
 have j:H_ A=none:=by rw[zv (Ne.symm I)]at q;exact q
 refine⟨uy (uy (Same.refl _) hp) j,λa Z=>?_,List.nodup_cons.mpr ⟨λz=>I (List.mem_singleton.mp z).symm,by simp⟩,zu,⟨[],by rw[zv I];exact zu,rfl⟩,trivial⟩
 rcases zam.mp Z with e|Z
 ·rw[e];exact j
 rw[List.mem_singleton.mp Z];exact hp
def Kz{n:Nat}(h:n<=1000002):n<sizeLine:=by rw[xq];omega
def Yp(st:List (Addr×List Pt)):(refs st).length=st.length:=by unfold refs;simp
def Yo(a:Addr)(ps:List Pt)(st:List (Addr×List Pt)):refs ((a,ps)::st)=refs st++[.ref a]:=by unfold refs;simp
def En(xs:List V)(v:V):atI (xs++[v]) (-1)=some v:=U9 xs v
def Mv(T:Tops mg)(F:Fm K mg "nested" 36):FD P w K mg base 1 "nested" ["words"] Oh:=by
 have S:zt ["words","around","word","inner"] ["words"] (zh (top 36)):=by walk_at "f"
 obtain⟨f,fd,F,m⟩:=F;refine⟨f,fd,F.ok S (λvs H Q E h=>?_) (λqZ A0 outer s H_ vs Q E hr h=>?_),F.binds λ_ _ _ _ _ _ us hl=>(by obtain⟨_,rfl⟩:=ve hl;rfl),F.kp,m⟩
 ·obtain⟨ds,U,hl,r,_⟩:=h;rw[r.length,hl]
 obtain⟨ds,U,hl,r,hT,kk⟩:=h;obtain⟨d,rfl,zs,ps,rfl,hz,a4,a5⟩:=vm hT;obtain⟨v,ws,rfl,⟨a,xs,rfl,ha,_,rx⟩,rfl⟩:=r;have ex:=fu rx;subst ex;refine⟨_,uz (Rk S.nd (i:=1) rfl (.inl rfl) (Wi (xw (Wi vh) vh)))
  (uz (Fo PassesOwn.never rfl (Ca (pv 0)) (zo (i:=2) S.nd rfl (.inl rfl)) (ub (Ut (qb z1y (pv 2) Nq rfl)
   (ub (kz (Uz PySem.F.plainAttrs_list PySem.F.slot_list_append PySem.F.type_list_append sv (pv 1) (xw (Wi vh) vh))))
   (ub (Ut (qb z5c (pv 2) Nq rfl)
    (ub (kz (Uz PySem.F.plainAttrs_list PySem.F.slot_list_append PySem.F.type_list_append sv (Wj c4 (pv 1) (Cb Ob sr) (by intro _ _;rfl)) (xw (pv 2) vh))))
    (ub (Ut (qb z1y (t6 ul rfl T.len PySem.boot_len (xw (pv 1) vh)) sr rfl) d5
     (uz (Rk S.nd (i:=3) rfl (.inl rfl) (z1q PySem.F.plainAttrs_list PySem.F.slot_list_pop PySem.F.type_list_pop z2h (pv 1)))
      (ub (kz (Uz PySem.F.plainAttrs_list PySem.F.slot_list_append PySem.F.type_list_append sv (Wj c4 (pv 1) (Cb Ob sr) (by intro _ _;rfl)) (xw (pv 3) vh))))))))))))
  (uz (Ut (qb Jh (t6 ul rfl T.len PySem.boot_len (xw (pv 1) vh)) sr rfl) d5 d4)
   (ub (Zq (Wj c4 (pv 1) sr (by intro _ _;rfl)))))),?_⟩
 have z0:0<=sizeLine:=Nat.zero_le _;refine⟨z0,λp hp=>⟨Nat.le_of_lt (Kz (by simp)),λA hA=>?_⟩⟩
 have n0:=NS.start hp hA;refine⟨.ref a,rfl,a,rfl,⟨_,SqL.of (n0.same _ _ ha)⟩,λi k σ H=>i+k=zs.length/\NW H_ a A zs ps i σ H,⟨zs.length,Nat.zero_add _,⟨none,none,rfl⟩,_,n0,a4,by simp,λq Z=>by rw[List.mem_singleton.mp Z];exact Nat.zero_le _⟩,λi k σ H hW=>?_⟩
 obtain⟨a6,⟨x0,y0,rfl⟩,st,n,j,hl1,a1⟩:=hW;have sq:SqL K H a (zs.map V.str):=SqL.of (n.same _ _ ha);rcases Nat.lt_or_ge i zs.length with hi|hi
 ·right
  have hd:zs.drop i=zs[i]::zs.drop (i+1):=List.drop_eq_getElem_cons hi;rw[hd]at j;refine⟨⟨_,.str zs[i],sq,by rw[zai,zaf hi];rfl⟩,λa2 H'=>NW H_ a A zs ps (i+1) a2 H',λa2 H' q=>⟨k-1,by omega,by omega,q⟩,λx H' hy=>?_⟩
  obtain⟨rfl,hx⟩:=hy;have ex:=hx _ sq;rw[zai,zaf hi]at ex;have ex:V.str zs[i]=x:=Option.some.inj ex;subst ex;generalize zs[i]=z at *;cases st with
  |nil=>cases j
  |cons t st =>
   obtain⟨ta,I⟩:=t;rw[zLc]at hl1;refine⟨_,rfl,rfl,_,rfl,ite2 (λc=>?_) (λc=>?_)⟩
   ·have c:z=lp:=by have:=of_decide_eq_true c;exact V.str.inj this
    subst c;have a0:runN (((I::st.map Prod.snd).length,()).1 |> λ_=>([]:List Pt)::I::st.map Prod.snd) (zs.drop (i+1))=some [ps]:=by
     have e:(tv (I::st.map Prod.snd) lp).bind _=_:=j;rw[Ou]at e;exact e
    refine⟨_,rfl,.inl ⟨rfl,_,SqL.of n.lA⟩,z0,λp hp=>⟨A,_,_,rfl,rfl,?_,?_,⟨_,_,rfl⟩,_,n.opn hp,a0,?_,?_⟩⟩
    ·have pA:A≠p:=λe=>by subst e;rw[n.lA]at hp;cases hp
     rw[zv pA];exact n.lA
    ·rw[Yp];exact Kz (by rw[zLc];omega)
    ·rw[zLc,zLc];omega
    intro q Z;rcases zam.mp Z with e|Z
    ·rw[e];exact Nat.zero_le _
    exact Nat.le_succ_of_le (a1 q Z)
   have c:z≠lp:=λe=>c (by rw[e];exact decide_eq_true rfl)
   refine⟨_,rfl,rfl,_,rfl,ite2 (λc2=>?_) (λc2=>?_)⟩
   ·have c2:z≠rp:=λe=>by rw[e]at c2;exact absurd c2 (by decide +kernel)
    have a0:runN ((I++[.w z])::st.map Prod.snd) (zs.drop (i+1))=some [ps]:=by
     have e:(tv (I::st.map Prod.snd) z).bind _=_:=j;rw[Fe _ _ c c2]at e;exact e
    obtain⟨ys,h1,h2,n2⟩:=n.add z;have ht:I.length<=i:=a1 _ zao;refine⟨_,rfl,1,rfl,A,_,-1,.ref ta,rfl,rfl,SqL.of n.lA,by rw[Yo];exact En _ _,.inl ⟨rfl,_,SqL.of h1⟩,_,rfl,ta,_,_,rfl,rfl,h1,by rw[h2];exact Kz (by omega),⟨_,_,rfl⟩,_,n2,a0,?_,?_⟩
    ·rw[zLc];omega
    intro q Z;rcases zam.mp Z with e|Z
    ·rw[e];show(I++[_]).length<=_;rw[zLa];exact Nat.succ_le_succ ht
    exact Nat.le_succ_of_le (a1 q (zal _ Z))
   have c2:z=rp:=by
    rcases Decidable.em (z=rp) with e|e
    ·exact e
    exact absurd (congrArg not (decide_eq_false (p:=V.str z=V.str ")") λy=>e (V.str.inj y))) c2
   subst c2;cases st with
   |nil =>
    have e:(tv [I] rp).bind _=_:=j;rw[show tv [I] rp=none by simp[tv,Jo.symm]]at e
    cases e
   |cons t2 st =>
    obtain⟨tb,tq⟩:=t2;rw[zLc]at hl1;have a0:runN ((tq++[.b I])::st.map Prod.snd) (zs.drop (i+1))=some [ps]:=by
     have e:(tv (I::tq::st.map Prod.snd) rp).bind _=_:=j;rw[Ot]at e;exact e
    obtain⟨ys,h1,h2,n2⟩:=n.cls;have ht:tq.length<=i:=a1 _ (zal _ zao);have e1:refs ((ta,I)::(tb,tq)::st)=refs ((tb,tq)::st)++[.ref ta]:=Yo _ _ _;have nl:=n.lA;rw[e1]at nl;refine⟨_,rfl,A,_,rfl,.inl (SqL.of nl),rfl,_,rfl,ite2 (λc3=>?_) (λc3=>?_)⟩
    ·have:=V.int.inj (of_decide_eq_true c3);rw[zLa,Yp,zLc]at this;simp at this;omega
    refine⟨_,rfl,.inl ⟨rfl,_,SqL.of nl⟩,A,_,.ref ta,rfl,rfl,nl,by simp,?_⟩
    rw[List.dropLast_concat];refine⟨_,rfl,1,rfl,A,_,-1,.ref tb,rfl,rfl,SqL.of zu,by rw[Yo];exact En _ _,.inl ⟨rfl,_,SqL.of h1⟩,_,rfl,tb,_,_,rfl,rfl,h1,by rw[h2];exact Kz (by omega),⟨_,_,rfl⟩,_,n2,a0,?_,?_⟩
    ·rw[zLc];omega
    intro q Z;rcases zam.mp Z with e|Z
    ·rw[e];show(tq++[_]).length<=_;rw[zLa];exact Nat.succ_le_succ ht
    exact Nat.le_succ_of_le (a1 q (zal _ (zal _ Z)))
 left
 rw[List.drop_eq_nil_of_le hi]at j;have hs:st.map Prod.snd=[ps]:=Option.some.inj j;refine⟨⟨_,sq,by rw[zLm];exact hi⟩,?_⟩
 match st,hs with
 |[(ta,I)],hs =>
  have e:I=ps:=(List.cons.inj hs).1;subst e;refine⟨_,rfl,A,_,rfl,.inl (SqL.of n.lA),_,_,rfl,rfl,_,rfl,ite2 (λc3=>absurd (of_decide_eq_true c3) (by rw[Yp];exact Int.lt_irrefl 1)) (λ_=>?_)⟩
  obtain⟨⟨xs,q,l⟩,_⟩:=n.sk;refine⟨_,rfl,A,_,0,.ref ta,rfl,rfl,SqL.of n.lA,rfl,kk _ ⟨.new,.lst (pds I)⟩ H n.same ?_ trivial a5⟩;exact⟨ta,xs,rfl,q,⟨by simp,n.fr ta (zal _ zao)⟩,xa.to (Same.refl _) (λc g=>⟨by simp,g.1⟩) _ _ (LRs.rep _ _ l)⟩
theorem Nw:∀{n:Nat}{d:D},okD n d->okD (n+1) d
 |0,d,h=>by
  cases d with
  |non=>trivial
  |bl=>trivial
  |int=>trivial
  |str=>trivial
  |_=>exact h.elim
 |n+1,d,h=>by
  cases d with
  |non=>trivial
  |bl=>trivial
  |int=>trivial
  |str=>trivial
  |tup ds=>exact λx j=>Nw (h x j)
  |lst ds=>exact λx j=>Nw (h x j)
  |_=>exact h.elim
def d6{n m:Nat}{d:D}(hl:n<=m)(h:okD n d):okD m d:=by
 induction hl with
 |refl=>exact h
 |step _ ih=>exact Nw ih
def Kk:List D->Prop:=λds=>∃ps,ds=[.lst ps]
def Km:List D->Prop:=λds=>∃ps:List D,ds=[.lst ps,.int ps.length]
def qa:FT:=g1 λd U=>∃(z:Str)(ps:List D),d=.lst (.str z::ps)/\okD 40 d/\U (dv (.str z))
def kh:FT:=g21 λd k U=>∃zs:List Str,d=.lst (zs.map D.str)/\k=.int zs.length/\(∀z∈zs,IsNm z)/\zs.length<=100/\U (dv (.tup (zs.map D.str)))
def je:List (Str×Cst):=[("give",.int 2),("let",.int 4),("less",.int 5),("list",.int 5),("tree",.int 5)]
def vd:List (Str×Cst):=[("cons",.int 3),("node",.int 4),("add",.int 3),("sub",.int 3)]
def bg:List (Str×Cst):=[("list",.int 2),("tree",.int 3)]
def RdE:Nat->D->D->Prop
 |0,_,_=>False
 |n+1,p,e=>(∃z,p=.str z/\Wd z e)\/(∃f ps es,IsNm f/\w8 (RdE n) ps es/\ps.length<=4/\p=.lst (.str "call"::.str f::ps)/\e=.tup [.str "call",.str f,.tup es]) \/
  (∃o ps es,o∈ops/\w8 (RdE n) ps es/\ps.length=ar o/\p=.lst (.str o::ps)/\e=.tup (.str o::es))
def w8.at{α:Type}{R:D->α->Prop}{es:List D}{rs:List α}(h:w8 R es rs){e:D}(q:e∈es):∃r∈rs,R e r:=by
 obtain⟨i,hi⟩:=List.getElem?_of_mem q;have hl:=(zag.mp hi).1;have j:rs[i]?=some (rs[i]'(by rw[<- h.1];exact hl)):=zaf _
 exact⟨_,zan j,h.2 i e _ hi j⟩
def w8.at'{α:Type}{R:D->α->Prop}{es:List D}{rs:List α}(h:w8 R es rs){r:α}(hr:r∈rs):∃e∈es,R e r:=by
 obtain⟨i,hi⟩:=List.getElem?_of_mem hr;have hl:=(zag.mp hi).1;have j:es[i]?=some (es[i]'(by rw[h.1];exact hl)):=zaf _
 exact⟨_,zan j,h.2 i _ r j hi⟩
def Ez{z:Str}{e:D}(h:Wd z e):re e:=by
 rcases h with⟨_,rfl⟩|⟨_,rfl⟩|⟨i,_,_,rfl⟩
 ·exact⟨trivial,trivial⟩
 ·exact t3
 exact t3
theorem yz:∀{n:Nat}{p e:D},RdE n p e->okD (n+1) p/\re e
 |0,_,_,h=>h.elim
 |n+1,p,e,h=>by
  rcases h with⟨z,rfl,w⟩|⟨f,ps,es,_,I,_,rfl,rfl⟩|⟨o,ps,es,_,I,_,rfl,rfl⟩
  ·exact⟨by rw[xn];trivial,Ez w⟩
  ·refine⟨λx j=>?_,trivial,trivial,yu.mpr λd Z=>?_,trivial⟩
   ·rcases zam.mp j with rfl|j
    ·rw[xn];trivial
    rcases zam.mp j with rfl|j
    ·rw[xn];trivial
    obtain⟨r,_,q⟩:=I.at j;exact(yz q).1
   obtain⟨r,_,q⟩:=I.at' Z;exact(yz q).2
  refine⟨λx j=>?_,trivial,yu.mpr λd Z=>?_⟩
  ·rcases zam.mp j with rfl|j
   ·rw[xn];trivial
   obtain⟨r,_,q⟩:=I.at j;exact(yz q).1
  obtain⟨r,_,q⟩:=I.at' Z;exact(yz q).2
def Zc(n:Nat):FT:=g1 λp U=>∃e,n<=4/\RdE n p e/\U (dv e)
def Sv(n:Nat):FT:=g1 λd U=>∃ps es,d=.lst ps/\n<=4/\w8 (RdE n) ps es/\ps.length<=4/\U (dv (.tup es))
def Qt{R:D->D->Prop}{ps es:List D}{i:Nat}{p:D}(h:w8 R ps es)(j:ps[i]?=some p):∃e,R p e/\es.take (i+1)=es.take i++[e]:=by
 have hl:=(zag.mp j).1;have q:es[i]?=some (es[i]'(by rw[<- h.1];exact hl)):=zaf _
 exact⟨_,h.2 i p _ j q,by rw[List.take_succ,q];rfl⟩
def Xe(T:Tops mg)(F:Fm K mg "in_bracket" 37):FI P w K mg base 1 "in_bracket" ["part"] Kk:=by
 have S:zt ["part"] ["part"] (zh (top 37)):=by walk_at "f"
 obtain⟨f,fd,F,m⟩:=F;refine z3g F S (F.binds λ_ _ _ _ _ _ us hl=>(by obtain⟨_,rfl⟩:=ve hl;rfl)) m rfl rfl (by decide) (.inl rfl) (by decide) (by decide) λqZ A outer s H E ds hr hl hT=>?_
 have hu:=hr.units;refine⟨_,(wg (vn T.isinstance (z9 (za 0) (z9 (Vq T.str ug) zb)))),?_⟩;obtain⟨ps,rfl⟩:=hT;walk_at "dl";exact rfl
def Xf(T:Tops mg)(j:FI P w K mg base 1 "in_bracket" ["part"] Kk)(F:Fm K mg "bracket_of" 38):FI P w K mg base 2 "bracket_of" pE Km:=by
 have S:zt ["part","many"] pE (zh (top 38)):=by walk_at "f"
 obtain⟨f,fd,F,m⟩:=F;refine z3g F S (F.binds λ_ _ _ _ _ _ us hl=>(by obtain⟨_,_,rfl⟩:=Ww hl;rfl)) m rfl rfl (by decide) (.inl rfl) (by decide) (by decide) λqZ A outer s H E ds hr hl hT=>?_
 have hu:=hr.units;refine⟨_,(qx hu (w5 T.len (z9 (rc j (hr.e rfl) (z9 (za 0) zb)) zb)) (za 1)),?_⟩;obtain⟨ps,rfl⟩:=hT;walk_at "dl";exact⟨⟨ps,rfl⟩,_,rfl,rfl⟩
def Ph(T:Tops mg)(j:FI P w K mg base 1 "in_bracket" ["part"] Kk)(F:Fm K mg "head_of" 39):FD P w K mg base 2 "head_of" ["part"] qa:=by
 have S:zt ["part"] ["part"] (zh (top 39)):=by walk_at "f"
 walk_at "b";refine⟨_,(zd (yi (EW.et (qw (xh hu (rc j (hr.e rfl) (z9 (za 0) zb)) (zy zb)) (sw (wq (wg (vn T.isinstance (z9 (zn hu (za 0) zc) (z9 (Vq T.str ug) zb)))))))) (zk uj) ya)
   (zk (zw (zn hu (za 0) zc)))),?_⟩
 obtain⟨d,rfl,z,ps,rfl,ok,h⟩:=vm hT;walk_at "dl";exact⟨⟨_,rfl⟩,_,rfl,ok,ok0,λq=>absurd (show(false:Bool)=true from q) (by decide),λ_=>h⟩
def Xi(T:Tops mg)(j:FI P w K mg base 2 "bracket_of" pE Km)(q:FD P w K mg base 2 "read_name" ["part"] v6)(F:Fm K mg "read_names" 41):FD P w K mg base 3 "read_names" pE kh:=by
 have S:zt ["part","many"] pE (zh (top 41)):=by walk_at "f"
 walk_at "b";refine⟨_,(zk (zw (x5 T.tuple (z9 (yo (T:=["name"]) (F:=[]) (js:=[]) (yp (rc j (hr.e rfl) (z9 (za 0) (z9 (za 1) zb)))) (cs1 (by walk_at "c")) .nil (by decide) (by walk_at "t") zx (yk 0) yG (λcl C fp s H=>(zi q (hr.e rfl) (z9 (za 0) zb)))) zb)))),?_⟩
 obtain⟨d,k,rfl,zs,rfl,rfl,hz,hl1,h⟩:=hT;walk_at "dl";refine y9 (zs.map D.str) (λN I=>?_) (λi fs=>fs=(zs.take i).map D.str) (by rw[zLm];omega) rfl ?_ ?_
 ·walk_at "dl";exact⟨⟨_,by rw[zLm]⟩,_,rfl,trivial,I⟩
 ·rintro i e fs he a0 rfl;rw[zai]at he;obtain⟨p,Z,rfl⟩:=zar.mp he;have gp:=hz p (zan Z);walk_at "p";walk_at "dl";exact⟨p,rfl,by have:=gp.2.1;omega,gp,trivial,by rw[gq _ Z]⟩
 rintro fs rfl;rw[zLm,List.take_length];exact⟨xk _,h⟩
def Tv{n:Nat}(T:Tops mg)(j:FD P w K mg base (2*n+4) "read_expression" ["part"] (Zc n))(F:Fm K mg "read_all" 50):FD P w K mg base (2*n+5) "read_all" ["parts"] (Sv n):=by
 have S:zt ["parts"] ["parts"] (zh (top 50)):=by walk_at "f"
 walk_at "b";refine⟨_,(zk (zw (x5 T.tuple (z9 (yo (T:=["part"]) (F:=[]) (js:=[]) (yp (za 0)) (cs1 (by walk_at "c")) .nil (by decide) (by walk_at "t") zx (yk 0) yG (λcl C fp s H=>(zi j hr.d (z9 (za 0) zb)))) zb)))),?_⟩
 obtain⟨d,rfl,ps,es,rfl,hn,hp,a1,h⟩:=vm hT;walk_at "dl";refine y9 ps (λN I=>?_) (λi fs=>fs=es.take i) (by omega) rfl ?_ ?_
 ·walk_at "dl";exact I
 ·rintro i e fs he a0 rfl;obtain⟨r,Z,eq⟩:=Qt hp he;walk_at "p";walk_at "dl";exact⟨r,hn,Z,trivial,eq.symm⟩
 rintro fs rfl;rw[hp.1,List.take_length];exact⟨yu.mpr λd hd=>by
  obtain⟨r,_,q⟩:=hp.at' hd;exact(yz q).2,h⟩
def qv{n:Nat}(T:Tops mg)(a0:GT P w K mg "BODIES" je)(j:GT P w K mg "BRACKETS" vd)(Z:GT P w K mg "BRINGS" bg)(a1:FD P w K mg base 3 "read_word" ["word"] fh)(a2:FD P w K mg base 2 "head_of" ["part"] qa)(a4:FD P w K mg base 2 "read_name" ["part"] v6)(q:FD P w K mg base (2*n+5) "read_all" ["parts"] (Sv n))(F:Fm K mg "read_expression" 49):FD P w K mg base (2*n+6) "read_expression" ["part"] (Zc (n+1)):=by
 have S:zt ["part","kind"] ["part"] (zh (top 49)):=by walk_at "f"
 walk_at "b";refine⟨_,(zd (yi (wg (vn T.isinstance (z9 (za 0) (z9 (Vq T.str ug) zb)))) (zk (zw (zi a1 hr.d (z9 (za 0) zb)))) ya)
   (zd (zm 1 S.nd (zi a2 hr.d (z9 (za 0) zb)))
   (zd (yi (EW.et (ci (xh hu (za 1) zg) (jb (Hy (w5 T.len (z9 (za 0) zb)) zc)))) (zk (zw (vb (z9 (za 1) (z9 (zi a4 hr.d (z9 (zn hu (za 0) zc) zb)) (z9 (zi q hr.d (z9 (xc (za 0) (xi zc) wy) zb)) zb)))))) ya)
   (zd (yi (qx hu (Vt j (za 1)) (w5 T.len (z9 (za 0) zb))) (zk uj) ya)
   (zk (zw (yb (vb (z9 (za 1) zb)) (zi q hr.d (z9 (xc (za 0) (xi zc) wy) zb))))))))),?_⟩
 obtain⟨p,rfl,e,hn,he,h⟩:=vm hT;have ok:=d6 (m:=40) (by omega) (yz he).1
 have pu:=(yz he).2;rcases he with⟨z,rfl,w⟩|⟨f,ps,es,hf,I,a5,rfl,rfl⟩|⟨o,ps,es,ho,I,ha,rfl,rfl⟩
 ·walk_at "dl";exact⟨z,e,rfl,w,pu,h⟩
 ·walk_at "dl";exact⟨λb=>absurd b (by decide),λ_=>⟨"call",_,rfl,ok,trivial,by rw[xn];trivial,λ_=>⟨λ_=>⟨f,rfl,by have:=hf.2.1;omega,hf,ps,es,congrArg D.lst (cutD_drop (D.str "call"::D.str f::ps) 2),by omega,I,a5,rfl,⟨trivial,trivial,pu.2.2.1⟩,h⟩,λz=>absurd (by omega) z⟩,λz=>by rw[ue]at z;exact absurd z (by decide)⟩⟩
 have tb:(tabL vd o).elim .non cstD=.int ((ps.length+1:Nat):Int):=by
  rw[ha];unfold ops at ho;simp only[zam,List.not_mem_nil,or_false]at ho;rcases ho with rfl|rfl|rfl|rfl <;> rfl
 have nc:(o==("call" : Str))=false:=by
  unfold ops at ho;simp only[zam,List.not_mem_nil,or_false]at ho;rcases ho with rfl|rfl|rfl|rfl <;> decide
 have l2:2<=ps.length/\ps.length<=3:=by rw[ha];unfold ar;split <;> decide
 have ne:es≠[]:=λz=>by have:=I.1;rw[z,zLn]at this;omega
 have go:okD 40 ((tabL vd o).elim .non cstD)/\(eqD ((tabL vd o).elim .non cstD) (.int ((ps.length+1:Nat):Int))=false->False)/\eqD ((tabL vd o).elim .non cstD) (.int ((ps.length+1:Nat):Int))=true:=by
  rw[tb,Xp];exact⟨by rw[uc];trivial,λz=>by simp at z,by simp⟩
 walk_at "dl";exact⟨λb=>absurd b (by decide),λ_=>⟨o,_,rfl,ok,trivial,by rw[xn];trivial,λz=>by rw[ue,nc]at z;exact absurd z (by decide),λ_=>⟨go.1,go.2.1,λ_=>⟨rfl,ps,es,congrArg D.lst (cutD_drop (D.str o::ps) 1),by omega,I,by omega,List.cons_ne_nil _ _,ne,by rw[<- I.1,xq];show 1+_<=_;omega,pu,h⟩⟩⟩⟩
theorem Q1(T:Tops mg)(I:GT P w K mg "BODIES" je)(j:GT P w K mg "BRACKETS" vd)(q:GT P w K mg "BRINGS" bg)(F1:FD P w K mg base 3 "read_word" ["word"] fh)(F2:FD P w K mg base 2 "head_of" ["part"] qa)(F3:FD P w K mg base 2 "read_name" ["part"] v6)(Z:Fm K mg "read_all" 50)(F:Fm K mg "read_expression" 49):∀n:Nat,FD P w K mg base (2*n+4) "read_expression" ["part"] (Zc n)
 |0=>by
  have S:zt ["part","kind"] ["part"] (zh (top 49)):=by walk_at "f"
  obtain⟨f,fd,F,m⟩:=F;refine x6 F S (F.binds λ_ _ _ _ _ _ us hl=>(by obtain⟨_,rfl⟩:=ve hl;rfl)) m λqZ A outer s H E ds U hr hl hT=>?_
  obtain⟨e,rfl,c,hn,he,h⟩:=vm hT;exact he.elim
 |n+1=>qv T I j q F1 F2 F3 (Tv T (Q1 T I j q F1 F2 F3 Z F n) Z) F
def qr(ns:List Int):vg (ns.map D.int):=yu.mpr λd j=>by
 obtain⟨t,_,rfl⟩:=zah.mp j;trivial
def RdB:Nat->D->D->Prop
 |0,_,_=>False
 |n+1,p,b =>
  (∃q e,RdE 4 q e/\p=.lst [.str "give",q]/\b=.tup [.str "give",e]) \/
  (∃z q e q1 b1,IsNm z/\RdE 4 q e/\RdB n q1 b1/\p=.lst [.str "let",.str z,q,q1]/\b=.tup [.str "let",.str z,e,b1]) \/
  (∃q1 e1 q2 e2 p1 b1 p2 b2,RdE 4 q1 e1/\RdE 4 q2 e2/\RdB n p1 b1/\RdB n p2 b2/\p=.lst [.str "less",q1,q2,p1,p2]/\b=.tup [.str "less",e1,e2,b1,b2]) \/
  (∃(o z:Str)(p1 b1:D)(zs:List Str)(p2 b2:D),(o = "list"\/o = "tree")/\IsNm z/\RdB n p1 b1/\(∀w∈zs,IsNm w)/\(zs.length=if o = "tree" then 3 else 2)/\RdB n p2 b2/\p=.lst [.str o,.str z,p1,.lst (zs.map D.str),p2]/\b=.tup ([.str o,.str z,b1]++zs.map D.str++[b2]))
def Cs(n:Nat)(zs:List Str):okD (n+1) (.lst (zs.map D.str)):=λx j=>by
 obtain⟨z,_,rfl⟩:=zah.mp j;rw[xn];trivial
def yr(n:Nat)(z:Str):okD n (.str z):=by rw[xn];trivial
def yd{n:Nat}{x:D}{l:List D}(h:okD n x)(h2:okD (n+1) (.lst l)):okD (n+1) (.lst (x::l)):=λy j=>by
 rcases zam.mp j with rfl|j
 ·exact h
 exact h2 y j
def u0(n:Nat):okD (n+1) (.lst []):=λx j=>nomatch j
theorem yq:∀{n:Nat}{p b:D},RdB n p b->okD (n+6) p/\re b
 |0,_,_,h=>h.elim
 |n+1,p,b,h=>by
  have j:∀{q e:D},RdE 4 q e->okD (n+6) q:=λh=>d6 (by omega) (yz h).1
  rcases h with⟨q,e,h1,rfl,rfl⟩|⟨z,q,e,q1,b1,hz,h1,h2,rfl,rfl⟩|⟨q1,e1,q2,e2,p1,b1,p2,b2,h1,h2,h3,Z,rfl,rfl⟩|⟨o,z,p1,b1,zs,p2,b2,ho,hz,h1,a0,a1,h2,rfl,rfl⟩
  ·exact⟨yd (yr _ _) (yd (j h1) (u0 _)),trivial,(yz h1).2,trivial⟩
  ·exact⟨yd (yr _ _) (yd (yr _ _) (yd (j h1) (yd (yq h2).1 (u0 _)))),trivial,trivial,(yz h1).2,(yq h2).2,trivial⟩
  ·exact⟨yd (yr _ _) (yd (j h1) (yd (j h2) (yd (yq h3).1 (yd (yq Z).1 (u0 _))))),trivial,(yz h1).2,(yz h2).2,(yq h3).2,(yq Z).2,trivial⟩
  refine⟨yd (yr _ _) (yd (yr _ _) (yd (yq h1).1 (yd (Cs _ _) (yd (yq h2).1 (u0 _))))),yu.mpr λd I=>?_⟩;simp only[List.cons_append,List.nil_append,zam,zas,List.not_mem_nil,or_false]at I;rcases I with rfl|rfl|rfl|I|rfl
  ·trivial
  ·trivial
  ·exact(yq h1).2
  ·obtain⟨t,_,rfl⟩:=zah.mp I;trivial
  exact(yq h2).2
def eqt{a:Str}(h:eqD (.str a) (.str a)=false):False:=by rw[ue]at h;simp at h
def eqf{a b:Str}(j:(a==b)=false)(h:eqD (.str a) (.str b)=true):False:=by rw[ue,j]at h;cases h
def z4l{t:List (Str×Cst)}{o:Str}{k:Int}(h:(tabL t o).elim .non cstD=.int k):okD 40 ((tabL t o).elim .non cstD)/\(eqD ((tabL t o).elim .non cstD) (.int k)=false->False):=by
 rw[h,Xp];exact⟨by rw[uc];trivial,λz=>by simp at z⟩
def Su(n:Nat):FT:=g1 λp U=>∃b,n<=5/\RdB n p b/\U (dv b)
def numL(ns:List Int):List D:=ns.map λi=>.str (numS i)
def Zb:FT:=g1 λd U=>∃(s:Str)(ns:List Int),d=.lst (.str s::numL ns)/\IsSh s/\(∀i∈ns,i.natAbs<10 ^ 60)/\ns.length<=20/\U (dv (.tup [.str s,.tup (ns.map D.int)]))
def prL(p:Str×Str):D:=.lst [.str p.1,.str p.2]
def Za:FT:=g1 λd U=>∃p:Str×Str,d=prL p/\IsNm p.1/\IsSh p.2/\U (dv (prD p))
def Fj{s:Str}(h:IsSh s):s∈km:=by rcases h with rfl|rfl|rfl <;> decide
def RdF(p:D)(f:Fn):Prop:=∃q,IsNm f.name/\(∀p∈f.params,IsNm p.1/\IsSh p.2)/\f.params.length<=10/\IsSh f.shape/\(∀i∈f.size,i.natAbs<10 ^ 60)/\f.size.length<=20/\RdB 5 q f.body/\p=.lst [.str "fn",.str f.name,.lst (f.params.map prL),.lst (.str f.shape::numL f.size),q]
def Gw:FT:=g1 λd U=>∃f,RdF d f/\U (dv (fnD f))
def Xj(T:Tops mg)(I:FD P w K mg base 2 "head_of" ["part"] qa)(j:FD P w K mg base 1 "read_shape" ["part"] k9)(q:FD P w K mg base 2 "read_number" ["part"] gh)(F:Fm K mg "read_gives" 47):FD P w K mg base 3 "read_gives" ["part"] Zb:=by
 have S:zt ["part","shape"] ["part"] (zh (top 47)):=by walk_at "f"
 walk_at "b";refine⟨_,(zd (zj (zm 1 S.nd (zi j (hr.e rfl) (z9 (zi I (hr.e rfl) (z9 (za 0) zb)) zb))))
   (zk (zw (vb (z9 (za 1) (z9 (x5 T.tuple (z9 (yo (T:=["number"]) (F:=[]) (js:=[]) (yp (xc (za 0) (xi zc) wy)) (cs1 (by walk_at "c")) .nil (by decide) (by walk_at "t") zx (yk 0) yG (λcl C fp s H=>(zi q (hr.e rfl) (z9 (za 0) zb)))) zb)) zb)))))),?_⟩
 obtain⟨d,rfl,s,ns,rfl,a0,a1,a4,h⟩:=vm hT;have ok:okD 40 (.lst (.str s::numL ns)):=yd (n:=39) (yr _ _) (λx hx=>by
  obtain⟨z,_,rfl⟩:=zah.mp hx;exact yr _ _)
 refine z_g [q_ (.lst (.str s::numL ns)),q_ (.str s)] ?_ ?_
 ·walk_at "dl";exact⟨s,_,rfl,ok,s,rfl,Fj a0,trivial,rfl⟩
 have cd:cutD (D.str s::numL ns) (some 1) none=numL ns:=cutD_drop (D.str s::numL ns) 1;walk_at "dl";refine y9 (numL ns) (λN Z=>?_) (λi fs=>fs=(ns.take i).map D.int) (by unfold numL;rw[zLm];omega) rfl ?_ ?_
 ·walk_at "dl";rw[cd];exact Z
 ·rintro i e fs he a2 rfl;unfold numL at he;rw[zai]at he;obtain⟨p,hp,rfl⟩:=zar.mp he;walk_at "p";walk_at "dl";exact⟨p,rfl,a1 p (zan hp),trivial,by rw[gq _ hp]⟩
 rintro fs rfl;rw[show(numL ns).length=ns.length by unfold numL;rw[zLm],List.take_length]
 exact⟨qr _,h⟩
def Xh(T:Tops mg)(q:FI P w K mg base 2 "bracket_of" pE Km)(I:FD P w K mg base 2 "read_name" ["part"] v6)(j:FD P w K mg base 1 "read_shape" ["part"] k9)(F:Fm K mg "read_param" 46):FD P w K mg base 3 "read_param" ["part"] Za:=by
 have S:zt ["part"] ["part"] (zh (top 46)):=by walk_at "f"
 walk_at "b";refine⟨_,(zd (Um (rc q (hr.e rfl) (z9 (za 0) (z9 zc zb))))
   (zk (zw (vb (z9 (zi I (hr.e rfl) (z9 (zn hu (za 0) zc) zb)) (z9 (zi j (hr.e rfl) (z9 (zn hu (za 0) zc) zb)) zb)))))),?_⟩
 obtain⟨d,rfl,p,rfl,h1,h2,h⟩:=vm hT;unfold prL;walk_at "dl";exact⟨⟨_,rfl⟩,_,rfl,p.1,rfl,by have:=h1.2.1;omega,h1,p.2,rfl,Fj h2,rfl,⟨trivial,trivial⟩,h⟩
def sz10{n:Nat}(h:Nat.ble n 10=true):n<=sizeLine:=zak (Nat.le_of_ble_eq_true h) (by rw[xq];decide)
def if_n{i:Nat}{o k:Str}{A B:TDS}{L:DE}{Z:DZ}(h0:slot L i=q_ (.str o))(j:(o==k)=false)(h:B L Z):sSeq (sIf (tBo (d2 sEq (cv i) (dC (.str k)))) A sNil) B L Z:=by
 unfold sSeq sIf tBo d2 cv;rw[h0];exact⟨yr _ _,yr _ _,λe=>(eqf j e).elim,λ_=>h⟩
def if_y{i:Nat}{o:Str}{A B:TDS}{L:DE}{Z:DZ}(h0:slot L i=q_ (.str o))(h:A L {Z with nx:=λL=>B L Z}):sSeq (sIf (tBo (d2 sEq (cv i) (dC (.str o)))) A sNil) B L Z:=by
 unfold sSeq sIf tBo d2 cv;rw[h0];exact⟨yr _ _,yr _ _,λ_=>h,λz=>(eqt z).elim⟩
def Vi{n:Nat}(T:Tops mg)(a0:GT P w K mg "BODIES" je)(a4:GT P w K mg "BRACKETS" vd)(Z:GT P w K mg "BRINGS" bg)(a8:FD P w K mg base 2 "head_of" ["part"] qa)(a5:FD P w K mg base 2 "read_name" ["part"] v6)(a7:FD P w K mg base 3 "read_names" pE kh)(a1:FD P w K mg base 12 "read_expression" ["part"] (Zc 4))(I:FD P w K mg base (n+13) "read_body" ["part"] (Su n))(F:Fm K mg "read_body" 48):FD P w K mg base (n+14) "read_body" ["part"] (Su (n+1)):=by
 have S:zt ["part","kind","compared","ahead"] ["part"] (zh (top 48)):=by walk_at "f"
 walk_at "b";refine⟨_,(zd (zj (zm 1 S.nd (zi a8 hr.d (z9 (za 0) zb))))
   (zd (zj (yi (qx hu (Vt a0 (za 1)) (w5 T.len (z9 (za 0) zb))) (zk uj) ya))
   (zd (yi (xh hu (za 1) zg) (zk (zw (vb (z9 (za 1) (z9 (zi a1 hr.d (z9 (zn hu (za 0) zc) zb)) zb))))) ya)
   (zd (yi (xh hu (za 1) zg) (zk (zw (vb (z9 (za 1) (z9 (zi a5 hr.d (z9 (zn hu (za 0) zc) zb)) (z9 (zi a1 hr.d (z9 (zn hu (za 0) zc) zb)) (z9 (zi I hr.d (z9 (zn hu (za 0) zc) zb)) zb))))))) ya)
   (zd (yi (xh hu (za 1) zg) (zd (zm 2 S.nd (vb (z9 (zi a1 hr.d (z9 (zn hu (za 0) zc) zb)) (z9 (zi a1 hr.d (z9 (zn hu (za 0) zc) zb)) zb))))
    (zk (zw (yb (yb (vb (z9 (za 1) zb)) (za 2)) (vb (z9 (zi I hr.d (z9 (zn hu (za 0) zc) zb)) (z9 (zi I hr.d (z9 (zn hu (za 0) zc) zb)) zb))))))) ya)
   (zd (zm 3 S.nd (vb (z9 (za 1) (z9 (zi a5 hr.d (z9 (zn hu (za 0) zc) zb)) (z9 (zi I hr.d (z9 (zn hu (za 0) zc) zb)) zb)))))
   (zk (zw (yb (yb (za 3) (zi a7 hr.d (z9 (zn hu (za 0) zc) (z9 (f9 Z (za 1)) zb)))) (vb (z9 (zi I hr.d (z9 (zn hu (za 0) zc) zb)) zb))))))))))),?_⟩
 obtain⟨p,rfl,b,hn,he,h⟩:=vm hT;have ok:=d6 (m:=40) (by omega) (yq he).1
 have pu:=(yq he).2;have hd:∃o ps,p=.lst (.str o::ps)/\(tabL je o).elim .non cstD=.int ((ps.length+1:Nat):Int):=by
  rcases he with⟨q,e,h1,rfl,rfl⟩|⟨z,q,e,q1,b1,hz,h1,h2,rfl,rfl⟩|⟨q1,e1,q2,e2,p1,b1,p2,b2,h1,h2,h3,h4,rfl,rfl⟩|⟨o,z,p1,b1,zs,p2,b2,ho,hz,h1,a2,j,h2,rfl,rfl⟩
  ·exact⟨_,_,rfl,rfl⟩
  ·exact⟨_,_,rfl,rfl⟩
  ·exact⟨_,_,rfl,rfl⟩
  exact⟨_,_,rfl,by rcases ho with rfl|rfl <;> rfl⟩
 obtain⟨o,ps,rfl,ho⟩:=hd;refine ze (λL=>L=[q_ (.lst (.str o::ps)),q_ (.str o),none,none]) ⟨rfl,o,ps,rfl,ok,trivial,rfl⟩ ?_;rintro _ rfl;have g:=z4l ho;refine ze (λL=>L=[q_ (.lst (.str o::ps)),q_ (.str o),none,none]) ⟨g.1,of_eq_true (uc ..),λz=>g.2 (Bool.not_eq_true' _▸z),λ_=>rfl⟩ ?_;rintro _ rfl;rcases he with⟨q,e,h1,pe,rfl⟩|⟨z,q,e,q1,b1,hz,h1,h2,pe,rfl⟩|⟨q1,e1,q2,e2,p1,b1,p2,b2,h1,h2,h3,h4,pe,rfl⟩|⟨o,z,p1,b1,zs,p2,b2,a9,hz,h1,a2,j,h2,pe,rfl⟩ <;> cases pe
 ·refine if_y rfl ⟨rfl,e,by omega,h1,rfl,rfl,⟨trivial,(yz h1).2,trivial⟩,h⟩
 ·refine if_n rfl rfl (if_y rfl ⟨rfl,z,rfl,by have:=hz.2.1;omega,hz,rfl,e,by omega,h1,rfl,b1,by omega,h2,rfl,rfl,⟨trivial,trivial,(yz h1).2,(yq h2).2,trivial⟩,h⟩)
 ·refine if_n rfl rfl (if_n rfl rfl (if_y rfl ⟨rfl,e1,by omega,h1,rfl,e2,by omega,h2,rfl,rfl,trivial,rfl,rfl,List.cons_ne_nil _ _,List.cons_ne_nil _ _,sz10 rfl,rfl,b1,by omega,h3,rfl,b2,by omega,h4,rfl,rfl,List.cons_ne_nil _ _,List.cons_ne_nil _ _,sz10 rfl,⟨trivial,(yz h1).2,(yz h2).2,(yq h3).2,(yq h4).2,trivial⟩,h⟩))
 have a6:zs.map D.str≠[]:=λz=>by rw[List.map_eq_nil_iff.mp z,zLn]at j;split at j <;> cases j
 rcases a9 with rfl|rfl
 ·have l2:zs.length=2:=j.trans (if_neg (by decide))
  exact if_n rfl rfl (if_n rfl rfl (if_n rfl rfl ⟨rfl,z,rfl,by have:=hz.2.1;omega,hz,rfl,b1,by omega,h1,rfl,rfl,trivial,rfl,_,_,rfl,zs,rfl,by rw[l2];rfl,a2,by omega,List.cons_ne_nil _ _,a6,sz10 (by rw[zLm,zLm,l2];rfl),rfl,b2,by omega,h2,rfl,rfl,List.cons_ne_nil _ _,List.cons_ne_nil _ _,sz10 (by rw[zLa,zLm,zLm,l2];rfl),pu,h⟩))
 have l2:zs.length=3:=j.trans (if_pos rfl);exact if_n rfl rfl (if_n rfl rfl (if_n rfl rfl ⟨rfl,z,rfl,by have:=hz.2.1;omega,hz,rfl,b1,by omega,h1,rfl,rfl,trivial,rfl,_,_,rfl,zs,rfl,by rw[l2];rfl,a2,by omega,List.cons_ne_nil _ _,a6,sz10 (by rw[zLm,zLm,l2];rfl),rfl,b2,by omega,h2,rfl,rfl,List.cons_ne_nil _ _,List.cons_ne_nil _ _,sz10 (by rw[zLa,zLm,zLm,l2];rfl),pu,h⟩))
theorem Q2(T:Tops mg)(I:GT P w K mg "BODIES" je)(j:GT P w K mg "BRACKETS" vd)(q:GT P w K mg "BRINGS" bg)(F1:FD P w K mg base 2 "head_of" ["part"] qa)(F2:FD P w K mg base 2 "read_name" ["part"] v6)(F3:FD P w K mg base 3 "read_names" pE kh)(Z:FD P w K mg base 12 "read_expression" ["part"] (Zc 4))(F:Fm K mg "read_body" 48):∀n:Nat,FD P w K mg base (n+13) "read_body" ["part"] (Su n)
 |0=>by
  have S:zt ["part","kind","compared","ahead"] ["part"] (zh (top 48)):=by walk_at "f"
  obtain⟨f,fd,F,m⟩:=F;refine x6 F S (F.binds λ_ _ _ _ _ _ us hl=>(by obtain⟨_,rfl⟩:=ve hl;rfl)) m λqZ A outer s H E ds U hr hl hT=>?_
  obtain⟨e,rfl,c,hn,he,h⟩:=vm hT;exact he.elim
 |n+1=>Vi T I j q F1 F2 F3 Z (Q2 T I j q F1 F2 F3 Z F n) F
def fw{p:D}{f:Fn}(h:RdF p f):okD 40 p/\re (fnD f):=by
 obtain⟨q,h1,h2,h3,h4,h5,h6,I,rfl⟩:=h;refine⟨yd (n:=39) (yr _ _) (yd (yr _ _) (yd (λx j=>?_) (yd (yd (n:=38) (yr _ _) λx j=>?_) (yd (d6 (by decide) (yq I).1) (u0 _))))),trivial,yu.mpr λd Z=>?_,⟨trivial,qr _,trivial⟩,(yq I).2,trivial⟩
 ·obtain⟨p,_,rfl⟩:=zah.mp j;exact yd (n:=37) (yr _ _) (yd (yr _ _) (u0 _))
 ·obtain⟨i,_,rfl⟩:=zah.mp j;exact yr _ _
 obtain⟨p,_,rfl⟩:=zah.mp Z;exact t3
def D3(C:Addr):FTX:=λds U j=>∃(z:Str)(qs:List Pt)(fs:List Fn)(v:Bool),ds=[.str z]/\rf z/\(vq z).length<=1000000/\runN [[]] (vq z)=some [qs]/\w8 RdF (pds qs) fs/\(∀f∈fs,Sn f)/\fs.length<=100/\sy 4 5 fs v/\(v=true->U (dv (.tup (fs.map fnD))))/\(v=false->j C)
def T2{R:D->Fn->Prop}{ps:List D}{es:List Fn}{i:Nat}{p:D}(h:w8 R ps es)(j:ps[i]?=some p):∃e,R p e/\(es.take (i+1)).map fnD=(es.take i).map fnD++[fnD e]:=by
 have hl:=(zag.mp j).1;have q:es[i]?=some (es[i]'(by rw[<- h.1];exact hl)):=zaf _
 exact⟨_,h.2 i p _ j q,by rw[List.take_succ,q,zMa];rfl⟩
def jy(T:Tops mg)(Z:FD P w K mg base 2 "head_of" ["part"] qa)(a0:FI P w K mg base 2 "bracket_of" pE Km)(a1:FI P w K mg base 1 "in_bracket" ["part"] Kk)(I:FD P w K mg base 3 "read_param" ["part"] Za)(a4:FD P w K mg base 2 "read_name" ["part"] v6)(j:FD P w K mg base 3 "read_gives" ["part"] Zb)(a2:FD P w K mg base 18 "read_body" ["part"] (Su 5))(F:Fm K mg "read_function" 45):FD P w K mg base 19 "read_function" ["part"] Gw:=by
 have S:zt ["part","params"] ["part"] (zh (top 45)):=by walk_at "f"
 walk_at "b";refine⟨_,(zd (zj (yi (qx hu (zi Z (hr.e rfl) (z9 (za 0) zb)) zg) (zk uj) ya))
   (zd (zj (Um (rc a0 (hr.e rfl) (z9 (za 0) (z9 zc zb)))))
   (zd (zj (zm 1 S.nd (x5 T.tuple (z9 (yo (T:=["param"]) (F:=[]) (js:=[]) (yp (rc a1 (hr.e rfl) (z9 (zn hu (za 0) zc) zb))) (cs1 (by walk_at "c")) .nil (by decide) (by walk_at "t") zx (yk 0) yG (λcl C fp s H=>(zi I (hr.e rfl) (z9 (za 0) zb)))) zb))))
   (zk (zw (vb (z9 (zi a4 (hr.e rfl) (z9 (zn hu (za 0) zc) zb)) (z9 (za 1) (z9 (zi j (hr.e rfl) (z9 (zn hu (za 0) zc) zb)) (z9 (zi a2 (hr.e rfl) (z9 (zn hu (za 0) zc) zb)) zb)))))))))),?_⟩
 obtain⟨d,rfl,g,hR,h⟩:=vm hT;obtain⟨ok,pu⟩:=fw hR;obtain⟨q,h1,h2,h3,h4,h5,h6,h7,rfl⟩:=hR;refine z_g [q_ (.lst [.str "fn",.str g.name,.lst (g.params.map prL),.lst (.str g.shape::numL g.size),q]),none] ?_ ?_
 ·walk_at "dl";exact⟨"fn",_,rfl,ok,yr _ _,λz=>eqt z⟩
 refine z_g [q_ (.lst [.str "fn",.str g.name,.lst (g.params.map prL),.lst (.str g.shape::numL g.size),q]),none] ?_ ?_
 ·walk_at "dl";exact⟨⟨_,rfl⟩,_,rfl⟩
 refine z_g [q_ (.lst [.str "fn",.str g.name,.lst (g.params.map prL),.lst (.str g.shape::numL g.size),q]),q_ (.tup (g.params.map prD))] ?_ ?_
 ·walk_at "dl";refine y9 (g.params.map prL) (λN a5=>?_) (λi fs=>fs=(g.params.take i).map prD) (by rw[zLm];omega) rfl ?_ ?_
  ·exact⟨rfl,⟨_,rfl⟩,_,rfl,trivial,a5⟩
  ·rintro i e fs he a6 rfl;rw[zai]at he;obtain⟨p,hp,rfl⟩:=zar.mp he;have gp:=h2 p (zan hp);walk_at "p";walk_at "dl";exact⟨p,rfl,gp.1,gp.2,trivial,by rw[gq _ hp]⟩
  rintro fs rfl;rw[zLm,List.take_length]
 walk_at "dl";exact⟨g.name,rfl,by have:=h1.2.1;omega,h1,g.shape,g.size,rfl,h4,h5,h6,g.body,by decide,h7,rfl,⟨trivial,pu.2.1,pu.2.2.1,pu.2.2.2.1⟩,h⟩
structure Cls1(K:W.Frag)(mg:Str->Option Value)(cE cN c_0 c_1 c_2 c_3 c_4 c_5 c_6 c_7 c_8:Addr):Prop where
 b_TollError:mg "TollError" = some (.ref cE)
 b_NoProgram:mg "NoProgram" = some (.ref cN)
 b_NoText:mg "NoText" = some (.ref c_0)
 b_NoFunction:mg "NoFunction" = some (.ref c_1)
 b_NoValue:mg "NoValue" = some (.ref c_2)
 b_NoTable:mg "NoTable" = some (.ref c_3)
 b_NoRatio:mg "NoRatio" = some (.ref c_4)
 b_NoPaper:mg "NoPaper" = some (.ref c_5)
 b_NoSize:mg "NoSize" = some (.ref c_6)
 b_NoRow:mg "NoRow" = some (.ref c_7)
 b_TooMany:mg "TooMany" = some (.ref c_8)
 x_NoProgram:excV K cN
 m_NoProgram:W.exmOne K (.ref cN) (.ref cE)=some true
 k_Val:W.kitOne K (.ref cN) (.type "ValueError")=some true
 k_no:∀c∈[c_0,c_1,c_2,c_3,c_4,c_5,c_6,c_7,c_8],W.kitOne K (.ref cN) (.ref c)=some false
 y_NoProgram:Py K cN
def Bn(T:Tops mg){cE cN c2 c1 c0 b9 b4 b3 b0 a9 a8:Addr}(Z:Cls1 K mg cE cN c2 c1 c0 b9 b4 b3 b0 a9 a8)(a1:FD P w K mg base 1 "words_of" ["text"] Gv)(a0:FD P w K mg base 1 "nested" ["words"] Oh)(a4:FD P w K mg base 19 "read_function" ["part"] Gw)(a2:FD P w K mg base 27 "right" ["program"] (Uk 4 5))(F:Fm K mg "read" 34):FX P w K mg base 28 "read" ["text"] (D3 cN):=by
 have S:zt ["text","program"] ["text"] (zh (top 34)):=by walk_at "f"
 obtain⟨f,fd,F,m⟩:=F;refine z5r F S (F.binds λ_ _ _ _ _ _ us hl=>(by obtain⟨_,rfl⟩:=ve hl;rfl)) m λqZ A outer s H E ds U χ hr hl hT c3 a6=>?_
 have hu:=hr.units;refine⟨_,(zd (zj (yi (wq (wg (vn T.isinstance (z9 (za 0) (z9 (Vq T.str ug) zb))))) (zk uj) ya))
   (zd (zj (zm 1 S.nd (x5 T.tuple (z9 (yo (T:=["part"]) (F:=[]) (js:=[]) (yp (zi a0 (hr.e rfl) (z9 (zi a1 (hr.e rfl) (z9 (za 0) zb)) zb))) (cs2 (by walk_at "c")) .nil (by decide) (by walk_at "t") zx (yk 0) yG (λcl C fp s H=>(zi a4 (hr.e rfl) (z9 (za 0) zb)))) zb))))
   (zd (zj (yi (wq (wg (zi a2 (hr.e rfl) (z9 (za 1) zb)))) (zk (Ky PySem.F.excBase_ValueError Z.b_NoProgram Z.x_NoProgram hr.hd a6 (z9 zg zb))) ya))
   (zk (zw (za 1)))))),?_⟩
 obtain⟨z,qs,gs,v,rfl,hz,hw,I,hp,hB,j,hR,h1,h2⟩:=hT;refine z_g [q_ (.str z),none] ?_ ?_
 ·walk_at "dl"
 refine z_g [q_ (.str z),q_ (.tup (gs.map fnD))] ?_ ?_
 ·walk_at "dl";refine y9 (pds qs) (λN a5=>?_) (λi fs=>fs=(gs.take i).map fnD) (by rw[hp.1];omega) rfl ?_ ?_
  ·walk_at "dl";exact⟨z,rfl,hz,_,qs,rfl,hw,I,trivial,a5⟩
  ·rintro i e fs he d0 rfl;obtain⟨r,a7,eq⟩:=T2 hp he;walk_at "p";walk_at "dl";exact⟨r,a7,trivial,eq.symm⟩
  rintro fs rfl;rw[hp.1,List.take_length]
 refine ze (λL=>v=true/\L=[q_ (.str z),q_ (.tup (gs.map fnD))]) ?_ ?_
 ·walk_at "dl";exact⟨gs,v,rfl,by decide,hB,j,hR,λq=>h2 q,λq=>q⟩
 rintro _ ⟨hv,rfl⟩;walk_at "dl";exact⟨yu.mpr λd hd=>by
  obtain⟨g,hg,rfl⟩:=zah.mp hd;obtain⟨p,_,q⟩:=hp.at' hg;exact(fw q).2,h1 hv⟩
def w4(c:List Str):Nat:=(c.map λw=>w.length+4).sum
def uh(a b:List Str):w4 (a++b)=w4 a+w4 b:=by unfold w4;simp
def wx(a:Str)(b:List Str):w4 (a::b)=a.length+4+w4 b:=by unfold w4;simp
def O5(c:List Str):wlen c+2*c.length=w4 c:=by
 induction c with
 |nil=>rfl
 |cons a c ih =>
  rw[wx,<- ih];unfold wlen;simp;omega
def T1{α:Type}(f:α->Pt):∀l:List α,pds (l.map f)=l.map λx=>pd (f x)
 |[]=>rfl
 |x::l=>by
  show pd (f x)::pds (l.map f)=_;rw[T1 f l];rfl
structure Pc(q:Pt)(c:List Str):Prop where
 eq:pw q=c
 ok:q.ok
 tk:∀w∈c,Tok w
structure Pcs(qs:List Pt)(c:List Str):Prop where
 eq:pws qs=c
 ok:Pt.oks qs
 tk:∀w∈c,Tok w
def Pcs.nil:Pcs [] []:=⟨rfl,trivial,λ_ h=>nomatch h⟩
def Pcs.cons{q:Pt}{j:List Pt}{c d:List Str}(h:Pc q c)(h2:Pcs j d):Pcs (q::j) (c++d):=⟨by show pw q++pws j=_;rw[h.eq,h2.eq],⟨h.ok,h2.ok⟩,λw I=>(zas.mp I).elim (h.tk w) (h2.tk w)⟩
def Aw:Tok lp:=.inl (by decide)
def Av:Tok rp:=.inl (by decide)
def Pcs.br{q:List Pt}{c:List Str}(h:Pcs q c):Pc (.b q) (lp::(c++[rp])):=⟨by show lp::(pws q++[rp])=_;rw[h.eq],h.ok,λw j=>by
 rcases zam.mp j with rfl|j
 ·exact Aw
 rcases zas.mp j with j|j
 ·exact h.tk w j
 rw[List.mem_singleton.mp j];exact Av⟩
def Pc.word{w:Str}(h:Ud w):Pc (.w w) [w]:=by
 have j:∀k,V9 k->w≠⟨#[k]⟩:=λk I e=>by
  have:=h.2 k (by rw[e];exact List.mem_singleton.mpr rfl)
  exact this I
 exact⟨rfl,⟨by rw[show lp=(⟨#[40]⟩:Str) from r40];exact j 40 (.inr (.inr (.inl rfl))),by rw[show rp=(⟨#[41]⟩:Str) from r41];exact j 41 (.inr (.inr (.inr rfl)))⟩,λv q=>by rw[List.mem_singleton.mp q];exact .inr h⟩
def Ys{w:Str}(h1:1<=w.length)(h:∀ k∈tl w,42<=k):Ud w:=by
 refine⟨λe=>?_,λk j s=>?_⟩
 ·rw[<- ui,e]at h1;cases h1
 have:=h k j;rcases s with rfl|rfl|rfl|rfl <;> omega
def Dg:∀{c:Nat},rj c=true->97<=c:=λ{c} h=>by
 unfold rj at h;rw[StrLaws.found_one,decide_eq_true_eq]at h;have big:∀k∈X1.cps.toList,97<=k:=by decide +kernel
 exact big c h
def t7{z:Str}(h:IsNm z):Ud z:=Ys h.1 λk j=>by have:=Dg (h.2.2.2.2 k j);omega
def Wp{i:Int}(h:i.natAbs<10 ^ 60):Ud (numS i):=by
 obtain⟨fs,X⟩:=Xd h;have dg:∀k∈tl (numS i),42<=k:=λk j=>by
  rw[X.tx]at j;split at j
  ·rcases zam.mp j with rfl|j
   ·decide
   have:=X.dg k j;omega
  have:=X.dg k j;omega
 refine Ys ?_ dg;rw[<- ui,X.tx];have:=X.lo;split
 ·rw[zLc];omega
 exact this
def cw:List Str:=["nil","leaf","call","add","sub","cons","node","give","let","less","list","tree","fn","num"]
def Xv:∀w∈cw,1<=w.length/\w.length<=4/\∀k∈w.cps.toList,42<=k:=by decide +kernel
def vc{w:Str}(h:w∈cw):Ud w:=Ys (Xv w h).1 (Xv w h).2.2
def k7{w:Str}(h:w∈cw):w.length<=4:=(Xv w h).2.1
def Kr{s:Str}(h:IsSh s):s∈cw:=by rcases h with rfl|rfl|rfl <;> decide
def Fs{o:Str}(h:o∈ops):o∈cw:=by
 unfold ops at h;simp only[zam,List.not_mem_nil,or_false]at h;rcases h with rfl|rfl|rfl|rfl <;> decide
def rn{z:Str}(h:IsNm z):z.length<=8:=h.2.1
def w8.cons{α:Type}{R:D->α->Prop}{a:D}{b:α}{I:List D}{bs:List α}(h:R a b)(h2:w8 R I bs):w8 R (a::I) (b::bs):=⟨by rw[zLc,zLc,h2.1],λi e c j q=>by
 cases i with
 |zero=>cases j;cases q;exact h
 | succ i=>exact h2.2 i e c j q⟩
def w8.nil{α:Type}{R:D->α->Prop}:w8 R [] ([]:List α):=⟨rfl,λi e c j=>by simp at j⟩
theorem Yq{α:Type}{S:D->α->Prop}{b:Nat}:∀(l:List (α×List Str)),(∀r∈l,∃q,Pc q r.2/\w4 r.2<=b/\S (pd q) r.1)->∃j,Pcs j (l.map Prod.snd).flatten/\w4 (l.map Prod.snd).flatten<=l.length*b/\w8 S (pds j) (l.map Prod.fst)
 |[],_=>⟨[],Pcs.nil,Nat.zero_le _,w8.nil⟩
 |r::l,h=>by
  obtain⟨q,h1,h2,Z⟩:=h r zao;obtain⟨j,g1,g21,g3⟩:=Yq l λx I=>h x (zal _ I);refine⟨q::j,Pcs.cons h1 g1,?_,w8.cons Z g3⟩;rw[List.map_cons,List.flatten_cons,uh,zLc,Nat.add_mul];omega
def Rn{R:D->List Str->Prop}{es:List D}{cs:List (List Str)}(h:W1 R es cs):(es.zip cs).map Prod.fst=es/\(es.zip cs).map Prod.snd=cs/\∀r∈es.zip cs,R r.1 r.2:=by
 refine⟨List.map_fst_zip (by rw[h.1];exact zaj _),List.map_snd_zip (by rw[h.1];exact zaj _),λr hr=>?_⟩
 obtain⟨i,hi⟩:=List.getElem?_of_mem hr;have:=List.getElem?_zip_eq_some.mp hi;exact h.2 i _ _ this.1 this.2
def SE:Nat->Nat
 |0=>0
 |n+1=>65+4*SE n
def rh(w:Str):w4 [w]=w.length+4:=by rw[wx];rfl
def O6(c:List Str):w4 (lp::(c++[rp]))=w4 c+10:=by
 rw[wx,uh,rh,Zt,Zl];omega
theorem Pi:∀(n:Nat)(e:D)(c:List Str),Ex1 n e c->∃q,Pc q c/\w4 c<=SE n/\RdE n (pd q) e
 |0,_,_,h=>h.elim
 |n+1,e,c,h=>by
  have one:∀(z:Str)(e:D),Ud z->z.length<=61->Wd z e->∃q,Pc q [z]/\w4 [z]<=SE (n+1)/\RdE (n+1) (pd q) e:=λz e I hl hw=>⟨.w z,Pc.word I,by rw[rh];show _<=65+4*SE n;omega,.inl ⟨z,rfl,hw⟩⟩
  rcases h with(⟨i,hi,rfl,rfl⟩|⟨z,hz,rfl,rfl⟩|⟨rfl,rfl⟩|⟨rfl,rfl⟩)|⟨f,es,cs,hf,I,hl,rfl,rfl⟩|⟨o,es,cs,ho,I,⟨hl,ha⟩,rfl,rfl⟩
  ·exact one _ _ (Wp hi) (d7 hi) (.inr (.inr ⟨i,hi,rfl,rfl⟩))
  ·exact one _ _ (t7 hz) (by have:=rn hz;omega) (.inr (.inl ⟨hz,rfl⟩))
  ·exact one _ _ (vc (by decide)) (by decide +kernel) (.inl ⟨.inl rfl,rfl⟩)
  ·exact one _ _ (vc (by decide)) (by decide +kernel) (.inl ⟨.inr rfl,rfl⟩)
  ·obtain⟨Z,e2,zz⟩:=Rn I;obtain⟨j,g1,g21,g3⟩:=Yq (es.zip cs) λr hr=>Pi n r.1 r.2 (zz r hr);rw[Z]at g3;rw[e2]at g1 g21;have ll:(es.zip cs).length=es.length:=by rw[<- zLm (f:=Prod.fst),Z]
   have P:=Pcs.cons (Pc.word (vc (w:="call") (by decide))) (Pcs.cons (Pc.word (t7 hf)) g1)
   have bq:=Nat.mul_le_mul_right (SE n) hl;rw[ll]at g21;refine⟨.b (.w "call"::.w f::j),by have:=P.br;simpa using this,?_,.inr (.inl ⟨f,pds j,es,hf,g3,by rw[g3.1];exact hl,rfl,rfl⟩)⟩
   have e:([lp,"call",f]++cs.flatten++[rp]:List Str)=lp::((("call" : Str)::f::cs.flatten)++[rp]):=by simp
   rw[e,O6,wx,wx];have:=rn hf;have:=k7 (w:="call") (by decide)
   show _<=65+4*SE n;omega
  obtain⟨Z,e2,zz⟩:=Rn I;obtain⟨j,g1,g21,g3⟩:=Yq (es.zip cs) λr hr=>Pi n r.1 r.2 (zz r hr);rw[Z]at g3;rw[e2]at g1 g21;have ll:(es.zip cs).length=es.length:=by rw[<- zLm (f:=Prod.fst),Z]
  have P:=Pcs.cons (Pc.word (vc (Fs ho))) g1;have bq:=Nat.mul_le_mul_right (SE n) hl;rw[ll]at g21;refine⟨.b (.w o::j),by have:=P.br;simpa using this,?_,.inr (.inr ⟨o,pds j,es,ho,g3,by rw[g3.1];exact ha,rfl,rfl⟩)⟩
  have e:([lp,o]++cs.flatten++[rp]:List Str)=lp::((o::cs.flatten)++[rp]):=by simp
  rw[e,O6,wx];have:=k7 (Fs ho);show _<=65+4*SE n;omega
def z2j(c:List Str):c.length<=w4 c:=by
 induction c with
 |nil=>exact zaj _
 |cons a c ih=>rw[wx,zLc];omega
def Pcs.words:∀{zs:List Str},(∀w∈zs,Ud w)->Pcs (zs.map Pt.w) zs
 |[],_=>Pcs.nil
 |z::zs,h=>Pcs.cons (Pc.word (h z zao)) (Pcs.words λw j=>h w (zal _ j))
def Wl(zs:List Str):pds (zs.map Pt.w)=zs.map D.str:=by
 rw[T1];rfl
def Qm(j:List Str)(cs:List (List Str)):w4 (bk j cs)=10+w4 j+w4 cs.flatten:=by
 unfold bk;rw[uh,uh,uh,rh,rh,Zt,Zl];omega
def Sr{zs:List Str}(h:∀ w∈zs,w.length<=61):w4 zs<=zs.length*65:=by
 induction zs with
 |nil=>exact Nat.zero_le _
 |cons z zs ih =>
  have h1:=h z zao;have h2:=ih λw j=>h w (zal _ j);rw[wx,zLc,Nat.add_mul];omega
def Pw(j:List Str)(cs:List (List Str)):bk j cs=lp::((j++cs.flatten)++[rp]):=by simp[bk]
def SE4:SE 4=5525:=rfl
def SB:Nat->Nat
 |0=>0
 |n+1=>11300+2*SB n
theorem Xx:∀(n:Nat)(b:D)(c:List Str),Bo n b c->∃q,Pc q c/\w4 c<=SB n/\RdB n (pd q) b
 |0,_,_,h=>h.elim
 |n+1,b,c,h=>by
  have k1:=k7 (w:="give") (by decide)
  have k2:=k7 (w:="let") (by decide)
  have k3:=k7 (w:="less") (by decide)
  have k4:=SE4;rcases h with⟨e,k,he,rfl,rfl⟩|⟨z,e,k,b1,c1,hz,he,hb,rfl,rfl⟩|⟨e1,w1,e2,w2,b1,c1,b2,c2,a2,a1,Z,I,rfl,rfl⟩|⟨o,z,b1,c1,zs,b2,c2,ho,hz,Z,j,hn,⟨hl,a0⟩,I,rfl,rfl⟩
  ·obtain⟨q,p1,p2,p3⟩:=Pi 4 e k he;have P:=(Pcs.cons (Pc.word (vc (w:="give") (by decide))) (Pcs.cons p1 Pcs.nil)).br
   refine⟨.b [.w "give",q],by rw[Pw];simpa using P,?_,.inl ⟨_,e,p3,rfl,rfl⟩⟩
   rw[Qm,rh,List.flatten_cons,List.flatten_nil,List.append_nil];show _<=11300+2*SB n;omega
  ·obtain⟨q,p1,p2,p3⟩:=Pi 4 e k he;obtain⟨q1,g1,g21,g3⟩:=Xx n b1 c1 hb;have P:=(Pcs.cons (Pc.word (vc (w:="let") (by decide))) (Pcs.cons (Pc.word (t7 hz)) (Pcs.cons p1 (Pcs.cons g1 Pcs.nil)))).br
   have zl:=rn hz;refine⟨.b [.w "let",.w z,q,q1],by rw[Pw];simpa using P,?_,.inr (.inl ⟨z,_,e,_,b1,hz,p3,g3,rfl,rfl⟩)⟩
   rw[Qm,wx,rh,List.flatten_cons,List.flatten_cons,List.flatten_nil,List.append_nil,uh];show _<=11300+2*SB n;omega
  ·obtain⟨q1,p1,p2,p3⟩:=Pi 4 e1 w1 a2;obtain⟨q2,r1,r2,r3⟩:=Pi 4 e2 w2 a1;obtain⟨q3,g1,g21,g3⟩:=Xx n b1 c1 Z;obtain⟨q4,t1,t2,t3⟩:=Xx n b2 c2 I;have P:=(Pcs.cons (Pc.word (vc (w:="less") (by decide))) (Pcs.cons p1 (Pcs.cons r1 (Pcs.cons g1 (Pcs.cons t1 Pcs.nil))))).br
   refine⟨.b [.w "less",q1,q2,q3,q4],by rw[Pw];simpa using P,?_,.inr (.inr (.inl ⟨_,e1,_,e2,_,b1,_,b2,p3,r3,g3,t3,rfl,rfl⟩))⟩
   rw[Qm,rh,List.flatten_cons,List.flatten_cons,List.flatten_cons,List.flatten_cons,List.flatten_nil,List.append_nil,uh,uh,uh];show _<=11300+2*SB n;omega
  obtain⟨q3,g1,g21,g3⟩:=Xx n b1 c1 Z;obtain⟨q4,t1,t2,t3⟩:=Xx n b2 c2 I;have oc:o∈cw:=by rcases ho with rfl|rfl <;> decide
  have W:=Pcs.words (zs:=zs) λw hw=>t7 (j w hw);have P:=(Pcs.cons (Pc.word (vc oc)) (Pcs.cons (Pc.word (t7 hz)) (Pcs.cons g1 (Pcs.cons W.br (Pcs.cons t1 Pcs.nil))))).br;have zl:=rn hz;have ol:=k7 oc;have wl:=Sr (zs:=zs) λw hw=>by have:=rn (j w hw);omega
  refine⟨.b [.w o,.w z,q3,.b (zs.map Pt.w),q4],by rw[Pw];simpa [brW] using P,?_,.inr (.inr (.inr ⟨o,z,_,b1,zs,_,b2,ho,hz,g3,j,a0,t3,?_,rfl⟩))⟩
  ·have wb:w4 (brW zs)=w4 zs+10:=by rw[show brW zs=lp::(zs++[rp]) by simp[brW],O6]
   rw[Qm,wx,rh,List.flatten_cons,List.flatten_cons,List.flatten_cons,List.flatten_nil,List.append_nil,uh,uh,wb];show _<=11300+2*SB n;omega
  show D.lst [.str o,.str z,pd q3,.lst (pds (zs.map Pt.w)),pd q4]=_;rw[Wl]
def prP(p:Str×Str):Pt:=.b [.w p.1,.w p.2]
def SB5:SB 5=350300:=rfl
def FuR(f:Fn)(c:List Str):Prop:=∃q,Pc q c/\w4 c<=360000/\RdF (pd q) f
def Gg{fn I:Str}{fp:List (Str×Str)}{j:List Int}{fb:D}{k:List Str}{q:Pt}(h1:IsNm fn)(h3:fp.length<=10)(h4:∀ p∈fp,IsNm p.1/\IsSh p.2)(h5:IsSh I)(h6:j.length<=20)(h7:∀ i∈j,i.natAbs<10 ^ 60)(g1:Pc q k)(g21:w4 k<=350300)(g3:RdB 5 (pd q) fb):FuR ⟨fn,fp,I,j,fb⟩ (bk ["fn",fn] [bk [] (fp.map prW),brW (I::j.map numS),k]):=by
 have Pp:Pcs (fp.map prP) (fp.map prW).flatten:=by
  have:∀ps:List (Str×Str),(∀p∈ps,IsNm p.1/\IsSh p.2)->Pcs (ps.map prP) (ps.map prW).flatten:=λps=>by
   induction ps with
   |nil=>exact λ_=>Pcs.nil
   |cons p ps ih =>
    intro hp;have Z:=hp p zao;have:=(Pcs.cons (Pc.word (t7 Z.1)) (Pcs.cons (Pc.word (vc (Kr Z.2))) Pcs.nil)).br;exact Pcs.cons (q:=prP p) (by simpa [prW,brW,prP] using this) (ih λx hx=>hp x (zal _ hx))
  exact this fp h4
 have Pn:=Pcs.cons (Pc.word (vc (Kr h5))) (Pcs.words (zs:=j.map numS) λw hw=>by
  obtain⟨i,hi,rfl⟩:=zah.mp hw;exact Wp (h7 i hi))
 have P:=(Pcs.cons (Pc.word (vc (w:="fn") (by decide))) (Pcs.cons (Pc.word (t7 h1)) (Pcs.cons Pp.br (Pcs.cons Pn.br (Pcs.cons g1 Pcs.nil))))).br
 refine⟨.b [.w "fn",.w fn,.b (fp.map prP),.b (.w I::(j.map numS).map Pt.w),q],by rw[Pw,Pw];simpa [brW] using P,?_,⟨pd q,h1,h4,h3,h5,h7,h6,g3,?_⟩⟩
 ·have wp:w4 (fp.map prW).flatten<=10*40:=by
   have:∀ps:List (Str×Str),(∀p∈ps,IsNm p.1/\IsSh p.2)->w4 (ps.map prW).flatten<=ps.length*40:=λps=>by
    induction ps with
    |nil=>exact λ_=>Nat.zero_le _
    |cons p ps ih =>
     intro hp;have Z:=hp p zao;have:=ih λx hx=>hp x (zal _ hx);have:=rn Z.1;have:=k7 (Kr Z.2);have e:w4 (prW p)=w4 [p.1,p.2]+10:=by rw[show prW p=lp::([p.1,p.2]++[rp]) from rfl,O6]
     rw[List.map_cons,List.flatten_cons,uh,e,wx,rh,zLc];omega
   exact zak (this fp h4) (Nat.mul_le_mul_right _ h3)
  have wn:=Sr (zs:=j.map numS) λw hw=>by
   obtain⟨i,hi,rfl⟩:=zah.mp hw;exact d7 (h7 i hi)
  rw[zLm]at wn;have:=rn h1;have:=k7 (Kr h5);have:=k7 (w:="fn") (by decide)
  have wb:w4 (brW (I::j.map numS))=w4 (I::j.map numS)+10:=by rw[show brW (I::j.map numS)=lp::((I::j.map numS)++[rp]) by simp[brW],O6]
  rw[Qm,wx,rh,List.flatten_cons,List.flatten_cons,List.flatten_cons,List.flatten_nil,List.append_nil,uh,uh,Qm,wb,wx];have:w4 []=0:=rfl;have:=SB5;omega
 show D.lst [.str "fn",.str fn,.lst (pds (fp.map prP)),.lst (.str I::pds ((j.map numS).map Pt.w)),pd q]=_;rw[Wl,T1,List.map_map];rfl
def W2(ws:List Str)(i:Nat):wsum (ws.take i)<=wsum ws:=by
 conv=>rhs;rw[<- List.take_append_drop i ws]
 rw[wu];omega
def prev(q:List Str):Nat->Option Str
 |0=>none
 |j+1=>q[j]?
def J2(q:List Str):∀{j:Nat},j<=q.length->(runL ("",none) (q.take j)).2=prev q j
 |0,_=>rfl
 |j+1,h=>by
  have e:q.take (j+1)=q.take j++[q[j]]:=by rw[List.take_succ,zaf (by omega)];rfl
  rw[e,N7];show some _=q[j]?;rw[zaf (by omega)]
def Wu{q:List Str}{j:Nat}(h:j<q.length):t8 (q.take (j+1))=t8 (q.take j)++sep (prev q j) q[j]++q[j]:=by
 have e:q.take (j+1)=q.take j++[q[j]]:=by rw[List.take_succ,zaf h];rfl
 have p:=J2 q (Nat.le_of_lt h);unfold t8;rw[e,N7,<- p];rfl
def z3z(p:Option Str)(w:Str):Bl (sep p w)/\(sep p w).length<=2:=by
 have h0:Bl ("" : Str)/\("" : Str).length<=2:=⟨U3 (by decide +kernel) (by decide +kernel),by decide +kernel⟩
 have h1:Bl sp/\sp.length<=2:=⟨U3 (by decide +kernel) (by decide +kernel),by decide +kernel⟩
 cases p with
 |none=>exact h0
 |some q =>
  show Bl (if q≠lp/\w≠rp then sp else "")/\(if q≠lp/\w≠rp then sp else "").length<=2
  split
  ·exact h1
  exact h0
theorem T7{zs:List Str}(I:∀ w∈zs,Tok w):∀{j:Nat},j<=zs.length->Ln zs j (t8 (zs.take j))
 |0,_=>Jp (z:="") zs (U3 (by decide +kernel) (by decide +kernel))
 |j+1,h=>by
  have q:j<zs.length:=h;rw[Wu q];obtain⟨b1,b2⟩:=z3z (prev zs j) zs[j];refine B1 (T7 I (Nat.le_of_lt q)) q (I _ (List.getElem_mem q)) b1 b2 λe=>?_;cases j with
  |zero=>exact .inl rfl
  |succ k =>
   have Z:k<zs.length:=by omega
   rw[show prev zs (k+1)=some zs[k] from zaf Z]at e;have e':(if zs[k]≠lp/\zs[k+1]≠rp then sp else "")=("" : Str):=e
   by_cases c:zs[k]≠lp/\zs[k+1]≠rp
   ·rw[if_pos c]at e';exact absurd e' (by decide +kernel)
   rcases Decidable.not_and_iff_or_not.mp c with c|c
   ·left
    show isBr (zs.getD k "(")=true;rw[zaq,zaf Z,Option.getD_some,Decidable.not_not.mp c]
    decide
   right
   rw[Decidable.not_not.mp c]
   decide
def P3{zs:List Str}(q:∀ w∈zs,Tok w)(j:w4 zs<=4000000):vq (t8 zs)=zs/\rf (t8 zs):=by
 have L:=T7 q (zaj _);rw[List.take_length]at L;have:=Fy (t:="") L (U3 (by decide +kernel) (by decide +kernel)) (by rw[O5];exact j)
 rwa [sR]at this
def D5:FT:=g3 λj I q U=>∃(w:Str)(i M:Int),j=.str w/\IsNm w/\I=.int i/\q=.int M/\0<M/\M<=10 ^ 60/\∀h:Hd,h.name=w->OkH h->U ⟨.new,hdD h⟩
def W8:FT:=g5 λna Z I j bo U=>∃(w:Str)(ps:List (Str×Str))(s:Str)(ns:List Int)(b:D)(c:List Str)(q:Pt),na=.str w/\IsNm w/\Z=.lst (ps.map prD)/\ps.length<=10/\(∀p∈ps,IsNm p.1/\IsSh p.2)/\I=.str s/\IsSh s/\j=.lst (ns.map D.int)/\ns.length<=20/\(∀i∈ns,i.natAbs<10 ^ 60)/\bo=rowD (b,c)/\Pc q c/\w4 c<=350300/\RdB 5 (pd q) b/\∀k,FuR ⟨w,ps,s,ns,b⟩ k->U ⟨.new,rowD (fnD ⟨w,ps,s,ns,b⟩,k)⟩
def Nl(x:Int):∃k:Str,IsSh k/\atI [D.str "num",D.str "list",D.str "tree"] (x.fmod 3)=some (.str k):=by
 have m:=yt x 3 (by decide)
 rcases(by omega:x.fmod 3=0\/x.fmod 3=1\/x.fmod 3=2) with e|e|e
 ·exact⟨"num",.inl rfl,by rw[e,jg]⟩
 ·exact⟨"list",.inr (.inl rfl),by rw[e,jf]⟩
 exact⟨"tree",.inr (.inr rfl),by rw[e,Ly]⟩
def Sz(s:Str)(ks:List Str)(j:Nat)(n:Int):Prop:=0<=n/\n<10 ^ 60/\(s = "num"->n=0)/\∀i,j=i+1->ks[i]?=some ("num" : Str)->n=0
def Szs(s:Str)(ks:List Str)(ns:List Int):Prop:=∀(j:Nat)(n:Int),ns[j]?=some n->Sz s ks j n
def D9{s:Str}{ks:List Str}{ns:List Int}{n:Int}(h:Szs s ks ns)(g:Sz s ks ns.length n):Szs s ks (ns++[n]):=λj m q=>by
 rcases Nat.lt_or_ge j ns.length with hj|hj
 ·rw[List.getElem?_append_left hj]at q;exact h j m q
 rw[List.getElem?_append_right hj]at q;have I:j=ns.length:=by
  rcases Nat.eq_zero_or_pos (j-ns.length) with z|z
  ·omega
  rw[List.getElem?_eq_none (by rw[List.length_singleton];exact z)]at q;cases q
 rw[I,Nat.sub_self]at q;cases q;rw[I];exact g
def z0f{s:Str}{ks:List Str}{ns:List Int}(h:Szs s ks ns)(hl:ns.length=ks.length+1)(hs:IsSh s)(hk:∀ k∈ks,IsSh k):ji s ns ks/\∀i∈ns,i.natAbs<10 ^ 60:=by
 have Z:∀n∈ns,∃j,Sz s ks j n:=λn I=>by
  obtain⟨j,hj⟩:=List.getElem?_of_mem I;exact⟨j,h j n hj⟩
 refine⟨⟨hs,hk,hl,λn I=>(Z n I).elim λj q=>q.1,λe n I=>(Z n I).elim λj q=>q.2.2.1 e,λi n e I=>(h (i+1) n I).2.2.2 i rfl e⟩,λn I=>(Z n I).elim λj q=>by have:=q.1;have:=q.2.1;omega⟩
def Jb(ps:List (Str×Str)):vg (ps.map prD):=yu.mpr λd j=>by
 obtain⟨t,_,rfl⟩:=zah.mp j;exact t3
def Uv(ps:List (Str×Str)):((ps.map prW).flatten).length=4*ps.length:=by
 induction ps with
 |nil=>rfl
 |cons p ps ih =>
  rw[List.map_cons,List.flatten_cons,zLa,ih,zLc];show 4+_=_;omega
def Ja{ps:List (Str×Str)}{j:Nat}{p:Str×Str}(h:ps[j]?=some p):((ps.take (j+1)).map prW).flatten=((ps.take j).map prW).flatten++prW p:=by
 rw[List.take_succ,h];simp
def Hr(w s:Str)(ps:List (Str×Str))(j c:List Str):bk ["fn",w] [bk [] (ps.map prW),brW (s::j),c]=([lp,"fn",w,lp]++(ps.map prW).flatten++[rp,lp,s]++j++[rp])++c++[rp]:=by
 simp[bk,brW]
def C9{i:Nat}(h:i<4):∃r:Int,0<r/\r<=27/\atI [D.int 1,D.int 3,D.int 9,D.int 27] (i:Int)=some (.int r):=by
 rcases(by omega:i=0\/i=1\/i=2\/i=3) with rfl|rfl|rfl|rfl
 ·exact⟨1,by decide,by decide,by rw[xx1 (by decide)];rfl⟩
 ·exact⟨3,by decide,by decide,by rw[xx1 (by decide)];rfl⟩
 ·exact⟨9,by decide,by decide,by rw[xx1 (by decide)];rfl⟩
 exact⟨27,by decide,by decide,by rw[xx1 (by decide)];rfl⟩
def S1(T:Tops mg)(F:Fm K mg "_law_head" 61):FD P w K mg base 1 "_law_head" pT D5:=by
 have S:zt ["_law_name_here","_law_cell","_law_most","_law_kinds","_law_shape","_law_size","_law_k","_law_number"] pT (zh (top 61)):=by walk_at "f"
 walk_at "b";refine⟨_,(zd (zj (yn (T:=["_law_k"]) (F:=["_law_cell"]) (js:=[1]) 3 S.nd (wt T.range (z9 (yb zc (yj (za 1) zc)) zb)) (cs1 (by walk_at "c")) (.cons rfl .nil) (by decide) (by walk_at "t") zx (yk 0) yG (λcl C fp s H=>(zn hu (zy (z9 zg (z9 zg (z9 zg zb)))) (yj (v5 (v5 (za 1) zc) (zn hu (zy (z9 zc (z9 zc (z9 zc (z9 zc zb))))) (za 0))) zc)))))
   (zd (zj (zm 4 S.nd (zn hu (zy (z9 zg (z9 zg (z9 zg zb)))) (yj (v5 (za 1) zc) zc))))
   (zd (zj (zm 5 S.nd (zy zb)))
   (zd (zj (Zj (wt T.range (z9 (yb (w5 T.len (z9 (za 3) zb)) zc) zb)) (zo (i:=6) S.nd rfl (by walk_at "o")) (yk 6) (zd (zj (zm 7 S.nd (yj (v5 (v5 (za 1) zc) (yb (Zz zc (za 6)) zc)) (za 2))))
    (zd (zj (yi (EW.et (qw (xh hu (za 4) zg) (sw (EW.et (ci (Hy (za 6) zc) (jb (xh hu (zn hu (za 3) (uk (za 6) zc)) zg))))))) (zk (zm 7 S.nd zc)) ya))
    (zk (qi 5 (za 7)))))))
   (zk (N0 (z9 (za 0) (z9 (za 3) (z9 (za 4) (z9 (za 5) zb)))))))))),?_⟩
 obtain⟨a0,b0,c0,rfl,w,i,M,rfl,gw,rfl,rfl,M0,M1,h⟩:=z3j hT;have mb:=yt i 4 (by decide)
 refine ze (λL=>∃ks:List Str,(∀k∈ks,IsSh k)/\ks≠[]/\ks.length<=4/\L=[q_ (.str w),q_ (.int i),q_ (.int M),Q_ (.lst (ks.map D.str)),none,none,none,none]) ?_ ?_
 ·refine y9 (rngD 0 (1+i.fmod 4).toNat) (λN I=>?_) (λj fs=>∃ks:List Str,fs=ks.map D.str/\ks.length=j/\∀k∈ks,IsSh k) (by rw[xt];omega) ⟨[],rfl,rfl,λ_ z=>(nomatch z)⟩ ?_ ?_
  ·walk_at "dl";exact⟨by omega,by omega,I⟩
  ·rintro j e fs he a2 ⟨ks,rfl,kl,kg⟩;obtain⟨hj,rfl⟩:=vt he;obtain⟨r,r0,r1,er⟩:=C9 (i:=j) (by omega)
   obtain⟨k,gk,ek⟩:=Nl ((i.fdiv 4).fdiv r);walk_at "p";walk_at "dl";rw[er];walk_at "dl";rw[ek];refine⟨fdl,fdOk (m:=64) (by omega) (Y3 (by omega)),ks++[k],by rw[zMa];rfl,by rw[zLa,kl];rfl,λz hz=>?_⟩
   rcases zas.mp hz with hz|hz
   ·exact kg z hz
   rw[List.mem_singleton.mp hz];exact gk
  rintro fs ⟨ks,rfl,kl,kg⟩;rw[xt]at kl;exact⟨trivial,ks,kg,λz=>by rw[z,zLn]at kl;omega,by omega,rfl⟩
 rintro _ ⟨ks,kg,kn,kl,rfl⟩;obtain⟨s,gs,es⟩:=Nl (i.fdiv 324);refine z_g [q_ (.str w),q_ (.int i),q_ (.int M),Q_ (.lst (ks.map D.str)),q_ (.str s),none,none,none] ?_ ?_
 ·walk_at "dl";rw[es];exact⟨fdl,rfl⟩
 refine z_g [q_ (.str w),q_ (.int i),q_ (.int M),Q_ (.lst (ks.map D.str)),q_ (.str s),Q_ (.lst []),none,none] ?_ ?_
 ·walk_at "dl"
 refine ze (λL=>∃(ns:List Int)(a b:Option EV),ns.length=ks.length+1/\Szs s ks ns/\L=[q_ (.str w),q_ (.int i),q_ (.int M),Q_ (.lst (ks.map D.str)),q_ (.str s),Q_ (.lst (ns.map D.int)),a,b]) ?_ ?_
 ·refine ko (rngD 0 (ks.length+1)) (λN I=>?_) (λj L=>∃(ns:List Int)(a b:Option EV),ns.length=j/\Szs s ks ns/\L=[q_ (.str w),q_ (.int i),q_ (.int M),Q_ (.lst (ks.map D.str)),q_ (.str s),Q_ (.lst (ns.map D.int)),a,b]) ⟨[],none,none,rfl,λ_ _ z=>by simp at z,rfl⟩ ?_ ?_
  ·walk_at "dl";exact⟨by omega,by omega,by rw[show((ks.length:Int)+1).toNat=ks.length+1 by omega];exact I⟩
  ·rintro j d L hd ⟨ns,a,b,Z,ng,rfl⟩;obtain⟨hj,rfl⟩:=vt hd;rw[Int.zero_add];refine ze (λL=>∃n:Int,(0<=n/\n<10 ^ 60)/\L=[q_ (.str w),q_ (.int i),q_ (.int M),Q_ (.lst (ks.map D.str)),q_ (.str s),Q_ (.lst (ns.map D.int)),q_ (.int j),q_ (.int n)]) ?_ ?_
   ·have mm:=yt ((i.fdiv 972).fdiv (5*j+1)) M M0;walk_at "dl";exact⟨fdl,IntMulOk.of_left (by decide),fdOk (m:=64) (by omega) (Y3 (by omega)),by omega,_,by omega,rfl⟩
   rintro _ ⟨n,hn,rfl⟩;refine ze (λL=>∃n:Int,Sz s ks j n/\L=[q_ (.str w),q_ (.int i),q_ (.int M),Q_ (.lst (ks.map D.str)),q_ (.str s),Q_ (.lst (ns.map D.int)),q_ (.int j),q_ (.int n)]) ?_ ?_
   ·refine N4 (Q:=s≠"num"/\∀i,j=i+1->ks[i]?≠some ("num" : Str)) (λN I=>?_) ?_ (λq=>?_)
    ·walk_at "dl";refine⟨λ_=>I _ λz=>(nomatch z),λq1=>⟨λj0=>?_,λj0=>I _ λ_=>⟨q1,λi e=>by omega⟩⟩⟩
     rw[show(j:Int)-1=((j-1:Nat):Int) by omega,xx1 (by omega),zaf (by omega)]
     refine⟨by rw[xn];trivial,I _ λz=>⟨q1,λi e=>?_⟩⟩
     subst e;have hi:i<ks.length:=by omega
     have z':eqD (.str (ks[i]'hi)) (.str ("num" : Str))=false:=z;rw[ue]at z';rw[zaf hi];exact λy=>by rw[Option.some.inj y]at z';exact absurd z' (by decide)
    ·exact⟨trivial,0,⟨by decide,by decide,λ_=>rfl,λ_ _ _=>rfl⟩,rfl⟩
    exact⟨n,⟨hn.1,hn.2,λz=>absurd z q.1,λi e z=>absurd z (q.2 i e)⟩,rfl⟩
   rintro _ ⟨n,hn,rfl⟩;refine Yj rfl ?_;walk_at "dl";exact⟨by omega,ns++[n],_,_,by rw[zLa,Z];rfl,D9 ng (by rw[Z];exact hn),by rw[zMa];rfl⟩
  rintro L ⟨ns,a,b,Z,ng,rfl⟩;rw[xt]at Z;exact⟨ns,a,b,Z,ng,rfl⟩
 rintro _ ⟨ns,a,b,Z,ng,rfl⟩;have go:=z0f ng Z gs kg;have a1:=h ⟨w,ks,s,ns⟩ rfl ⟨gw,kn,kl,kg,gs,go.1,go.2⟩;walk_at "dl";exact⟨⟨xk _,qr _⟩,a1⟩
def Vl(T:Tops mg)(F:Fm K mg "_law_built" 62):FD P w K mg base 1 "_law_built" pL W8:=by
 have S:zt ["_law_name_here","_law_params","_law_shape","_law_size","_law_body_here","_law_words","_law_word","_law_kind"] pL (zh (top 62)):=by walk_at "f"
 walk_at "b";refine⟨_,(zd (zj (zm 5 S.nd (zy (z9 zg (z9 zg (z9 (za 0) (z9 zg zb)))))))
   (zd (zj (Zj (yp (za 1)) (xv (K0:=K) (n:=2) (by rfl) (by rfl) (ye (zo (i:=6) S.nd rfl (by walk_at "o")) (ye (zo (i:=7) S.nd rfl (by walk_at "o")) xu))) (w6 6 7) (zk (zm 5 S.nd (yb (za 5) (zy (z9 zg (z9 (za 6) (z9 (za 7) (z9 zg zb))))))))))
   (zd (zj (zm 5 S.nd (yb (yb (yb (za 5) (zy (z9 zg (z9 zg (z9 (za 2) zb))))) (yo (T:=["_law_number"]) (F:=[]) (js:=[]) (yp (za 3)) (cs1 (by walk_at "c")) .nil (by decide) (by walk_at "t") zx (yk 0) yG (λcl C fp s H=>(L5 T.str (z9 (za 0) zb))))) (zy (z9 zg zb)))))
   (zk (zw (yf (z9 (yf (z9 (za 0) (z9 (x5 T.tuple (z9 (za 1) zb)) (z9 (yf (z9 (za 2) (z9 (x5 T.tuple (z9 (za 3) zb)) zb))) (z9 (zn hu (za 4) zc) zb))))) (z9 (yb (yb (za 5) (zn hu (za 4) zc)) (zy (z9 zg zb))) zb)))))))),?_⟩
 obtain⟨a0,b0,c0,d0,e0,rfl,w,ps,s,ns,b,c,qq,rfl,gw,rfl,pl,pg,rfl,gs,rfl,nl,ng,rfl,a2,a1,Z,h⟩:=hT;refine z_g [q_ (.str w),q_ (.lst (ps.map prD)),q_ (.str s),q_ (.lst (ns.map D.int)),q_ (rowD (b,c)),Q_ (.lst (([lp,"fn",w,lp]:List Str).map D.str)),none,none] ?_ ?_
 ·walk_at "dl";rfl
 refine ze (λL=>∃x y,L=[q_ (.str w),q_ (.lst (ps.map prD)),q_ (.str s),q_ (.lst (ns.map D.int)),q_ (rowD (b,c)),Q_ (.lst (([lp,"fn",w,lp]++(ps.map prW).flatten).map D.str)),x,y]) ?_ ?_
 ·refine ko (ps.map prD) (λN I=>?_) (λj L=>∃x y,L=[q_ (.str w),q_ (.lst (ps.map prD)),q_ (.str s),q_ (.lst (ns.map D.int)),q_ (rowD (b,c)),Q_ (.lst (([lp,"fn",w,lp]++((ps.take j).map prW).flatten).map D.str)),x,y]) ⟨none,none,rfl⟩ ?_ ?_
  ·exact⟨trivial,I⟩
  ·rintro j d L hd ⟨x,y,rfl⟩;rw[zai]at hd;obtain⟨p,hp,rfl⟩:=zar.mp hd;have jl:=(zag.mp hp).1;have fl:=Uv (ps.take j);have tl:=List.length_take_le j ps;rw[Ja hp];simp only[prD];walk_at "dl";rw[zMa];exact⟨by rw[xq];omega,_,_,rfl⟩
  rintro L ⟨x,y,rfl⟩;rw[zLm,List.take_length];exact⟨x,y,rfl⟩
 rintro _ ⟨x,y,rfl⟩;refine z_g [q_ (.str w),q_ (.lst (ps.map prD)),q_ (.str s),q_ (.lst (ns.map D.int)),q_ (rowD (b,c)),Q_ (.lst (([lp,"fn",w,lp]++(ps.map prW).flatten++[rp,lp,s]++ns.map numS++[rp]).map D.str)),x,y] ?_ ?_
 ·have fl:=Uv ps;generalize (ps.map prW).flatten=qs at *;walk_at "dl";refine⟨by rw[xq];omega,?_⟩
  refine y9 (ns.map D.int) (λN I=>?_) (λi fs=>fs=((ns.take i).map λp=>D.str (numS p))) (by rw[zLm];omega) rfl ?_ ?_
  ·exact⟨trivial,I⟩
  ·rintro i e fs he a4 rfl;rw[zai]at he;obtain⟨p,hp,rfl⟩:=zar.mp he;have gp:=ng p (zan hp);walk_at "p";walk_at "dl";exact⟨M8 gp,by rw[gq _ hp];rfl⟩
  rintro fs rfl;rw[zLm,List.take_length];walk_at "dl";simp only[zLa,zLm,zLc,zLn,zMa,List.map_map];rw[xq];exact⟨by omega,by omega,rfl⟩
 have fl:=Uv ps;have bp:=(yq Z).2;have lk:=z2j c;have q:=h (bk ["fn",w] [bk [] (ps.map prW),brW (s::ns.map numS),c]) (Gg gw pl pg gs nl ng a2 a1 Z);rw[Hr]at q;have wl:([lp,"fn",w,lp]++(ps.map prW).flatten++[rp,lp,s]++ns.map numS++[rp]).length<=200:=by
  simp only[zLa,zLm,zLc,zLn];omega
 generalize [lp,"fn",w,lp]++(ps.map prW).flatten++[rp,lp,s]++ns.map numS++[rp]=qs at *;have pu:=xk (qs++c++[rp]);unfold rowD fnD at q;unfold rowD;rw[zMa,zMa]at q pu;walk_at "dl";exact⟨qr _,⟨Jb _,bp⟩,by rw[xq];omega,by rw[zLa,zLm,zLm,xq];omega,pu,q⟩
def g4(g:D->D->D->D->(EV->Prop)->Prop):FT:=λds U=>∃a b c d,ds=[a,b,c,d]/\g a b c d U
structure Gm(hs:List Hd)(h:Hd)(f:Fn):Prop where
 nm:f.name=h.name
 ks:f.params.map Prod.snd=h.kinds
 sh:f.shape=h.shape
 hd:uv f
 bd:Rb (hfs hs) f.shape 4 5 f.params f.body
def tFun:FT:=g4 λZ I q j U=>Z=.fd 0/\∃(hs:List Hd)(h:Hd)(i:Int),I=.lst (hs.map hdD)/\OkHs hs/\q=hdD h/\OkH h/\j=.int i/\∀f k,FuR f k->Gm hs h f->U ⟨.new,rowD (fnD f,k)⟩
def rowF(r:Fn×List Str):D:=rowD (fnD r.1,r.2)
def Gz:FT:=g1 λd U=>∃ns,d=.scr ns/\∀rs:List (Fn×List Str),(∀r∈rs,FuR r.1 r.2)->Gk 4 5 (rs.map Prod.fst) (λ_=>true)->(∀r∈rs,∃j:Nat,j<8/\r.1.name=nm (xm ns 0) j)->U ⟨.new,.lst (rs.map rowF)⟩
def psF(i:Int)(ks:List Str):List (Str×Str):=((List.range ks.length).map λj=>nm i (j:Nat)).zip ks
def zsF(i:Int)(n:Nat):List Str:=(List.range (25-n)).map λj=>nm i ((n+j:Nat):Int)
def Wr(i:Int):((List.range 25).map λj=>nm i ((j:Nat):Int)).Nodup:=by
 rw[List.Nodup,List.pairwise_map];refine List.Pairwise.imp_of_mem (R:=λa b=>a≠b) (λZ I q e=>q (Fv ?_ ?_ e)) List.nodup_range
 ·have:=List.mem_range.mp Z;omega
 have:=List.mem_range.mp I;omega
def Uu(i:Int)(ks:List Str):(psF i ks).length=ks.length:=by
 unfold psF;rw[List.length_zip,zLm,List.length_range,Nat.min_self]
def z1g{i:Int}{ks:List Str}{j:Nat}(h:j<ks.length):(psF i ks)[j]?=some (nm i (j:Nat),ks[j]):=by
 unfold psF;exact List.getElem?_zip_eq_some.mpr ⟨by rw[zai,List.getElem?_range h];rfl,zaf h⟩
def Nc(i:Int)(ks:List Str):(psF i ks).map Prod.snd=ks:=List.map_snd_zip (by rw[zLm,List.length_range];exact zaj _)
def Dy(i:Int)(ks:List Str):(psF i ks).map Prod.fst=(List.range ks.length).map λj=>nm i (j:Nat):=List.map_fst_zip (by rw[zLm,List.length_range];exact zaj _)
def Vd{i:Int}{ks:List Str}(h:ks.length<=25):((psF i ks).map Prod.fst++zsF i ks.length).Nodup:=by
 have e:(psF i ks).map Prod.fst++zsF i ks.length=(List.range 25).map λj=>nm i ((j:Nat):Int):=by
  rw[Dy];unfold zsF
  conv=>rhs;rw[show 25=ks.length+(25-ks.length) by omega,List.range_add,zMa,List.map_map]
  rfl
 rw[e];exact Wr i
def Nd{i:Int}{ks:List Str}(I:∀ k∈ks,IsSh k):∀p∈psF i ks,IsNm p.1/\IsSh p.2:=λp q=>by
 obtain⟨a,b⟩:=p;have:=List.of_mem_zip q;obtain⟨j,_,e⟩:=zah.mp this.1;exact⟨by show IsNm a;rw[<- e];exact wk i j,I _ this.2⟩
def Ao(i:Int)(n:Nat):∀z∈zsF i n,IsNm z:=λz hz=>by
 obtain⟨j,_,e⟩:=zah.mp hz;rw[<- e];exact wk i _
def Uh(i:Int)(n:Nat):(zsF i n).length=25-n:=by
 unfold zsF;rw[zLm,List.length_range]
def Mn{i:Int}{ks:List Str}(h:ks.length<=4)(j:∀ k∈ks,IsSh k):OkB 4 (psF i ks) (zsF i ks.length) :=
 ⟨⟨Nd j,(List.nodup_append.mp (Vd (i:=i) (ks:=ks) (by omega))).1,by rw[Uu];omega⟩,by rw[Uu];omega,Ao i _,Vd (by omega),by rw[Uh];omega,by rw[Uh];omega⟩
def sig(f:Fn):List Str×Str:=(f.params.map Prod.snd,f.shape)
theorem Mq:∀{fs gs:List Fn},fs.map (λf=>(f.name,sig f))=gs.map (λf=>(f.name,sig f))->∀z,(fnL fs z).map sig=(fnL gs z).map sig
 |[],[],_,_=>rfl
 |f::fs,g::gs,h,z=>by
  rw[List.map_cons,List.map_cons]at h;obtain⟨h1,h2⟩:=List.cons.inj h;have j:f.name=g.name:=congrArg Prod.fst h1;have q:sig f=sig g:=congrArg Prod.snd h1;show(if z=f.name then some f else fnL fs z).map sig=(if z=g.name then some g else fnL gs z).map sig
  by_cases e:z=f.name
  ·rw[if_pos e,if_pos (e.trans j),Option.map_some,Option.map_some,q]
  rw[if_neg e,if_neg (λy=>e (y.trans j.symm))];exact Mq h2 z
def Ge{fs j:List Fn}(h:∀ z,(fnL fs z).map sig=(fnL j z).map sig)(f:Str)(rs:List (Option Str)):b8 fs f rs=b8 j f rs:=by
 have:=h f;unfold b8;cases h1:fnL fs f <;> cases h2:fnL j f <;> rw[h1,h2]at this
 ·cases this
 ·cases this
 have e:=Option.some.inj this;show ifS rs (sig _).1 (sig _).2=ifS rs (sig _).1 (sig _).2;rw[e]
theorem Zi{fs j:List Fn}(h:∀ z,(fnL fs z).map sig=(fnL j z).map sig){env:List (Str×Str)}:∀{n:Nat}{e:D}{r:Option Str},Sh1 fs env n e r->Sh1 j env n e r
 |0,_,_,q=>q.elim
 |n+1,e,r,q=>by
  rcases q with q|q|⟨f,es,rs,he,hp,hl,hc⟩|⟨o,es,rs,n1,n2,n3,he,hp,hl,hc⟩
  ·exact .inl q
  ·exact .inr (.inl q)
  ·exact .inr (.inr (.inl ⟨f,es,rs,he,⟨hp.1,λi e c a b=>Zi h (hp.2 i e c a b)⟩,hl,by rw[hc,Ge h]⟩))
  exact .inr (.inr (.inr ⟨o,es,rs,n1,n2,n3,he,⟨hp.1,λi e c a b=>Zi h (hp.2 i e c a b)⟩,hl,hc⟩))
theorem Zp{fs Z:List Fn}(h:∀ z,(fnL fs z).map sig=(fnL Z z).map sig){due:Str}{M:Nat}:∀{n:Nat}{env:List (Str×Str)}{b:D}{v:Bool},Bd fs due M n env b v->Bd Z due M n env b v
 |0,_,_,_,q=>q.elim
 |n+1,env,b,v,q=>by
  rcases q with⟨e,r,s,q⟩|⟨z,e,r,b1,h1,h2,j,q⟩|⟨e1,e2,r1,r2,b1,b2,h1,h2,j,q⟩|⟨k,z,b1,zs,ks,b2,h1,h2,j,h4,q⟩
  ·exact .inl ⟨e,r,Zi h s,q⟩
  ·exact .inr (.inl ⟨z,e,r,b1,Zi h h1,h2,j,q.imp (λ⟨s,a,b,c⟩=>⟨s,a,b,Zp h c⟩) id⟩)
  ·exact .inr (.inr (.inl ⟨e1,e2,r1,r2,b1,b2,Zi h h1,Zi h h2,j,q.imp (λ⟨a,b,I,v2,c,d,e⟩=>⟨a,b,I,v2,Zp h c,Zp h d,e⟩) id⟩))
  exact .inr (.inr (.inr ⟨k,z,b1,zs,ks,b2,h1,h2,j,h4,q.imp id λ⟨a,I,c,d⟩=>⟨a,I,Zp h c,d.imp id λ⟨x,y⟩=>⟨x,y.imp (λ⟨u,w⟩=>⟨u,Zp h w⟩) id⟩⟩⟩))
def Az:FT:=g1 λd U=>∃ws:List Str,d=.lst (ws.map D.str)/\wsum ws<=16000000/\U (dv (.str (t8 ws)))
def Nk(x:Int):∃r:Int,1<=r/\r<=8/\atI [D.int 1,D.int 2,D.int 3,D.int 8] (x.fmod 4)=some (.int r):=by
 have m:=yt x 4 (by decide)
 rcases(by omega:x.fmod 4=0\/x.fmod 4=1\/x.fmod 4=2\/x.fmod 4=3) with e|e|e|e
 ·exact⟨1,by decide,by decide,by rw[e,jg]⟩
 ·exact⟨2,by decide,by decide,by rw[e,jf]⟩
 ·exact⟨3,by decide,by decide,by rw[e,Ly]⟩
 exact⟨8,by decide,by decide,by rw[e];exact xx1 (l:=[D.int 1,D.int 2,D.int 3,D.int 8]) (i:=3) (by decide)⟩
def Nj(x:Int):∃r:Int,0<r/\r<=10 ^ 60/\atI [D.int (10 ^ 60),D.int 3,D.int 1000] (x.fmod 3)=some (.int r):=by
 have m:=yt x 3 (by decide)
 rcases(by omega:x.fmod 3=0\/x.fmod 3=1\/x.fmod 3=2) with e|e|e
 ·exact⟨10 ^ 60,by decide,by decide,by rw[e,jg]⟩
 ·exact⟨3,by decide,by decide,by rw[e,jf]⟩
 exact⟨1000,by decide,by decide,by rw[e,Ly]⟩
def Gb(ns:List Int)(a:Option Int):∃xs:List Int,cutD (ns.map D.int) a (some 75)=xs.map D.int/\xs.length<=75:=by
 unfold ZZ.cutD;rw[<- List.map_drop,<- List.map_take];refine⟨_,rfl,?_⟩;have:ZZ.sIx (ns.map D.int).length (ns.map D.int).length (some 75)<=75:=by
  have:=ZZ.sIx_nat (ns.map D.int).length (ns.map D.int).length 75;rw[show(some (75:Int))=some ((75:Nat):Int) from rfl,this];exact Nat.min_le_left _ _
 have l:=List.length_take_le (ZZ.sIx (ns.map D.int).length (ns.map D.int).length (some 75)-ZZ.sIx (ns.map D.int).length 0 a) (ns.drop (ZZ.sIx (ns.map D.int).length 0 a));omega
structure Sl(hs:List Hd)(i:Nat)(ds:List D)(rs:List (Fn×List Str)):Prop where
 eq:ds=rs.map rowF
 ln:rs.length=i
 ok:∀(j:Nat)(r:Fn×List Str)(h:Hd),rs[j]?=some r->hs[j]?=some h->FuR r.1 r.2/\Gm hs h r.1
def N8{I:List Hd}{i:Nat}{ds:List D}{rs:List (Fn×List Str)}{f:Fn}{c:List Str}{h:Hd}(R:Sl I i ds rs)(hk:I[i]?=some h)(g:FuR f c)(g21:Gm I h f):Sl I (i+1) (ds++[rowD (fnD f,c)]) (rs++[(f,c)]):=by
 refine⟨by rw[R.eq,zMa];rfl,by simp[R.ln],λj r k' hr q=>?_⟩
 rcases Nat.lt_or_ge j rs.length with hj|hj
 ·rw[List.getElem?_append_left hj]at hr;exact R.ok j r k' hr q
 rw[List.getElem?_append_right hj]at hr;have Z:j-rs.length=0:=by
  rcases Nat.eq_zero_or_pos (j-rs.length) with z|z
  ·exact z
  rw[List.getElem?_eq_none (by rw[List.length_singleton];exact z)]at hr;cases hr
 rw[Z]at hr;cases hr;have:j=i:=by have:=R.ln;omega
 subst this;rw[hk]at q;cases q;exact⟨g,g21⟩
theorem M6{α I q:Type}(f:α->q)(g:I->q):∀(xs:List α)(ys:List I),xs.length=ys.length->(∀(j:Nat) x y,xs[j]?=some x->ys[j]?=some y->f x=g y)->xs.map f=ys.map g
 |[],[],_,_=>rfl
 |x::xs,y::ys,hl,h=>by
  rw[List.map_cons,List.map_cons,h 0 x y rfl rfl,M6 f g xs ys (Nat.succ.inj hl) λj a b ha Z=>h (j+1) a b ha Z]
def Sl.prog{I:List Hd}{ds:List D}{rs:List (Fn×List Str)}(R:Sl I I.length ds rs)(oh:OkHs I)(h1:1<=I.length):(∀r∈rs,FuR r.1 r.2)/\Gk 4 5 (rs.map Prod.fst) (λ_=>true):=by
 have at':∀r∈rs,∃h∈I,FuR r.1 r.2/\Gm I h r.1:=λr hr=>by
  obtain⟨j,hj⟩:=List.getElem?_of_mem hr;have hl:j<I.length:=by rw[<- R.ln];exact(zag.mp hj).1
  exact⟨I[j],List.getElem_mem hl,R.ok j r _ hj (zaf hl)⟩
 have Z:(rs.map Prod.fst).map Fn.name=I.map Hd.name:=by
  rw[List.map_map];exact M6 _ _ rs I R.ln λj r h hr hh=>(R.ok j r h hr hh).2.nm
 have sg:(hfs I).map (λf=>(f.name,sig f))=(rs.map Prod.fst).map (λf=>(f.name,sig f)):=by
  unfold hfs;rw[List.map_map,List.map_map];refine(M6 _ _ rs I R.ln λj r h hr hh=>?_).symm;have q:=(R.ok j r h hr hh).2;show(r.1.name,(r.1.params.map Prod.snd,r.1.shape))=(h.name,((h.kinds.map λk=>(("" : Str),k)).map Prod.snd,h.shape));rw[q.nm,q.ks,q.sh,List.map_map,show(Prod.snd ∘ λk:Str=>(("" : Str),k))=id from rfl,List.map_id]
 refine⟨λr hr=>(at' r hr).elim λh q=>q.2.1,by rw[zLm,R.ln];exact h1,by rw[zLm,R.ln];exact oh.ln,λf hf=>?_,by rw[Z];exact oh.nd,λf hf=>?_⟩
 ·obtain⟨r,hr,rfl⟩:=zah.mp hf;exact(at' r hr).elim λh q=>q.2.2.hd
 obtain⟨r,hr,rfl⟩:=zah.mp hf;exact(at' r hr).elim λh q=>Zp (Mq sg) q.2.2.bd
def Sl.names{q:List Hd}{ds:List D}{rs:List (Fn×List Str)}{m:Nat}{c:Int}(R:Sl q q.length ds rs)(Z:q.map Hd.name=(List.range m).map λj=>nm c (j:Nat))(hm:m<=8):∀r∈rs,∃j:Nat,j<8/\r.1.name=nm c j:=λr hr=>by
 obtain⟨j,I⟩:=List.getElem?_of_mem hr;have hl:j<q.length:=by rw[<- R.ln];exact(zag.mp I).1
 have e:=(R.ok j r _ I (zaf hl)).2.nm;have:q[j].name∈q.map Hd.name:=zah.mpr ⟨_,List.getElem_mem hl,rfl⟩;rw[Z]at this;obtain⟨i,hi,e2⟩:=zah.mp this;exact⟨i,by have:=List.mem_range.mp hi;omega,e.trans e2.symm⟩
def cc(T:Tops mg)(a2:FD P w K mg base 1 "_law_name" pF bw)(a5:FD P w K mg base 17 "_law_body" pH (On 5))(a4:FD P w K mg base 1 "_law_built" pL W8)(F:Fm K mg "_law_function" 63):FD P w K mg base 18 "_law_function" pP tFun:=by
 have S:zt ["_law_feed","_law_heads","_law_head_here","_law_words","_law_params","_law_names","_law_body_here"] pP (zh (top 63)):=by walk_at "f"
 walk_at "b";refine⟨_,(zd (zj (yn (T:=["_law_k"]) (F:=["_law_words","_law_head_here"]) (js:=[3,2]) 4 S.nd (wt T.range (z9 (w5 T.len (z9 (zn hu (za 2) zc) zb)) zb)) (cs1 (by walk_at "c")) (.cons rfl (.cons rfl .nil)) (by decide) (by walk_at "t") zx (yk 0) yG (λcl C fp s H=>(vb (z9 (zi a2 (hr.e rfl) (z9 (za 1) (z9 (za 0) zb))) (z9 (zn hu (zn hu (za 2) zc) (za 0)) zb))))))
   (zd (zj (yn (T:=["_law_k"]) (F:=["_law_words"]) (js:=[3]) 5 S.nd (L4 T.range (z9 (w5 T.len (z9 (za 4) zb)) (z9 zc zb))) (cs1 (by walk_at "c")) (.cons rfl .nil) (by decide) (by walk_at "t") zx (yk 0) yG (λcl C fp s H=>(zi a2 (hr.e rfl) (z9 (za 1) (z9 (za 0) zb))))))
   (zd (zj (tj 5 (tj 4 (zm 6 S.nd (zi a5 (hr.e rfl) (z9 (za 0) (z9 (za 1) (z9 (za 4) (z9 (za 5) (z9 (zn hu (za 2) zc) (z9 zc zb)))))))))))
   (zk (zw (zi a4 (hr.e rfl) (z9 (zn hu (za 2) zc) (z9 (za 4) (z9 (zn hu (za 2) zc) (z9 (zn hu (za 2) zc) (z9 (za 6) zb))))))))))),?_⟩
 obtain⟨a0,b0,c0,d0,rfl,rfl,hs,q,i,rfl,oh,rfl,I,rfl,h⟩:=hT;have k4:=I.n4;have k0:=List.length_pos_iff.mpr I.n0;have pl:=Uu i q.kinds;have zl:=Uh i q.kinds.length;refine z_g [q_ (.fd 0),q_ (.lst (hs.map hdD)),q_ (hdD q),q_ (.int i),Q_ (.lst ((psF i q.kinds).map prD)),none,none] ?_ ?_
 ·refine y9 (rngD 0 q.kinds.length) (λN Z=>?_) (λj fs=>fs=((psF i q.kinds).take j).map prD) (by rw[xt];omega) rfl ?_ ?_
  ·simp only[hdD];walk_at "dl";rw[Int.toNat_natCast];exact⟨by omega,by omega,Z⟩
  ·rintro j e fs he a6 rfl;obtain⟨hj,rfl⟩:=vt he;walk_at "p";simp only[hdD];walk_at "dl";simp only[bw,ZZ.g2];rw[xx1 hj,zaf hj];refine⟨i,j,rfl,rfl,by omega,trivial,?_⟩
   rw[List.take_succ,z1g hj,zMa];rfl
  rintro fs rfl;rw[xt,List.take_of_length_le (by omega)]
  exact⟨trivial,rfl⟩
 refine z_g [q_ (.fd 0),q_ (.lst (hs.map hdD)),q_ (hdD q),q_ (.int i),Q_ (.lst ((psF i q.kinds).map prD)),Q_ (.lst ((zsF i q.kinds.length).map D.str)),none] ?_ ?_
 ·refine y9 (rngD q.kinds.length (25-q.kinds.length)) (λN Z=>?_) (λj fs=>fs=((zsF i q.kinds.length).take j).map D.str) (by rw[xt];omega) rfl ?_ ?_
  ·walk_at "dl";rw[pl];exact⟨⟨by omega,by omega,by decide,by decide⟩,by rw[show((25:Int)-q.kinds.length).toNat=25-q.kinds.length by omega];exact Z⟩
  ·rintro j e fs he a6 rfl;obtain⟨hj,rfl⟩:=vt he;walk_at "p";walk_at "dl";simp only[bw,ZZ.g2];have ez:(zsF i q.kinds.length)[j]?=some (nm i ((q.kinds.length+j:Nat):Int)):=by
    unfold zsF;rw[zai,List.getElem?_range hj];rfl
   refine⟨i,q.kinds.length+j,rfl,rfl,by omega,trivial,?_⟩
   rw[List.take_succ,ez,zMa];rfl
  rintro fs rfl;rw[xt,List.take_of_length_le (by omega)]
  exact⟨trivial,rfl⟩
 refine ze (λL=>∃(b:D)(c:List Str),Bo 5 b c/\Rb (hfs hs) q.shape 4 5 (psF i q.kinds) b/\L=[q_ (.fd 0),q_ (.lst (hs.map hdD)),q_ (hdD q),q_ (.int i),q_ (.lst ((psF i q.kinds).map prD)),q_ (.lst ((zsF i q.kinds.length).map D.str)),q_ (rowD (b,c))]) ?_ ?_
 ·simp only[hdD];exact⟨rfl,_,_,_,_,_,_,rfl,rfl,hs,psF i q.kinds,zsF i q.kinds.length,q.shape,rfl,oh,rfl,Mn k4 I.kinds,rfl,rfl,I.shape,rfl,by decide,λb c a8 a1=>⟨trivial,b,c,a8,a1,rfl⟩⟩
 rintro _ ⟨b,c,hb,a1,rfl⟩;obtain⟨qq,q1,q2,q3⟩:=Xx 5 b c hb;simp only[hdD];exact⟨rfl,_,_,_,_,_,rfl,q.name,psF i q.kinds,q.shape,q.size,b,c,qq,rfl,I.name,rfl,by omega,Nd I.kinds,rfl,I.shape,rfl,by rw[I.gv.sz];omega,I.size,rfl,q1,q2,q3,λk a7=>⟨trivial,h ⟨q.name,psF i q.kinds,q.shape,q.size,b⟩ k a7 ⟨rfl,Nc i q.kinds,rfl,⟨I.name,by show 1<=(psF i q.kinds).length;omega,by show(psF i q.kinds).length<=4;omega,λp hp=>(Nd I.kinds p hp).1,(Mn (i:=i) k4 I.kinds).ot.nd,by show ji q.shape q.size ((psF i q.kinds).map Prod.snd);rw[Nc];exact I.gv⟩,a1⟩⟩⟩
def S0(T:Tops mg)(F:Fm K mg "_law_line" 65):FD P w K mg base 1 "_law_line" ["_law_words"] Az:=by
 have S:zt ["_law_words","_law_line_here","_law_k"] ["_law_words"] (zh (top 65)):=by walk_at "f"
 walk_at "b";refine⟨_,(zd (zj (zm 1 S.nd zg))
   (zd (zj (Zj (wt T.range (z9 (w5 T.len (z9 (za 0) zb)) zb)) (zo (i:=2) S.nd rfl (by walk_at "o")) (yk 2) (zd (zj (yi (EW.et (ci (Hy (za 2) zc) (ci (qx hu (zn hu (za 0) (uk (za 2) zc)) zg) (jb (qx hu (zn hu (za 0) (za 2)) zg))))) (zk (zm 1 S.nd (yb (za 1) zg))) ya))
    (zk (zm 1 S.nd (yb (za 1) (zn hu (za 0) (za 2))))))))
   (zk (zw (za 1))))),?_⟩
 obtain⟨d,rfl,q,rfl,hw,h⟩:=vm hT;refine z_g [q_ (.lst (q.map D.str)),q_ (.str ""),none] ?_ ?_
 ·exact⟨trivial,rfl⟩
 refine ze (λL=>∃a,L=[q_ (.lst (q.map D.str)),q_ (.str (t8 q)),a]) ?_ ?_
 ·refine ko (rngD 0 q.length) (λN a0=>?_) (λj L=>∃a,L=[q_ (.lst (q.map D.str)),q_ (.str (t8 (q.take j))),a]) ⟨none,rfl⟩ ?_ ?_
  ·have:=v8 q;walk_at "dl";rw[Int.toNat_natCast];exact⟨by omega,by omega,a0⟩
  ·rintro j d L hd ⟨a,rfl⟩;obtain⟨I,rfl⟩:=vt hd;rw[Int.zero_add];have st:=Wu I;have ll:=Rt (q.take (j+1));have lw:=W2 q (j+1);have l0:=Rt (q.take j);have w0:=W2 q j;rw[st,sLn,sLn]at ll;rw[st];have Z:(" " : Str).length=1:=by decide +kernel
   refine z_g [q_ (.lst (q.map D.str)),q_ (.str (t8 (q.take j)++sep (prev q j) q[j])),q_ (.int j)] ?_ ?_
   ·cases j with
    |zero =>
     rw[show prev q 0=none from rfl,show sep none q[0] = "" from rfl,sR];walk_at "dl";exact λz=>absurd z (by decide)
    |succ k =>
     have hk:k<q.length:=by omega
     rw[show prev q (k+1)=some q[k] from zaf hk];walk_at "dl";rw[show((k+1:Nat):Int)-1=(k:Int) by omega,xx1 hk,zaf hk,xx1 I,zaf I]
     have s1:q[k]≠"("->q[k+1]≠")"->sep (some q[k]) q[k+1] = " ":=λa b=>if_pos ⟨a,b⟩;have s2:q[k] = "("->sep (some q[k]) q[k+1] = "":=λa=>if_neg λz=>z.1 a;have s3:q[k+1] = ")"->sep (some q[k]) q[k+1] = "":=λa=>if_neg λz=>z.2 a;walk_at "dl";refine⟨λ_=>⟨λn1=>⟨λn2=>⟨by rw[Z,xq];omega,by rw[s1 n1 n2]⟩,λe2=>by rw[s3 e2,sR]⟩,λe1=>by rw[s2 e1,sR]⟩,λz=>absurd (by omega:(0:Int)<((k+1:Nat):Int)) z⟩
   walk_at "dl";rw[xx1 I,zaf I];exact⟨by rw[sLn,xq];omega,_,rfl⟩
  rintro L ⟨a,rfl⟩;rw[xt,List.take_length];exact⟨a,rfl⟩
 rintro _ ⟨a,rfl⟩;exact⟨trivial,h⟩
def Vk(T:Tops mg)(a1:FD P w K mg base 1 "_law_cell_at" pN fi)(a5:FD P w K mg base 1 "_law_name" pF bw)(a2:FD P w K mg base 1 "_law_head" pT D5)(a4:FD P w K mg base 18 "_law_function" pP tFun)(F:Fm K mg "_law_grown" 64):FD P w K mg base 19 "_law_grown" ["_law_script"] Gz:=by
 have S:zt ["_law_script","_law_first","_law_many","_law_heads","_law_k","_law_most","_law_feed"] ["_law_script"] (zh (top 64)):=by walk_at "f"
 walk_at "b";refine⟨_,(zd (zj (zm 1 S.nd (zi a1 (hr.e rfl) (z9 (za 0) (z9 zc zb)))))
   (zd (zj (zm 2 S.nd (zn hu (zy (z9 zc (z9 zc (z9 zc (z9 zc zb))))) (yj (za 1) zc))))
   (zd (zj (zm 3 S.nd (zy zb)))
   (zd (zj (Zj (wt T.range (z9 (za 2) zb)) (zo (i:=4) S.nd rfl (by walk_at "o")) (yk 4) (zd (zj (zm 5 S.nd (zn hu (zy (z9 (cm zc zc) (z9 zc (z9 zc zb)))) (yj (yb (v5 (za 1) zc) (za 4)) zc))))
    (zd (zj (yi (xh hu (za 2) zc) (zk (zm 5 S.nd zc)) ya))
    (zk (qi 3 (zi a2 (hr.e rfl) (z9 (zi a5 (hr.e rfl) (z9 (zi a1 (hr.e rfl) (z9 (za 0) (z9 zc zb))) (z9 (za 4) zb))) (z9 (zi a1 (hr.e rfl) (z9 (za 0) (z9 (yb zc (za 4)) zb))) (z9 (za 5) zb))))))))))
   (zd (zj (zm 6 S.nd (yb (zy (z9 zc zb)) (yo (T:=["_law_cell"]) (F:=[]) (js:=[]) (yp (xc (za 0) (xi (yb zc (za 2))) (xi zc))) (cs1 (by walk_at "c")) .nil (by decide) (by walk_at "t") zx (yk 0) yG (λcl C fp s H=>(yj (za 0) (cm zc zc)))))))
   (zk (Dn 6 0 (tj 3 (zw (Q9 (T:=["_law_head_here"]) (F:=["_law_feed","_law_heads","_law_script"]) (js:=[6,3,0]) (yp (za 3)) (cs1 (by walk_at "c")) (.cons rfl (.cons rfl (.cons rfl .nil))) (by decide) (by walk_at "t") zx (yk 0) yG (λcl C fp s H=>(zi a4 (hr.e rfl) (z9 (za 1) (z9 (za 2) (z9 (za 0) (z9 (zi a1 (hr.e rfl) (z9 (za 3) (z9 zc zb))) zb)))))))))))))))),?_⟩
 obtain⟨d,rfl,ns,rfl,h⟩:=vm hT;refine ze (λL=>∃c:Int,L=[q_ (.scr ns),q_ (.int c),none,none,none,none,none]) ?_ ?_
 ·walk_at "dl";simp only[fi,ZZ.g2];exact⟨ns,2,rfl,rfl,trivial,_,rfl⟩
 rintro _ ⟨c,rfl⟩;obtain⟨q,q0,q8,eq⟩:=Nk c;refine z_g [q_ (.scr ns),q_ (.int c),q_ (.int q),none,none,none,none] ?_ ?_
 ·walk_at "dl";rw[eq]
 refine z_g [q_ (.scr ns),q_ (.int c),q_ (.int q),Q_ (.lst []),none,none,none] ?_ ?_
 ·walk_at "dl"
 refine ze (λL=>∃(hs:List Hd)(a b:Option EV),(hs.map Hd.name=(List.range q.toNat).map λj=>nm (xm ns 0) (j:Nat))/\(∀h∈hs,OkH h)/\L=[q_ (.scr ns),q_ (.int c),q_ (.int q),Q_ (.lst (hs.map hdD)),a,b,none]) ?_ ?_
 ·refine ko (rngD 0 q.toNat) (λN I=>?_) (λj L=>∃(hs:List Hd)(a b:Option EV),(hs.map Hd.name=(List.range j).map λj=>nm (xm ns 0) (j:Nat))/\(∀h∈hs,OkH h)/\L=[q_ (.scr ns),q_ (.int c),q_ (.int q),Q_ (.lst (hs.map hdD)),a,b,none]) ⟨[],none,none,rfl,λ_ z=>(nomatch z),rfl⟩ ?_ ?_
  ·exact⟨by omega,by omega,I⟩
  ·rintro j d L hd ⟨hs,a,b,a0,hg,rfl⟩;obtain⟨hj,rfl⟩:=vt hd;rw[Int.zero_add];obtain⟨M,M0,M1,eM⟩:=Nj (c.fdiv 4+j);refine ze (λL=>∃M:Int,0<M/\M<=10 ^ 60/\L=[q_ (.scr ns),q_ (.int c),q_ (.int q),Q_ (.lst (hs.map hdD)),q_ (.int j),q_ (.int M),none]) ?_ ?_
   ·walk_at "dl";rw[eM];exact⟨fdl,M,M0,M1,rfl⟩
   rintro _ ⟨M,M0,M1,rfl⟩;refine ze (λL=>∃M:Int,0<M/\M<=10 ^ 60/\L=[q_ (.scr ns),q_ (.int c),q_ (.int q),Q_ (.lst (hs.map hdD)),q_ (.int j),q_ (.int M),none]) ?_ ?_
   ·walk_at "dl";exact⟨λ_=>⟨1000,by decide,by decide,rfl⟩,λ_=>⟨M,M0,M1,rfl⟩⟩
   rintro _ ⟨M,M0,M1,rfl⟩;refine Yj rfl ?_;walk_at "dl";simp only[fi,bw,D5,ZZ.g2,ZZ.g3];have b4:hs.length=j:=by have:=congrArg List.length a0;rwa [zLm,zLm,List.length_range]at this
   refine⟨ns,0,rfl,rfl,xm ns 0,j,rfl,rfl,by omega,ns,3+j,rfl,by rw[show((3+j:Nat):Int)=3+(j:Int) by omega],_,_,M,rfl,wk _ _,rfl,rfl,M0,M1,λhd Z a6=>⟨trivial,by omega,hs++[hd],_,_,by rw[zMa,a0,List.range_succ,zMa,List.map_singleton,Z];rfl,λz hz=>?_,by rw[zMa];rfl⟩⟩
   rcases zas.mp hz with hz|hz
   ·exact hg z hz
   rw[List.mem_singleton.mp hz];exact a6
  rintro L ⟨hs,a,b,a0,hg,rfl⟩;rw[xt]at a0;exact⟨hs,a,b,a0,hg,rfl⟩
 rintro _ ⟨hs,a,b,Z,hg,rfl⟩;have b3:hs.length=q.toNat:=by have:=congrArg List.length Z;rwa [zLm,zLm,List.length_range]at this
 have oh:OkHs hs:=⟨hg,by omega,by
  rw[Z];have nd:=Wr (xm ns 0);rw[show 25=q.toNat+(25-q.toNat) by omega,List.range_add,zMa]at nd
  exact(List.nodup_append.mp nd).1⟩
 obtain⟨xs,ex,lx⟩:=Gb ns (some (3+q));refine ze (λL=>∃fs:List Int,1<=fs.length/\fs.length<=100/\L=[q_ (.scr ns),q_ (.int c),q_ (.int q),Q_ (.lst (hs.map hdD)),a,b,Q_ (.lst (fs.map D.int))]) ?_ ?_
 ·walk_at "dl";refine y9 (xs.map D.int) (λN I=>?_) (λi fs=>∃zs:List Int,fs=zs.map D.int/\zs.length=i) (by rw[zLm];omega) ⟨[],rfl,rfl⟩ ?_ ?_
  ·walk_at "dl";rw[ex];exact I
  ·rintro i e fs he a7 ⟨zs,rfl,lz⟩;rw[zai]at he;obtain⟨p,hp,rfl⟩:=zar.mp he;walk_at "p";walk_at "dl";exact⟨zs++[_],by rw[zMa];rfl,by rw[zLa,lz];rfl⟩
  rintro fs ⟨zs,rfl,lz⟩;rw[zLm]at lz;walk_at "dl";exact⟨by rw[xq];omega,40::zs,by rw[zLc];omega,by rw[zLc];omega,rfl⟩
 rintro _ ⟨fs,f1,b0,rfl⟩;refine⟨fs,rfl,⟨by omega,λ_=>f1,λn hn hm=>absurd hm (by decide)⟩,?_⟩
 walk_at "dl";refine Vu (hs.map hdD) (λN I=>?_) (λi ds=>∃rs,Sl hs i ds rs) (by rw[zLm];omega) ⟨[],rfl,rfl,λ_ _ _ z=>by simp at z⟩ ?_ ?_
 ·exact⟨trivial,I⟩
 ·rintro i e gs he a7 ⟨qs,wd⟩;rw[zai]at he;obtain⟨p,hp,rfl⟩:=zar.mp he;walk_at "p";walk_at "dl";simp only[fi,ZZ.g2];exact⟨ns,1,rfl,rfl,_,_,_,_,rfl,rfl,hs,p,_,rfl,oh,rfl,hg p (zan hp),rfl,λf k a9 a8=>⟨trivial,_,N8 wd hp a9 a8⟩⟩
 rintro gs ⟨rs,R⟩;rw[zLm]at R;have e:=R.eq;subst e;obtain⟨g1,g21⟩:=R.prog oh (by omega)
 exact⟨trivial,h rs g1 g21 (R.names Z (by omega))⟩
def Kl:FT:=g21 λe c U=>∃ws:List Str,re e/\c=.lst (ws.map D.str)/\ws.length<=100/\U ⟨.new,rowD (.tup [.str "give",e],bk ["give"] [ws])⟩
def S2(T:Tops mg)(F:Fm K mg "_law_give" 66):FD P w K mg base 1 "_law_give" pM Kl:=by
 have S:zt ["_law_e_here","_law_words"] pM (zh (top 66)):=by walk_at "f"
 walk_at "b";refine⟨_,(zk (zw (yf (z9 (yf (z9 zg (z9 (za 0) zb))) (z9 (yb (yb (zy (z9 zg (z9 zg zb))) (za 1)) (zy (z9 zg zb))) zb))))),?_⟩;obtain⟨a0,b0,rfl,j,I,rfl,hl,h⟩:=hT;have q:=xk (bk ["give"] [j]);have Z:bk ["give"] [j]=[lp,"give"]++j++[rp]:=by simp[bk]
 unfold rowD at h;rw[Z,zMa,zMa]at h q;walk_at "dl";exact⟨I,by rw[xq];omega,by rw[xq];omega,q.2.2,h⟩
def z0d:FT:=g4 λq Z I j U=>∃(y c i:Int)(w:Str),q=.int y/\(0<=y/\y<8)/\Z=.int c/\0<=c/\c<10 ^ 63/\I=.str w/\IsNm w/\j=.int i/\∀f k,FuR f k->¬ uv f->f.name=w->U ⟨.new,rowD (fnD f,k)⟩
def p08(i:Int):List (Str×Str):=[(nm i 0,"list"),(nm i 1,"num")]
def n08(c:Int):List Int:=[c.fmod (10 ^ 60),1,0]
structure BadP(ps:List (Str×Str))(ns:List Int)(s:Str):Prop where
 pl:ps.length<=10
 pg:∀p∈ps,IsNm p.1/\IsSh p.2
 sh:s = "list"\/s = "num"
 nl:ns.length<=20
 ng:∀n∈ns,n.natAbs<10 ^ 60
 no:∀w b,¬ uv ⟨w,ps,s,ns,b⟩
def BS(c i:Int)(w:Str)(y k:Int)(L:DE):Prop:=∃ps ns s,L=[q_ (.int y),q_ (.int c),q_ (.str w),q_ (.int i),Q_ (.lst (ps.map prD)),Q_ (.lst (ns.map D.int)),q_ (.str s),none]/\((y<k/\BadP ps ns s)\/(k<=y/\ps=p08 i/\ns=n08 c/\s = "list"))
def U1{c i:Int}{w:Str}{y k:Int}{L:DE}{A:TDS}{Z:DZ}(h:BS c i w y k L)(j:y=k->A [q_ (.int y),q_ (.int c),q_ (.str w),q_ (.int i),Q_ (.lst ((p08 i).map prD)),Q_ (.lst ((n08 c).map D.int)),q_ (.str "list"),none] {Z with nx:=BS c i w y (k+1)}):sIf (tBo (d2 sEq (cv 0) (dC (.int k)))) A sNil L {Z with nx:=BS c i w y (k+1)}:=by
 obtain⟨ps,ns,s,rfl,h⟩:=h;show okD 40 (D.int y)/\okD 40 (D.int k)/\(eqD (D.int y) (D.int k)=true->_)/\(eqD (D.int y) (D.int k)=false->_);rw[uc,uc,Xp];refine⟨trivial,trivial,λe=>?_,λe=>?_⟩
 ·have e:y=k:=of_decide_eq_true e;rcases h with h|⟨_,rfl,rfl,rfl⟩
  ·omega
  exact j e
 have e:y≠k:=of_decide_eq_false e;exact⟨ps,ns,s,rfl,h.imp (λz=>⟨by omega,z.2⟩) λz=>⟨by omega,z.2⟩⟩
def Nt(i:Int):∀p∈p08 i,IsNm p.1/\IsSh p.2:=λp j=>by
 rcases zam.mp j with rfl|j
 ·exact⟨wk i 0,.inr (.inl rfl)⟩
 rw[List.mem_singleton.mp j];exact⟨wk i 1,.inl rfl⟩
def Xz{i:Int}{ns:List Int}(h:ns.length≠3)(h2:ns.length<=20)(j:∀ n∈ns,n.natAbs<10 ^ 60):BadP (p08 i) ns "list":=⟨by show 2<=10;decide,Nt i,.inl rfl,h2,j,λw b q=>h q.gv.sz⟩
def mod3(c:Int):c.fmod 3=0\/c.fmod 3=1\/c.fmod 3=2:=by have:=yt c 3 (by decide);omega
def mod2(c:Int):c.fmod 2=0\/c.fmod 2=1:=by have:=yt c 2 (by decide);omega
def al1{Q:Int->Prop}{a:Int}(h:Q a):∀n∈[a],Q n:=λn j=>by rw[List.mem_singleton.mp j];exact h
def al2{Q:Int->Prop}{a:Int}{l:List Int}(h:Q a)(h2:∀ n∈l,Q n):∀n∈a::l,Q n:=λn j=>by
 rcases zam.mp j with rfl|j
 ·exact h
 exact h2 n j
def Sj{i a b d:Int}(Z:a.natAbs<10 ^ 60)(I:b.natAbs<10 ^ 60)(j:d.natAbs<10 ^ 60)(h:a<0\/b<0\/d≠0):BadP (p08 i) [a,b,d] "list":=⟨by show 2<=10;decide,Nt i,.inl rfl,by show 3<=20;decide,al2 Z (al2 I (al1 j)),λw x q=>by
 have g:=q.gv;have g1:0<=a:=g.nn a (by simp)
 have g21:0<=b:=g.nn b (by simp)
 have g3:d=0:=g.z2 1 d rfl rfl;omega⟩
def W0{i a b d:Int}(Z:a.natAbs<10 ^ 60)(I:b.natAbs<10 ^ 60)(j:d.natAbs<10 ^ 60)(h:a≠0\/b≠0\/d≠0):BadP (p08 i) [a,b,d] "num":=⟨by show 2<=10;decide,Nt i,.inr rfl,by show 3<=20;decide,al2 Z (al2 I (al1 j)),λw x q=>by
 have g:=q.gv.z1 rfl;have g1:a=0:=g a (by simp)
 have g21:b=0:=g b (by simp)
 have g3:d=0:=g d (by simp)
 omega⟩
def Fw{c:Int}:∀n∈n08 c,n.natAbs<10 ^ 60:=λn j=>by
 have m:=yt c (10 ^ 60) (by decide)
 rcases zam.mp j with rfl|j
 ·omega
 rcases zam.mp j with rfl|j
 ·decide
 rw[List.mem_singleton.mp j]
 decide
def cf(T:Tops mg)(a1:FD P w K mg base 1 "_law_name" pF bw)(a2:FD P w K mg base 1 "_law_built" pL W8)(a4:FD P w K mg base 1 "_law_give" pM Kl)(F:Fm K mg "_law_bad_head" 67):FD P w K mg base 2 "_law_bad_head" pU z0d:=by
 have S:zt ["_law_way","_law_cell","_law_name_here","_law_words","_law_params","_law_size","_law_shape","_law_e_here"] pU (zh (top 67)):=by walk_at "f"
 walk_at "b";refine⟨_,(zd (zj (zm 4 S.nd (zy (z9 (yf (z9 (zi a1 (hr.e rfl) (z9 (za 3) (z9 zc zb))) (z9 zg zb))) (z9 (yf (z9 (zi a1 (hr.e rfl) (z9 (za 3) (z9 zc zb))) (z9 zg zb))) zb)))))
   (zd (zj (zm 5 S.nd (zy (z9 (yj (za 1) (cm zc zc)) (z9 zc (z9 zc zb))))))
   (zd (zj (zm 6 S.nd zg))
   (zd (zj (yi (xh hu (za 0) zc) (zd (zm 4 S.nd (zy zb))
    (zk (zm 5 S.nd (zy (z9 zc zb))))) ya))
   (zd (zj (yi (xh hu (za 0) zc) (zd (yn (T:=["_law_k"]) (F:=["_law_words","_law_cell"]) (js:=[3,1]) 4 S.nd (wt T.range (z9 zc zb)) (cs1 (by walk_at "c")) (.cons rfl (.cons rfl .nil)) (by decide) (by walk_at "t") zx (yk 0) yG (λcl C fp s H=>(yf (z9 (zi a1 (hr.e rfl) (z9 (za 1) (z9 (za 0) zb))) (z9 (uf (z9 zg (z9 zg zb)) (yj (za 2) zc)) zb)))))
    (zk (zm 5 S.nd (zy (z9 zc (z9 zc (z9 zc (z9 zc (z9 zc (z9 zc zb)))))))))) ya))
   (zd (zj (yi (xh hu (za 0) zc) (zk (Ul 4 hu zc (yf (z9 (zn hu (zn hu (za 4) zc) zc) (z9 zg zb))))) ya))
   (zd (zj (yi (xh hu (za 0) zc) (zk (zm 5 S.nd (xc (za 5) wy (xi (yj (za 1) zc))))) ya))
   (zd (zj (yi (xh hu (za 0) zc) (zk (zm 5 S.nd (yb (za 5) (Zz (zy (z9 zc zb)) (yb zc (yj (za 1) zc)))))) ya))
   (zd (zj (yi (xh hu (za 0) zc) (zk (Ul 5 hu (yj (za 1) zc) (uk (Q5 zc) (yj (v5 (za 1) zc) (cm zc zc))))) ya))
   (zd (zj (yi (xh hu (za 0) zc) (zk (Ul 5 hu zc (yb zc (yj (za 1) (cm zc zc))))) ya))
   (zd (zj (yi (xh hu (za 0) zc) (zd (zm 6 S.nd zg)
    (zk (zm 5 S.nd (uf (z9 (zy (z9 zc (z9 zc (z9 zc zb)))) (z9 (zy (z9 zc (z9 zc (z9 zc zb)))) (z9 (zy (z9 zc (z9 zc (z9 zc zb)))) zb))) (yj (za 1) zc))))) ya))
   (zd (zj (zm 7 S.nd (uf (z9 (yf (z9 (yf (z9 zg zb)) (z9 (zy (z9 zg zb)) zb))) (z9 (yf (z9 (yf (z9 zg (z9 zc zb))) (z9 (zy (z9 zg zb)) zb))) zb)) (Xq T.int (z9 (Xr hu (za 6) zg) zb)))))
   (zk (zw (zi a2 (hr.e rfl) (z9 (za 2) (z9 (za 4) (z9 (za 6) (z9 (za 5) (z9 (zi a4 (hr.e rfl) (z9 (zn hu (za 7) zc) (z9 (zn hu (za 7) zc) zb))) zb)))))))))))))))))))),?_⟩
 obtain⟨a0,b0,c0,d0,rfl,y,c,i,w,rfl,hy,rfl,c0,c1,rfl,hw,rfl,h⟩:=hT;refine z_g [q_ (.int y),q_ (.int c),q_ (.str w),q_ (.int i),Q_ (.lst ((p08 i).map prD)),none,none,none] ?_ ?_
 ·walk_at "dl";exact⟨i,0,rfl,rfl,by decide,trivial,i,1,rfl,rfl,by decide,trivial,rfl⟩
 refine z_g [q_ (.int y),q_ (.int c),q_ (.str w),q_ (.int i),Q_ (.lst ((p08 i).map prD)),Q_ (.lst ((n08 c).map D.int)),none,none] ?_ ?_
 ·walk_at "dl";rfl
 refine ze (BS c i w y 0) ?_ ?_
 ·exact⟨trivial,_,_,_,rfl,.inr ⟨hy.1,rfl,rfl,rfl⟩⟩
 intro L I;have m6:=yt c (10 ^ 60) (by decide)
 have m5:=yt c (10 ^ 59) (by decide)
 have m7:=yt (c.fdiv 2) (10 ^ 59) (by decide)
 refine ze (BS c i w y 1) (U1 I λe=>?_) ?_
 ·walk_at "dl";exact⟨[],[3],"list",rfl,.inl ⟨by omega,⟨by decide,λp Z=>(nomatch Z),.inl rfl,by decide,by decide +kernel,λw b q=>Nat.not_succ_le_zero 0 q.lo⟩⟩⟩
 intro L I;refine ze (BS c i w y 2) (U1 I λe=>?_) ?_
 ·obtain⟨k,hk,ek⟩:∃k:Str,IsSh k/\atI [dv (D.str "list"),dv (D.str "tree")] (c.fmod 2)=q_ (.str k):=by
   rcases mod2 c with z|z <;> rw[z]
   ·exact⟨"list",.inr (.inl rfl),by rw[jg]⟩
   exact⟨"tree",.inr (.inr rfl),by rw[jf]⟩
  unfold sSeq;refine y9 (rngD 0 5) (λN a5=>?_) (λj fs=>fs=(List.range j).map λj=>prD (nm i (j:Nat),k)) (by rw[xt];decide) rfl ?_ ?_
  ·exact⟨by decide,by decide,a5⟩
  ·rintro j e fs he a7 rfl;obtain⟨hj,rfl⟩:=vt he;walk_at "p";walk_at "dl";rw[ek];exact⟨i,j,rfl,rfl,by omega,⟨trivial,trivial⟩,by rw[List.range_succ,zMa];rfl⟩
  rintro fs rfl;walk_at "dl";rw[xt];exact⟨(List.range 5).map λj=>(nm i (j:Nat),k),[0,1,2,3,4,5],"list",by rw[List.map_map];rfl,.inl ⟨by omega,⟨by show 5<=10;decide,λp Z=>by
   obtain⟨j,_,rfl⟩:=zah.mp Z;exact⟨wk i j,hk⟩,.inl rfl,by decide,by decide +kernel,λw b q=>absurd (show 5<=4 from q.hi) (by decide)⟩⟩⟩
 intro L I;refine ze (BS c i w y 3) (U1 I λe=>?_) ?_
 ·simp only[p08,List.map_cons,List.map_nil,prD];walk_at "dl";rw[show ixN 2 1=some 1 from rfl];exact⟨[(nm i 0,"list"),(nm i 0,"num")],n08 c,"list",rfl,.inl ⟨by omega,⟨by show 2<=10;decide,λp Z=>by
   rcases zam.mp Z with rfl|Z
   ·exact⟨wk i 0,.inr (.inl rfl)⟩
   rw[List.mem_singleton.mp Z];exact⟨wk i 0,.inl rfl⟩,.inl rfl,by show 3<=20;decide,Fw,λw b q=>(List.nodup_cons.mp q.nd).1 (List.mem_singleton.mpr rfl)⟩⟩⟩
 intro L I;refine ze (BS c i w y 4) (U1 I λe=>?_) ?_
 ·walk_at "dl";rcases mod3 c with z|z|z <;> rw[z]
  ·exact⟨p08 i,[],"list",rfl,.inl ⟨by omega,Xz (by decide) (by decide) λp Z=>(nomatch Z)⟩⟩
  ·exact⟨p08 i,[c.fmod (10 ^ 60)],"list",rfl,.inl ⟨by omega,Xz (by show 1≠3;decide) (by show 1<=20;decide) (al1 (by omega))⟩⟩
  exact⟨p08 i,[c.fmod (10 ^ 60),1],"list",rfl,.inl ⟨by omega,Xz (by show 2≠3;decide) (by show 2<=20;decide) (al2 (by omega) (al1 (by decide +kernel)))⟩⟩
 intro L I;refine ze (BS c i w y 5) (U1 I λe=>?_) ?_
 ·walk_at "dl";obtain⟨n,en,n1,n3⟩:∃n:Nat,1+c.fmod 3=(n:Int)/\1<=n/\n<=3:=⟨(1+c.fmod 3).toNat,by rcases mod3 c with z|z|z <;> omega⟩
  rw[en,Int.toNat_natCast];have fl:(List.replicate n [D.int 0]).flatten=(List.replicate n (0:Int)).map D.int:=by rw[List.flatten_replicate_singleton,List.map_replicate]
  rw[fl,zLm,List.length_replicate,xq];refine⟨by omega,by omega,by omega,by show 3+n<=_;omega,p08 i,n08 c++List.replicate n 0,"list",by rw[zMa],.inl ⟨by omega,Xz ?_ ?_ λm hm=>?_⟩⟩
  ·rw[zLa,List.length_replicate];show 3+n≠3;omega
  ·rw[zLa,List.length_replicate];show 3+n<=20;omega
  rcases zas.mp hm with hm|hm
  ·exact Fw m hm
  rw[List.eq_of_mem_replicate hm]
  decide +kernel
 intro L I;refine ze (BS c i w y 6) (U1 I λe=>?_) ?_
 ·walk_at "dl";refine⟨fdl,?_⟩;rcases mod2 c with z|z <;> rw[z]
  ·exact⟨p08 i,[-1-(c.fdiv 2).fmod (10 ^ 59),1,0],"list",rfl,.inl ⟨by omega,Sj (by omega) (by decide +kernel) (by decide +kernel) (by omega)⟩⟩
  exact⟨p08 i,[c.fmod (10 ^ 60),-1-(c.fdiv 2).fmod (10 ^ 59),0],"list",rfl,.inl ⟨by omega,Sj (by omega) (by omega) (by decide +kernel) (by omega)⟩⟩
 intro L I;refine ze (BS c i w y 7) (U1 I λe=>?_) ?_
 ·walk_at "dl";exact⟨p08 i,[c.fmod (10 ^ 60),1,1+c.fmod (10 ^ 59)],"list",rfl,.inl ⟨by omega,Sj (by omega) (by decide +kernel) (by omega) (by omega)⟩⟩
 intro L I;refine ze (BS c i w y 8) (U1 I λe=>?_) ?_
 ·walk_at "dl";rcases mod3 c with z|z|z <;> rw[z]
  ·exact⟨trivial,p08 i,[1,0,0],"num",rfl,.inl ⟨by omega,W0 (by decide +kernel) (by decide +kernel) (by decide +kernel) (by decide)⟩⟩
  ·exact⟨trivial,p08 i,[0,1,0],"num",rfl,.inl ⟨by omega,W0 (by decide +kernel) (by decide +kernel) (by decide +kernel) (by decide)⟩⟩
  exact⟨trivial,p08 i,[0,0,1],"num",rfl,.inl ⟨by omega,W0 (by decide +kernel) (by decide +kernel) (by decide +kernel) (by decide)⟩⟩
 rintro _ ⟨ps,ns,s,rfl,I⟩;obtain I:BadP ps ns s:=by rcases I with z|z;exact z.2;omega
 refine ze (λL=>∃z e,ExB e [z]/\L=[q_ (.int y),q_ (.int c),q_ (.str w),q_ (.int i),Q_ (.lst (ps.map prD)),Q_ (.lst (ns.map D.int)),q_ (.str s),q_ (.tup [e,.lst [.str z]])]) ?_ ?_
 ·rcases I.sh with rfl|rfl
  ·walk_at "dl";rw[if_neg (by decide),jg]
   exact⟨trivial,"nil",_,.inr (.inr (.inl ⟨rfl,rfl⟩)),rfl⟩
  walk_at "dl";rw[if_pos trivial,jf];exact⟨trivial,"7",_,.inl ⟨7,by decide +kernel,rfl,by decide +kernel⟩,rfl⟩
 rintro _ ⟨z,e,he,rfl⟩;obtain⟨q,q1,q2,q3⟩:=Xx 5 (.tup [.str "give",e]) (bk ["give"] [[z]]) (.inl ⟨e,[z],.inl he,rfl,rfl⟩);walk_at "dl";exact⟨_,_,rfl,[z],(Vn he).2.2,rfl,by show 1<=100;decide,_,_,_,_,_,rfl,w,ps,s,ns,_,_,q,rfl,hw,rfl,I.pl,I.pg,rfl,by rcases I.sh with z|z;exact .inr (.inl z);exact .inl z,rfl,I.nl,I.ng,rfl,q1,q2,q3,λk a6=>⟨trivial,h _ k a6 (I.no _ _) rfl⟩⟩
def p3(i:Int):List (Str×Str):=[(nm i 0,"num"),(nm i 1,"list"),(nm i 2,"tree")]
def va(z:Str):D:=.tup [.str "var",.str z]
def a3(i:Int):List D:=[va (nm i 0),va (nm i 1),va (nm i 2)]
def g3w(i:Int):List Str:=[nm i 0,nm i 1,nm i 2]
def BB(i:Int)(s w o:Str)(b:D):Prop:=∀fs,(∀g∈fs,g.name≠o)->(∃g,fnL fs w=some g/\g.params.length=3)->Bd fs s 4 5 (p3 i) b false
def z0e:FT:=g5 λq ce Z I j U=>∃(y c i:Int)(w o:Str),q=.int y/\ce=.int c/\0<=c/\c<10 ^ 63/\Z=.str w/\IsNm w/\I=.str o/\IsNm o/\j=.int i/\∀s b k,IsSh s->FuR ⟨w,p3 i,s,[0,0,0,0],b⟩ k->BB i s w o b->U ⟨.new,rowD (fnD ⟨w,p3 i,s,[0,0,0,0],b⟩,k)⟩
def Ws{i:Int}(a b:Nat)(h:a≠b)(q:a<=25:=by decide)(j:b<=25:=by decide):nm i a≠nm i b:=λe=>h (Fv q j e)
def row0(i:Int):v7 (p3 i) (nm i 0)=some ("num" : Str):=if_pos rfl
def row1(i:Int):v7 (p3 i) (nm i 1)=some ("list" : Str):=(if_neg (Ws 1 0 (by decide))).trans (if_pos rfl)
def row2(i:Int):v7 (p3 i) (nm i 2)=some ("tree" : Str):=(if_neg (Ws 2 0 (by decide))).trans ((if_neg (Ws 2 1 (by decide))).trans (if_pos rfl))
def z4u(i:Int):v7 (p3 i) (nm i 24)=none:=(if_neg (Ws 24 0 (by decide))).trans ((if_neg (Ws 24 1 (by decide))).trans (if_neg (Ws 24 2 (by decide))))
def z5b(i:Int):∀p∈p3 i,IsNm p.1/\IsSh p.2:=λp j=>by
 rcases zam.mp j with rfl|j
 ·exact⟨wk i 0,.inl rfl⟩
 rcases zam.mp j with rfl|j
 ·exact⟨wk i 1,.inr (.inl rfl)⟩
 rw[List.mem_singleton.mp j];exact⟨wk i 2,.inr (.inr rfl)⟩
structure Pk(i x:Int)(s kp:Str):Prop where
 sh:IsSh s
 nm:IsNm kp
 kd:atI [dv (D.str "num"),dv (D.str "list"),dv (D.str "tree")] x=q_ (.str s)
 pr:atI (p3 i) x=some (kp,s)
 rw:v7 (p3 i) kp=some s
 mem:kp∈(p3 i).map Prod.fst
 pv:∃z v,IsNm z/\atI (p3 i) (x-1)=some (z,v)/\v7 (p3 i) z=some v/\v≠s
def Eo{α j:Type}{f:α->j}{xs:List α}{x:Int}{a:α}(h:atI xs x=some a):atI (xs.map f) x=some (f a):=by
 rw[bj,h];rfl
def Pk.pr'{i x:Int}{s j:Str}{I:Type}{f:Str×Str->I}(q:Pk i x s j):atI ((p3 i).map f) x=some (f (j,s)):=Eo q.pr
def pk(i c:Int):∃s kp,Pk i (c.fmod 3) s kp:=by
 rcases mod3 c with z|z|z <;> rw[z]
 ·exact⟨"num",nm i 0,.inl rfl,wk i 0,rfl,rfl,row0 i,.head _,nm i 2,"tree",wk i 2,rfl,row2 i,by decide⟩
 ·exact⟨"list",nm i 1,.inr (.inl rfl),wk i 1,rfl,rfl,row1 i,.tail _ (.head _),nm i 0,"num",wk i 0,rfl,row0 i,by decide⟩
 exact⟨"tree",nm i 2,.inr (.inr rfl),wk i 2,rfl,rfl,row2 i,.tail _ (.tail _ (.head _)),nm i 1,"list",wk i 1,rfl,row1 i,by decide⟩
def jw{fs:List Fn}{env:List (Str×Str)}{n:Nat}{z:Str}:Sh1 fs env (n+1) (va z) (v7 env z):=.inr (.inl ⟨z,rfl,rfl⟩)
def ja{n:Nat}{z:Str}(h:IsNm z):Ex1 (n+1) (va z) [z]:=.inl (.inr (.inl ⟨z,h,rfl,rfl⟩))
def Si{i:Int}{s w o:Str}{e:D}(h:∀ fs,(∀ g∈fs,g.name≠o)->(∃ g,fnL fs w=some g/\g.params.length=3)->∃ r,Sh1 fs (p3 i) 4 e r/\r≠some s):BB i s w o (.tup [.str "give",e]):=λfs a b=>by
 obtain⟨r,h1,h2⟩:=h fs a b;exact .inl ⟨e,r,h1,rfl,(decide_eq_false h2).symm⟩
def Q0{o:Str}:∀{fs:List Fn},(∀g∈fs,g.name≠o)->fnL fs o=none
 |[],_=>rfl
 |f::fs,h=>(if_neg λe=>h f zao e.symm).trans (Q0 λg j=>h g (zal _ j))
def Af{i:Int}{s w o f:Str}{es:List D}{rs:List (Option Str)}(hl:es.length<=100)(q:∀ fs,w8 (Sh1 fs (p3 i) 3) es rs)(j:f=o\/f=w/\rs.length≠3):BB i s w o (.tup [.str "give",.tup [.str "call",.str f,.tup es]]):=Si λfs a b=>⟨b8 fs f rs,.inr (.inr (.inl ⟨f,es,rs,rfl,q fs,hl,rfl⟩)),by
 have:b8 fs f rs=none:=by
  unfold b8;rcases j with rfl|⟨rfl,j⟩
  ·rw[Q0 a]
  obtain⟨g,Z,I⟩:=b;rw[Z];refine if_neg λe=>j ?_;rw[e,zLm,zLm,I]
 rw[this];exact λz=>(nomatch z)⟩
def pa3(i:Int)(fs:List Fn):w8 (Sh1 fs (p3 i) 3) (a3 i) [some "num",some "list",some "tree"]:=.cons (row0 i▸jw) (.cons (row1 i▸jw) (.cons (row2 i▸jw) .nil))
def Lz(i:Int):vg (a3 i):=⟨t3,t3,t3,trivial⟩
def bbc{i:Int}{s w o f:Str}{es:List D}{rs:List (Option Str)}{cs:List (List Str)}(q:IsNm f)(I:w8 (Ex1 3) es cs)(hl:es.length<=4)(Z:∀ fs,w8 (Sh1 fs (p3 i) 3) es rs)(j:f=o\/f=w/\rs.length≠3):Bo 5 (.tup [.str "give",.tup [.str "call",.str f,.tup es]]) (bk ["give"] [[lp,"call",f]++cs.flatten++[rp]])/\BB i s w o (.tup [.str "give",.tup [.str "call",.str f,.tup es]]) :=
 ⟨.inl ⟨_,_,.inr (.inl ⟨f,es,cs,q,I,hl,rfl,rfl⟩),rfl,rfl⟩,Af (by omega) Z j⟩
def ex3(i:Int):w8 (Ex1 3) (a3 i) [[nm i 0],[nm i 1],[nm i 2]]:=.cons (ja (wk i 0)) (.cons (ja (wk i 1)) (.cons (ja (wk i 2)) .nil))
def z4a{i:Int}{s w o q j:Str}{b:D}{k:List Str}(h1:IsNm q)(h2:IsNm j)(Z:j∈(p3 i).map Prod.fst)(I:Bo 4 b k):Bo 5 (.tup [.str "let",.str j,va q,b]) (bk ["let",j] [[q],k])/\BB i s w o (.tup [.str "let",.str j,va q,b]) :=
 ⟨.inr (.inl ⟨j,_,_,b,k,h2,ja h1,I,rfl,rfl⟩),λfs _ _=>.inr (.inl ⟨j,va q,_,b,jw,by have:=rn h2;omega,rfl,.inr ⟨λz=>(z.2 _ zao).2.1 Z,rfl⟩⟩)⟩
def BT(y c i:Int)(w o s j:Str)(n:Nat)(L:DE):Prop:=∃b k ar gi x1 x2 x3,(Bo 5 b k/\BB i s w o b)/\(n=1->ar=Q_ (.lst (a3 i))/\gi=Q_ (.lst ((g3w i).map D.str)))/\L=[q_ (.int y),q_ (.int c),q_ (.str w),q_ (.str o),q_ (.int i),q_ (.lst ((p3 i).map prD)),q_ (.str s),q_ (.str (nm i 24)),q_ (.str j),q_ (rowD (b,k)),ar,gi,x1,x2,x3]
def c6{n:Nat}{k y:Int}{A:TDS}{L:DE}{Z:DZ}(h0:slot L n=q_ (.int y))(h1:A L Z)(h2:Z.nx L):sIf (tBo (d2 sEq (cv n) (dC (.int k)))) A sNil L Z:=by
 unfold sIf tBo d2 cv;rw[h0];exact⟨of_eq_true (uc ..),of_eq_true (uc ..),λ_=>h1,λ_=>h2⟩
def ne2:(2:Int)≠0:=by decide
def Rv{ds:List D}{i:Int}{d:D}{U:EV->Prop}(h:atI ds i=some d)(k:U (dv d)):sIxx (.lst ds) (.int i) U:=by
 unfold sIxx sIx1
 dsimp only
 rw[h];exact k
def cg(T:Tops mg)(a2:FD P w K mg base 1 "_law_name" pF bw)(a5:FD P w K mg base 1 "_law_built" pL W8)(Z:FD P w K mg base 1 "_law_give" pM Kl)(F:Fm K mg "_law_bad_body" 68):FD P w K mg base 2 "_law_bad_body" pR z0e:=by
 have S:zt ["_law_way","_law_cell","_law_name_here","_law_other","_law_words","_law_params","_law_shape","_law_lost","_law_kept","_law_body_here","_law_args","_law_given","_law_few","_law_again","_law_inner"] pR (zh (top 68)):=by walk_at "f"
 walk_at "b";refine⟨_,(zd (zj (yn (T:=["_law_k"]) (F:=["_law_words"]) (js:=[4]) 5 S.nd (wt T.range (z9 zc zb)) (cs1 (by walk_at "c")) (.cons rfl .nil) (by decide) (by walk_at "t") zx (yk 0) yG (λcl C fp s H=>(yf (z9 (zi a2 (hr.e rfl) (z9 (za 1) (z9 (za 0) zb))) (z9 (uf (z9 zg (z9 zg (z9 zg zb))) (za 0)) zb))))))
   (zd (zj (tj 5 (zm 6 S.nd (uf (z9 zg (z9 zg (z9 zg zb))) (yj (za 1) zc)))))
   (zd (zj (zm 7 S.nd (zi a2 (hr.e rfl) (z9 (za 4) (z9 zc zb)))))
   (zd (zj (zm 8 S.nd (zn hu (zn hu (za 5) (yj (za 1) zc)) zc)))
   (zd (zj (zm 9 S.nd (zi Z (hr.e rfl) (z9 (yf (z9 zg (z9 (za 7) zb))) (z9 (zy (z9 (za 7) zb)) zb)))))
   (zd (zj (yi (xh hu (za 0) zc) (zk (zm 9 S.nd (zi Z (hr.e rfl) (z9 (yf (z9 zg (z9 (zn hu (zn hu (za 5) (uk (yj (za 1) zc) zc)) zc) zb))) (z9 (zy (z9 (zn hu (zn hu (za 5) (uk (yj (za 1) zc) zc)) zc) zb)) zb))))) ya))
   (zd (zj (yn (T:=["_law_word","_law_kind"]) (F:=[]) (js:=[]) 10 S.nd (yp (za 5)) (cs1 (by walk_at "c")) .nil (by decide) (by walk_at "t") (u3 (ym yc (xg yc yw) zx (ym yc yw zx u5))) (w6 0 1) yG (λcl C fp s H=>(yf (z9 zg (z9 (za 0) zb))))))
   (zd (zj (yn (T:=["_law_word","_law_kind"]) (F:=[]) (js:=[]) 11 S.nd (yp (za 5)) (cs1 (by walk_at "c")) .nil (by decide) (by walk_at "t") (u3 (ym yc (xg yc yw) zx (ym yc yw zx u5))) (w6 0 1) yG (λcl C fp s H=>(za 0))))
   (zd (zj (yi (xh hu (za 0) zc) (zk (zm 9 S.nd (zi Z (hr.e rfl) (z9 (yf (z9 zg (z9 (za 3) (z9 (x5 T.tuple (z9 (za 10) zb)) zb)))) (z9 (yb (yb (zy (z9 zg (z9 zg (z9 (za 3) zb)))) (za 11)) (zy (z9 zg zb))) zb))))) ya))
   (zd (zj (yi (xh hu (za 0) zc) (zd (zm 12 S.nd (yb zc (yj (v5 (za 1) zc) zc)))
    (zk (zm 9 S.nd (zi Z (hr.e rfl) (z9 (yf (z9 zg (z9 (za 2) (z9 (x5 T.tuple (z9 (xc (za 10) wy (xi (za 12))) zb)) zb)))) (z9 (yb (yb (zy (z9 zg (z9 zg (z9 (za 2) zb)))) (xc (za 11) wy (xi (za 12)))) (zy (z9 zg zb))) zb)))))) ya))
   (zd (zj (yi (xh hu (za 0) zc) (zd (zm 10 S.nd (yb (za 10) (zy (z9 (yf (z9 zg (z9 zc zb))) zb))))
    (zk (zm 9 S.nd (zi Z (hr.e rfl) (z9 (yf (z9 zg (z9 (za 2) (z9 (x5 T.tuple (z9 (za 10) zb)) zb)))) (z9 (yb (yb (zy (z9 zg (z9 zg (z9 (za 2) zb)))) (za 11)) (zy (z9 zg (z9 zg zb)))) zb)))))) ya))
   (zd (zj (yi (xh hu (za 0) zc) (zd (zm 13 S.nd (zn hu (zn hu (za 5) (yj (v5 (za 1) zc) zc)) zc))
    (zd (zm 14 S.nd (zi Z (hr.e rfl) (z9 (yf (z9 zg (z9 (za 8) zb))) (z9 (zy (z9 (za 8) zb)) zb))))
    (zk (zm 9 S.nd (yf (z9 (yf (z9 zg (z9 (za 13) (z9 (yf (z9 zg (z9 (za 8) zb))) (z9 (zn hu (za 14) zc) zb))))) (z9 (yb (yb (zy (z9 zg (z9 zg (z9 (za 13) (z9 (za 8) zb))))) (zn hu (za 14) zc)) (zy (z9 zg zb))) zb))))))) ya))
   (zk (zw (zi a5 (hr.e rfl) (z9 (za 2) (z9 (za 5) (z9 (za 6) (z9 (zy (z9 zc (z9 zc (z9 zc (z9 zc zb))))) (z9 (za 9) zb)))))))))))))))))))),?_⟩
 obtain⟨a0,b0,c0,d0,e0,rfl,y,c,i,w,o,rfl,rfl,c0,c1,rfl,hw,rfl,ho,rfl,h⟩:=hT;obtain⟨s,kp,q⟩:=pk i c;refine z_g [q_ (.int y),q_ (.int c),q_ (.str w),q_ (.str o),q_ (.int i),Q_ (.lst ((p3 i).map prD)),none,none,none,none,none,none,none,none,none] ?_ ?_
 ·refine y9 (rngD 0 3) (λN a1=>?_) (λj fs=>fs=((p3 i).take j).map prD) (by rw[xt];decide) rfl ?_ ?_
  ·exact⟨by decide,by decide,a1⟩
  ·rintro j e fs he a4 rfl;obtain⟨hj,rfl⟩:=vt he;rcases(by omega:j=0\/j=1\/j=2) with rfl|rfl|rfl
   ·exact⟨λ_=>⟨rfl,i,0,rfl,rfl,by decide,rfl,t3,rfl,trivial,rfl⟩,λz=>(nomatch z)⟩
   ·exact⟨λ_=>⟨rfl,i,1,rfl,rfl,by decide,rfl,t3,rfl,trivial,rfl⟩,λz=>(nomatch z)⟩
   exact⟨λ_=>⟨rfl,i,2,rfl,rfl,by decide,rfl,t3,rfl,trivial,rfl⟩,λz=>(nomatch z)⟩
  rintro fs rfl;rw[xt];exact⟨trivial,rfl⟩
 refine z_g [q_ (.int y),q_ (.int c),q_ (.str w),q_ (.str o),q_ (.int i),q_ (.lst ((p3 i).map prD)),q_ (.str s),none,none,none,none,none,none,none,none] ?_ ?_
 ·exact Xu _ _ _ q.kd (λN h=>h) rfl (λN h=>⟨ne3,h⟩) ⟨trivial,rfl⟩
 refine z_g [q_ (.int y),q_ (.int c),q_ (.str w),q_ (.str o),q_ (.int i),q_ (.lst ((p3 i).map prD)),q_ (.str s),q_ (.str (nm i 24)),none,none,none,none,none,none,none] ?_ ?_
 ·exact⟨rfl,i,24,rfl,rfl,by decide,trivial,rfl⟩
 refine z_g [q_ (.int y),q_ (.int c),q_ (.str w),q_ (.str o),q_ (.int i),q_ (.lst ((p3 i).map prD)),q_ (.str s),q_ (.str (nm i 24)),q_ (.str kp),none,none,none,none,none,none] ?_ ?_
 ·exact⟨ne3,Rv (q.pr' (f:=prD)) ⟨trivial,rfl⟩⟩
 refine ze (BT y c i w o s kp 0) ?_ ?_
 ·exact⟨t3,rfl,rfl,rfl,rfl,_,_,rfl,[nm i 24],t3,rfl,by show 1<=100;decide,trivial,_,_,_,_,_,_,_,⟨.inl ⟨_,_,ja (wk i 24),rfl,rfl⟩,Si λfs _ _=>⟨none,z4u i▸jw,λz=>(nomatch z)⟩⟩,λz=>(nomatch z),rfl⟩
 rintro _ ⟨b,k,ar,gi,x1,x2,x3,I,_,rfl⟩;refine ze (BT y c i w o s kp 0) (c6 rfl ?_ ⟨b,k,ar,gi,x1,x2,x3,I,λz=>(nomatch z),rfl⟩) ?_
 ·obtain⟨z,v,v1,v2,v3,v4⟩:=q.pv;have v2:=Eo (f:=prD) v2;refine⟨ne3,?_⟩
  dsimp only [dC,sSub,sI0,dv]
  refine Rv v2 ⟨t3,rfl,ne3,?_⟩
  dsimp only [dC,sSub,sI0,dv]
  exact Rv v2 ⟨rfl,rfl,rfl,_,_,rfl,[z],t3,rfl,by show 1<=100;decide,trivial,_,_,_,_,_,_,_,⟨.inl ⟨_,_,ja v1,rfl,rfl⟩,Si λfs _ _=>⟨some v,v3▸jw,λz=>v4 (Option.some.inj z)⟩⟩,λz=>(nomatch z),rfl⟩
 rintro _ ⟨b,k,ar,gi,x1,x2,x3,I,_,rfl⟩;refine z_g [q_ (.int y),q_ (.int c),q_ (.str w),q_ (.str o),q_ (.int i),q_ (.lst ((p3 i).map prD)),q_ (.str s),q_ (.str (nm i 24)),q_ (.str kp),q_ (rowD (b,k)),Q_ (.lst (a3 i)),gi,x1,x2,x3] ?_ ?_
 ·refine y9 ((p3 i).map prD) (λN a1=>?_) (λj fs=>fs=((a3 i).take j)) (by show 3<=_;decide) rfl ?_ ?_
  ·exact⟨trivial,a1⟩
  ·rintro j e fs he a4 rfl;rw[zai]at he;obtain⟨p,hp,rfl⟩:=zar.mp he;have jl:j<3:=(zag.mp hp).1;rcases(by omega:j=0\/j=1\/j=2) with rfl|rfl|rfl <;> (cases hp;exact⟨λ_=>⟨t3,rfl,trivial,rfl⟩,λz=>(nomatch z)⟩)
  rintro fs rfl;exact⟨trivial,rfl⟩
 refine ze (BT y c i w o s kp 1) ?_ ?_
 ·refine y9 ((p3 i).map prD) (λN a1=>?_) (λj fs=>fs=((g3w i).take j).map D.str) (by show 3<=_;decide) rfl ?_ ?_
  ·exact⟨trivial,a1⟩
  ·rintro j e fs he a4 rfl;rw[zai]at he;obtain⟨p,hp,rfl⟩:=zar.mp he;have jl:j<3:=(zag.mp hp).1;rcases(by omega:j=0\/j=1\/j=2) with rfl|rfl|rfl <;> (cases hp;exact⟨λ_=>⟨trivial,rfl⟩,λz=>(nomatch z)⟩)
  rintro fs rfl;exact⟨trivial,_,_,_,_,_,_,_,I,λ_=>⟨rfl,rfl⟩,rfl⟩
 rintro _ ⟨b,k,ar,gi,x1,x2,x3,I,hg,rfl⟩;obtain⟨rfl,rfl⟩:=hg rfl;refine ze (BT y c i w o s kp 1) (c6 rfl ?_ ⟨b,k,_,_,x1,x2,x3,I,hg,rfl⟩) ?_
 ·exact⟨⟨trivial,trivial,Lz i,trivial⟩,rfl,rfl,rfl,sz10 rfl,rfl,rfl,sz10 rfl,rfl,_,_,rfl,[lp,"call",o]++g3w i++[rp],⟨trivial,trivial,Lz i,trivial⟩,rfl,by show 7<=100;decide,trivial,_,_,_,_,_,_,_,bbc ho (ex3 i) (by show 3<=4;decide) (pa3 i) (.inl rfl),λ_=>⟨rfl,rfl⟩,rfl⟩
 rintro _ ⟨b,k,ar,gi,x1,x2,x3,I,hg,rfl⟩;obtain⟨rfl,rfl⟩:=hg rfl;refine ze (BT y c i w o s kp 1) (c6 rfl ?_ ⟨b,k,_,_,x1,x2,x3,I,hg,rfl⟩) ?_
 ·refine⟨fdl,ne2,?_⟩;refine(show sAdd (D.int 1) (D.int ((c.fdiv 3).fmod 2)) _ from ?_);rcases mod2 (c.fdiv 3) with z|z <;> rw[z]
  ·exact⟨trivial,⟨trivial,trivial,⟨t3,trivial⟩,trivial⟩,rfl,rfl,rfl,sz10 rfl,rfl,rfl,sz10 rfl,rfl,_,_,rfl,[lp,"call",w,nm i 0,rp],⟨trivial,trivial,⟨t3,trivial⟩,trivial⟩,rfl,by show 5<=100;decide,trivial,_,_,_,_,_,_,_,bbc (cs:=[[nm i 0]]) hw (.cons (ja (wk i 0)) .nil) (by show 1<=4;decide) (λfs=>.cons (row0 i▸jw) .nil) (.inr ⟨rfl,by decide⟩),λ_=>⟨rfl,rfl⟩,rfl⟩
  exact⟨trivial,⟨trivial,trivial,⟨t3,t3,trivial⟩,trivial⟩,rfl,rfl,rfl,sz10 rfl,rfl,rfl,sz10 rfl,rfl,_,_,rfl,[lp,"call",w,nm i 0,nm i 1,rp],⟨trivial,trivial,⟨t3,t3,trivial⟩,trivial⟩,rfl,by show 6<=100;decide,trivial,_,_,_,_,_,_,_,bbc (cs:=[[nm i 0],[nm i 1]]) hw (.cons (ja (wk i 0)) (.cons (ja (wk i 1)) .nil)) (by show 2<=4;decide) (λfs=>.cons (row0 i▸jw) (.cons (row1 i▸jw) .nil)) (.inr ⟨rfl,by decide⟩),λ_=>⟨rfl,rfl⟩,rfl⟩
 rintro _ ⟨b,k,ar,gi,x1,x2,x3,I,hg,rfl⟩;obtain⟨rfl,rfl⟩:=hg rfl;refine ze (BT y c i w o s kp 0) (c6 rfl ?_ ⟨b,k,_,_,x1,x2,x3,I,λz=>(nomatch z),rfl⟩) ?_
 ·have p4:vg (a3 i++[D.tup [D.str "num",D.int 0]]):=⟨t3,t3,t3,t3,trivial⟩;exact⟨t3,rfl,rfl,rfl,sz10 rfl,trivial,⟨trivial,trivial,p4,trivial⟩,rfl,rfl,rfl,sz10 rfl,rfl,rfl,sz10 rfl,rfl,_,_,rfl,[lp,"call",w]++g3w i++[("0" : Str),rp],⟨trivial,trivial,p4,trivial⟩,rfl,by show 8<=100;decide,trivial,_,_,_,_,_,_,_,bbc (cs:=[[nm i 0],[nm i 1],[nm i 2],["0"]]) hw (.cons (ja (wk i 0)) (.cons (ja (wk i 1)) (.cons (ja (wk i 2)) (.cons (.inl (.inl ⟨0,by decide +kernel,rfl,by decide +kernel⟩)) .nil)))) (by show 4<=4;decide) (λfs=>.cons (row0 i▸jw) (.cons (row1 i▸jw) (.cons (row2 i▸jw) (.cons (.inl ⟨0,rfl,rfl⟩) .nil)))) (.inr ⟨rfl,by decide⟩),λz=>(nomatch z),rfl⟩
 rintro _ ⟨b,k,ar,gi,x1,x2,x3,I,_,rfl⟩;refine ze (BT y c i w o s kp 0) (c6 rfl ?_ ⟨b,k,_,_,x1,x2,x3,I,λz=>(nomatch z),rfl⟩) ?_
 ·obtain⟨s2,ag,q2⟩:=pk i (c.fdiv 3);exact⟨fdl,ne3,Rv (q2.pr' (f:=prD)) ⟨trivial,t3,rfl,rfl,rfl,rfl,_,_,rfl,[kp],t3,rfl,by show 1<=100;decide,trivial,t3,rfl,⟨trivial,trivial,trivial,⟨trivial,t3,trivial⟩,trivial⟩,rfl,rfl,rfl,sz10 rfl,rfl,rfl,sz10 rfl,⟨trivial,xk (bk ["let",ag] [[kp],bk ["give"] [[kp]]]),trivial⟩,rfl,trivial,_,_,_,_,_,_,_,z4a q.nm q2.nm q2.mem (.inl ⟨_,_,ja q.nm,rfl,rfl⟩),λz=>(nomatch z),rfl⟩⟩
 rintro _ ⟨b,k,ar,gi,x1,x2,x3,I,_,rfl⟩;obtain⟨qq,q1,q2,q3⟩:=Xx 5 b k I.1;exact⟨rfl,rfl,rfl,_,_,_,_,_,rfl,w,p3 i,s,[0,0,0,0],b,k,qq,rfl,hw,rfl,by show 3<=10;decide,z5b i,rfl,q.sh,rfl,by show 4<=20;decide,by decide +kernel,rfl,q1,q2,q3,λk a6=>⟨trivial,h s b k q.sh a6 I.2⟩⟩
def Ci{Q:D->Option Str->Prop}:∀{es:List D},(∀e∈es,∃r,Q e r)->∃rs,w8 Q es rs
 |[],_=>⟨[],.nil⟩
 |e::es,h=>by
  obtain⟨r,hr⟩:=h e zao;obtain⟨rs,q⟩:=Ci λx j=>h x (zal _ j);exact⟨r::rs,.cons hr q⟩
theorem shT(fs:List Fn)(env:List (Str×Str)):∀{n:Nat}{p e:D},RdE n p e->∃r,Sh1 fs env n e r
 |0,_,_,h=>h.elim
 |n+1,p,e,h=>by
  rcases h with⟨z,_,w⟩|⟨f,ps,es,_,j,hl,_,rfl⟩|⟨o,ps,es,ho,j,hl,_,rfl⟩
  ·rcases w with⟨w,rfl⟩|⟨_,rfl⟩|⟨i,_,_,rfl⟩
   ·exact⟨_,.inr (.inr (.inr ⟨z,[],[],by rcases w with rfl|rfl <;> decide,by rcases w with rfl|rfl <;> decide,by rcases w with rfl|rfl <;> decide,rfl,.nil,Nat.zero_le _,rfl⟩))⟩
   ·exact⟨_,.inr (.inl ⟨z,rfl,rfl⟩)⟩
   exact⟨_,.inl ⟨i,rfl,rfl⟩⟩
  ·obtain⟨rs,hr⟩:=Ci λe I=>(j.at' I).elim λp q=>shT fs env q.2;exact⟨_,.inr (.inr (.inl ⟨f,es,rs,rfl,hr,by have:=j.1;omega,rfl⟩))⟩
  obtain⟨rs,hr⟩:=Ci λe I=>(j.at' I).elim λp q=>shT fs env q.2;have Z:∀o∈ops,o≠"num"/\o≠"var"/\o≠"call"/\ar o<=3:=by decide
  obtain⟨o1,o2,o3,o4⟩:=Z o ho;exact⟨_,.inr (.inr (.inr ⟨o,es,rs,o1,o2,o3,rfl,hr,by have:=j.1;omega,rfl⟩))⟩
def FrO.fresh{env ps:List (Str×Str)}(h:FrO env (ups ps))(hl:ps.length<=3):bv env ps:=by
 have e:(ups ps).map Prod.fst=ps.map Prod.fst:=by unfold ups;rw[List.map_map];rfl
 refine⟨e▸h.1,λp j=>?_,λp j=>?_,hl⟩
 ·exact(h.2 (p.1,some p.2) (zah.mpr ⟨p,j,rfl⟩)).1
 exact(h.2 (p.1,some p.2) (zah.mpr ⟨p,j,rfl⟩)).2.1
theorem bdT(fs:List Fn)(due:Str):∀{n:Nat}{p b:D}(env:List (Str×Str)),RdB n p b->∃v,Bd fs due 4 n env b v
 |0,_,_,_,h=>h.elim
 |n+1,p,b,env,h=>by
  rcases h with⟨q,e,he,_,rfl⟩|⟨z,q,e,q1,b1,hz,he,hb,_,rfl⟩|⟨q1,e1,q2,e2,p1,b1,p2,b2,h1,h2,g1,g21,_,rfl⟩|⟨o,z,p1,b1,zs,p2,b2,ho,hz,g1,a1,hl,g21,_,rfl⟩
  ·obtain⟨r,hr⟩:=shT fs env he;exact⟨_,.inl ⟨e,r,hr,rfl,rfl⟩⟩
  ·obtain⟨r,hr⟩:=shT fs env he;have I:=rn hz;by_cases hF:FrO env [(z,r)]
   ·obtain⟨s,rfl⟩:=Option.ne_none_iff_exists'.mp (hF.2 _ zao).2.2;obtain⟨v,hv⟩:=bdT fs due (env++[(z,s)]) hb;exact⟨v,.inr (.inl ⟨z,e,_,b1,hr,by omega,rfl,.inl ⟨s,rfl,FrO.fresh (ps:=[(z,s)]) hF (by show 1<=3;decide),hv⟩⟩)⟩
   exact⟨false,.inr (.inl ⟨z,e,_,b1,hr,by omega,rfl,.inr ⟨hF,rfl⟩⟩)⟩
  ·obtain⟨r1,a0⟩:=shT fs env h1;obtain⟨r2,Z⟩:=shT fs env h2;obtain⟨v1,j⟩:=bdT fs due env g1;obtain⟨v2,a2⟩:=bdT fs due env g21;by_cases hn:r1=some ("num" : Str)/\r2=some ("num" : Str)
   ·exact⟨_,.inr (.inr (.inl ⟨e1,e2,r1,r2,b1,b2,a0,Z,rfl,.inl ⟨hn.1,hn.2,v1,v2,j,a2,rfl⟩⟩))⟩
   exact⟨_,.inr (.inr (.inl ⟨e1,e2,r1,r2,b1,b2,a0,Z,rfl,.inr ⟨hn,rfl⟩⟩))⟩
  obtain⟨ks,hk,kl,k3⟩:∃ks,jr o=some ks/\zs.length=ks.length/\ks.length<=3:=by
   rcases ho with rfl|rfl
   ·exact⟨_,rfl,hl,by decide⟩
   exact⟨_,rfl,hl,by decide⟩
  have I:∀y∈zs,y.length<=1000:=λy hy=>by have:=rn (a1 y hy);omega
  have pl:(zs.zip ks).length<=3:=by rw[List.length_zip];omega
  obtain⟨v1,j⟩:=bdT fs due env g1;by_cases hr:v7 env z=some o
  ·cases v1 with
   |false=>exact⟨false,.inr (.inr (.inr ⟨o,z,b1,zs,ks,b2,hk,kl,I,rfl,.inr ⟨hr,false,j,.inl ⟨rfl,rfl⟩⟩⟩))⟩
   |true =>
    by_cases hF:FrO env (ups (zs.zip ks))
    ·obtain⟨v,hv⟩:=bdT fs due (env++zs.zip ks) g21;exact⟨v,.inr (.inr (.inr ⟨o,z,b1,zs,ks,b2,hk,kl,I,rfl,.inr ⟨hr,true,j,.inr ⟨rfl,.inl ⟨hF.fresh pl,hv⟩⟩⟩⟩))⟩
    exact⟨false,.inr (.inr (.inr ⟨o,z,b1,zs,ks,b2,hk,kl,I,rfl,.inr ⟨hr,true,j,.inr ⟨rfl,.inr ⟨hF,rfl⟩⟩⟩⟩))⟩
  exact⟨false,.inr (.inr (.inr ⟨o,z,b1,zs,ks,b2,hk,kl,I,rfl,.inl ⟨hr,rfl⟩⟩))⟩
theorem Ec{f:Fn}:∀{fs:List Fn},f∈fs->(fs.map Fn.name).Nodup->fnL fs f.name=some f
 |g::fs,h,nd=>by
  obtain⟨q,j⟩:=List.nodup_cons.mp nd;rcases zam.mp h with rfl|h
  ·exact if_pos rfl
  exact(if_neg λe=>q (zah.mpr ⟨f,h,e⟩)).trans (Ec h j)
def Spo(rs:List (Fn×List Str))(f:Fn):Prop:=∀j,sy 4 5 ((rs.map Prod.fst).take j++f::(rs.map Prod.fst).drop j) false
def Fh{rs:List (Fn×List Str)}{f:Fn}(h:¬ (uv f/\f.name∉rs.map λr=>r.1.name)):Spo rs f:=λj=>.inl ⟨λq=>h ⟨q.2.1 f (by simp),λm=>by
 have p:List.Perm ((rs.map Prod.fst).take j++f::(rs.map Prod.fst).drop j) (f::rs.map Prod.fst):=by
  have:=@List.perm_middle _ f ((rs.map Prod.fst).take j) ((rs.map Prod.fst).drop j)
  rwa [List.take_append_drop]at this
 have I:=((p.map Fn.name).nodup_iff).mp q.2.2;rw[List.map_cons,List.map_map]at I;exact(List.nodup_cons.mp I).1 m⟩,rfl⟩
def De{rs:List (Fn×List Str)}{c i:Int}{s:Str}{b:D}(hf:∀ r∈rs,FuR r.1 r.2)(hn:∀ r∈rs,∃ j:Nat,j<8/\r.1.name=nm c j)(h:BB i s (nm c 20) (nm c 21) b):Spo rs ⟨nm c 20,p3 i,s,[0,0,0,0],b⟩:=λj=>by
 have mem:∀g,g∈(rs.map Prod.fst).take j++⟨nm c 20,p3 i,s,[0,0,0,0],b⟩::(rs.map Prod.fst).drop j->g=⟨nm c 20,p3 i,s,[0,0,0,0],b⟩\/∃r∈rs,g=r.1:=λg I=>by
  rcases zas.mp I with I|I
  ·obtain⟨r,hr,rfl⟩:=zah.mp (List.mem_of_mem_take I);exact .inr ⟨r,hr,rfl⟩
  rcases zam.mp I with rfl|I
  ·exact .inl rfl
  obtain⟨r,hr,rfl⟩:=zah.mp (List.mem_of_mem_drop I);exact .inr ⟨r,hr,rfl⟩
 have Z:⟨nm c 20,p3 i,s,[0,0,0,0],b⟩∈(rs.map Prod.fst).take j++⟨nm c 20,p3 i,s,[0,0,0,0],b⟩::(rs.map Prod.fst).drop j:=by simp
 generalize (rs.map Prod.fst).take j++⟨nm c 20,p3 i,s,[0,0,0,0],b⟩::(rs.map Prod.fst).drop j=fs at mem Z ⊢;by_cases hq:(1<=fs.length/\fs.length<=8)/\(∀f∈fs,uv f)/\(fs.map Fn.name).Nodup
 ·have hb:=h fs (λg I=>by
   rcases mem g I with rfl|⟨r,hr,rfl⟩
   ·exact Ws 20 21 (by decide)
   obtain⟨k,k1,k2⟩:=hn r hr;rw[k2];exact Ws k 21 (by omega) (by omega)) ⟨_,Ec Z hq.2.2,rfl⟩
  refine .inr ⟨λg=>@ite _ (g=⟨nm c 20,p3 i,s,[0,0,0,0],b⟩) (Classical.propDecidable _) false (Classical.epsilon λv=>Bd fs g.shape 4 5 g.params g.body v),⟨hq.1.1,hq.1.2,hq.2.1,hq.2.2,λg I=>?_⟩,?_⟩
  ·by_cases e:g=⟨nm c 20,p3 i,s,[0,0,0,0],b⟩
   ·rw[@if_pos _ (Classical.propDecidable _) e,e];exact hb
   rw[@if_neg _ (Classical.propDecidable _) e];rcases mem g I with z|⟨r,hr,rfl⟩
   ·exact absurd z e
   obtain⟨q,_,_,_,_,_,_,_,_,_,rd,_⟩:=hf r hr;exact Classical.epsilon_spec (bdT fs _ _ rd)
  exact(List.all_eq_false.mpr ⟨_,Z,by rw[@if_pos _ (Classical.propDecidable _) rfl];decide⟩).symm
 exact .inl ⟨hq,rfl⟩
def Og:FT:=g21 λq j U=>∃(w:Str)(i:Int),q=.str w/\IsNm w/\j=.int i/\∀f k,FuR f k->f.name=w->U ⟨.new,rowD (fnD f,k)⟩
def jz(T:Tops mg)(Z:FD P w K mg base 1 "_law_name" pF bw)(j:FD P w K mg base 1 "_law_built" pL W8)(I:FD P w K mg base 1 "_law_give" pM Kl)(F:Fm K mg "_law_plain_one" 69):FD P w K mg base 2 "_law_plain_one" ["_law_name_here","_law_words"] Og:=by
 have S:zt ["_law_name_here","_law_words"] ["_law_name_here","_law_words"] (zh (top 69)):=by walk_at "f"
 walk_at "b";refine⟨_,(zk (zw (zi j (hr.e rfl) (z9 (za 0) (z9 (zy (z9 (yf (z9 (zi Z (hr.e rfl) (z9 (za 1) (z9 zc zb))) (z9 zg zb))) zb)) (z9 zg (z9 (zy (z9 zc (z9 zc zb))) (z9 (zi I (hr.e rfl) (z9 (yf (z9 zg (z9 zc zb))) (z9 (zy (z9 zg zb)) zb))) zb)))))))),?_⟩;obtain⟨a0,b0,rfl,w,i,rfl,hw,rfl,h⟩:=hT;obtain⟨q,q1,q2,q3⟩:=Xx 5 (.tup [.str "give",.tup [.str "num",.int 4]]) (bk ["give"] [["4"]]) (.inl ⟨_,["4"],.inl (.inl ⟨4,by decide +kernel,rfl,by decide +kernel⟩),rfl,rfl⟩)
 walk_at "dl";exact⟨i,3,rfl,rfl,by decide,trivial,_,_,rfl,["4"],t3,rfl,by show 1<=100;decide,_,_,_,_,_,rfl,w,[(nm i 3,"list")],"num",[0,0],_,_,q,rfl,hw,rfl,by show 1<=10;decide,λp hp=>by rw[List.mem_singleton.mp hp];exact⟨wk i 3,.inr (.inl rfl)⟩,rfl,.inl rfl,rfl,by show 2<=20;decide,by decide +kernel,rfl,q1,q2,q3,λk a1=>⟨trivial,h _ k a1 rfl⟩⟩
def Sd(ns:List Int)(k:Nat):0<=xm ns k/\xm ns k<10 ^ 62:=by
 unfold xm;split
 ·exact yt _ (10 ^ 62) (by decide)
 decide
def Mt{c:Int}(k:Int)(j:0<k)(h:0<=c):0<=c.fdiv k/\c.fdiv k<=c:=by
 rw[Int.fdiv_eq_ediv_of_nonneg _ (by omega)]
 exact⟨Int.ediv_nonneg h (by omega),Int.ediv_le_self _ h⟩
def Ss:FT:=g21 λI q U=>∃(rs:List (Fn×List Str))(ns:List Int),I=.lst (rs.map rowF)/\q=.scr ns/\1<=rs.length/\rs.length<=8/\(∀r∈rs,FuR r.1 r.2)/\(∀r∈rs,∃j:Nat,j<8/\r.1.name=nm (xm ns 0) j)/\∀(qs:List (Fn×List Str)) r,(∀r∈qs,FuR r.1 r.2)->qs.length<=9->sy 4 5 (qs.map Prod.fst) false->r.d=.lst (qs.map rowF)->U r
def Z4(T:Tops mg)(Z:FD P w K mg base 1 "_law_cell_at" pN fi)(a1:FD P w K mg base 1 "_law_name" pF bw)(a2:FD P w K mg base 2 "_law_plain_one" ["_law_name_here","_law_words"] Og)(a5:FD P w K mg base 2 "_law_bad_head" pU z0d)(a4:FD P w K mg base 2 "_law_bad_body" pR z0e)(F:Fm K mg "_law_spoiled" 70):FO P w K mg base 3 "_law_spoiled" ["_law_made","_law_script"] Ss:=by
 have S:zt ["_law_made","_law_script","_law_names","_law_words","_law_cell","_law_way","_law_name_here","_law_one","_law_at"] ["_law_made","_law_script"] (zh (top 70)):=by walk_at "f"
 obtain⟨f,fd,F,m⟩:=F;refine z5s F S (F.binds λ_ _ _ _ _ _ us hl=>(by obtain⟨_,_,rfl⟩:=Ww hl;rfl)) m λqZ A outer s H E ds U hr hl hT=>?_
 have hu:=hr.units;refine⟨_,(zd (zj (zm 2 S.nd (zi Z (hr.e rfl) (z9 (za 1) (z9 zc zb)))))
   (zd (zj (zm 3 S.nd (zi Z (hr.e rfl) (z9 (za 1) (z9 zc zb)))))
   (zd (zj (zm 4 S.nd (yb (v5 (zi Z (hr.e rfl) (z9 (za 1) (z9 zc zb))) zc) (zi Z (hr.e rfl) (z9 (za 1) (z9 zc zb))))))
   (zd (zj (zm 5 S.nd (yj (za 4) zc)))
   (zd (zj (zm 4 S.nd (v5 (za 4) zc)))
   (zd (zj (yi (xh hu (za 5) zc) (zk (zw (zy zb))) ya))
   (zd (zj (yi (xh hu (za 5) zc) (zk (zw (Q9 (T:=["_law_k"]) (F:=["_law_words","_law_names"]) (js:=[3,2]) (wt T.range (z9 zc zb)) (cs1 (by walk_at "c")) (.cons rfl (.cons rfl .nil)) (by decide) (by walk_at "t") zx (yk 0) yG (λcl C fp s H=>(zi a2 (hr.e rfl) (z9 (zi a1 (hr.e rfl) (z9 (za 2) (z9 (za 0) zb))) (z9 (za 1) zb))))))) ya))
   (zd (zj (zm 6 S.nd (zi a1 (hr.e rfl) (z9 (za 2) (z9 zc zb)))))
   (zd (zj (zm 7 S.nd (zi a2 (hr.e rfl) (z9 (zn hu (zn hu (zn hu (za 0) (yj (za 4) (w5 T.len (z9 (za 0) zb)))) zc) zc) (z9 (za 3) zb)))))
   (zd (zj (yi (cj (za 5) zc) (zk (zm 7 S.nd (zi a5 (hr.e rfl) (z9 (za 5) (z9 (za 4) (z9 (za 6) (z9 (za 3) zb))))))) (zk (yi (cj (za 5) zc) (zk (zm 7 S.nd (zi a4 (hr.e rfl) (z9 (za 5) (z9 (za 4) (z9 (za 6) (z9 (zi a1 (hr.e rfl) (z9 (za 2) (z9 zc zb))) (z9 (za 3) zb)))))))) ya))))
   (zd (zj (zm 8 S.nd (yj (v5 (za 4) zc) (yb (w5 T.len (z9 (za 0) zb)) zc))))
   (zk (zw (yb (yb (xc (za 0) wy (xi (za 8))) (zy (z9 (za 7) zb))) (xc (za 0) (xi (za 8)) wy))))))))))))))),?_⟩
 obtain⟨a0,b0,rfl,rs,ns,rfl,rfl,r1,r8,hf,hn,h⟩:=hT;have b2:=Sd ns 2;have b9:=Sd ns 9;refine z_g [q_ (.lst (rs.map rowF)),q_ (.scr ns),q_ (.int (xm ns 0)),none,none,none,none,none,none] ?_ ?_
 ·exact⟨rfl,ns,0,rfl,rfl,trivial,rfl⟩
 refine z_g [q_ (.lst (rs.map rowF)),q_ (.scr ns),q_ (.int (xm ns 0)),q_ (.int (xm ns 1)),none,none,none,none,none] ?_ ?_
 ·exact⟨rfl,ns,1,rfl,rfl,trivial,rfl⟩
 refine ze (λL=>∃c:Int,0<=c/\c<10 ^ 63/\L=[q_ (.lst (rs.map rowF)),q_ (.scr ns),q_ (.int (xm ns 0)),q_ (.int (xm ns 1)),q_ (.int c),none,none,none,none]) ?_ ?_
 ·walk_at "dl";have fb:=Mt 12 (by decide) b2.1
  exact⟨ns,2,rfl,rfl,fdl,ns,9,rfl,rfl,_,by omega,by omega,rfl⟩
 rintro _ ⟨c,c0,c1,rfl⟩;refine z_g [q_ (.lst (rs.map rowF)),q_ (.scr ns),q_ (.int (xm ns 0)),q_ (.int (xm ns 1)),q_ (.int c),q_ (.int (c.fmod 17)),none,none,none] ?_ ?_
 ·walk_at "dl"
 have my:=yt c 17 (by decide)
 generalize c.fmod 17=y at my ⊢;refine ze (λL=>∃c:Int,0<=c/\c<10 ^ 63/\L=[q_ (.lst (rs.map rowF)),q_ (.scr ns),q_ (.int (xm ns 0)),q_ (.int (xm ns 1)),q_ (.int c),q_ (.int y),none,none,none]) ?_ ?_
 ·have fb:=Mt 17 (by decide) c0
  walk_at "dl";exact⟨fdl,_,by omega,by omega,rfl⟩
 rintro _ ⟨c,c0,c1,rfl⟩;refine ze (λL=>L=[q_ (.lst (rs.map rowF)),q_ (.scr ns),q_ (.int (xm ns 0)),q_ (.int (xm ns 1)),q_ (.int c),q_ (.int y),none,none,none]) (c6 rfl ?_ rfl) ?_
 ·walk_at "dl";exact h [] _ (λ_ z=>(nomatch z)) (Nat.zero_le _) (.inl ⟨λq=>absurd q.1.1 (by decide),rfl⟩) rfl
 rintro _ rfl;refine ze (λL=>L=[q_ (.lst (rs.map rowF)),q_ (.scr ns),q_ (.int (xm ns 0)),q_ (.int (xm ns 1)),q_ (.int c),q_ (.int y),none,none,none]) (c6 rfl ?_ rfl) ?_
 ·refine Vu (rngD 0 9) (λN a6=>?_) (λj gs=>∃qs:List (Fn×List Str),gs=qs.map rowF/\qs.length=j/\∀r∈qs,FuR r.1 r.2) (by rw[xt];decide) ⟨[],rfl,rfl,λ_ z=>(nomatch z)⟩ ?_ ?_
  ·exact⟨by decide,by decide,a6⟩
  ·rintro j e gs he a8 ⟨qs,rfl,ql,hq⟩;obtain⟨hj,rfl⟩:=vt he;walk_at "p";walk_at "dl";exact⟨_,j,rfl,rfl,by omega,_,_,rfl,_,_,rfl,wk _ _,rfl,λf k I _=>⟨trivial,qs++[(f,k)],by rw[zMa];rfl,by rw[zLa,ql];rfl,λr hr=>by
    rcases zas.mp hr with hr|hr
    ·exact hq r hr
    rw[List.mem_singleton.mp hr];exact I⟩⟩
  rintro gs ⟨qs,rfl,ql,hq⟩;rw[xt]at ql;exact h qs _ hq (by omega) (.inl ⟨λq=>by have:=q.1.2;rw[zLm]at this;omega,rfl⟩) rfl
 rintro _ rfl;refine z_g [q_ (.lst (rs.map rowF)),q_ (.scr ns),q_ (.int (xm ns 0)),q_ (.int (xm ns 1)),q_ (.int c),q_ (.int y),q_ (.str (nm (xm ns 0) 20)),none,none] ?_ ?_
 ·exact⟨rfl,_,20,rfl,rfl,by decide,trivial,rfl⟩
 have md:=yt c rs.length (by omega)
 refine ze (λL=>∃f k,FuR f k/\Spo rs f/\L=[q_ (.lst (rs.map rowF)),q_ (.scr ns),q_ (.int (xm ns 0)),q_ (.int (xm ns 1)),q_ (.int c),q_ (.int y),q_ (.str (nm (xm ns 0) 20)),q_ (rowD (fnD f,k)),none]) ?_ ?_
 ·obtain⟨j,ej⟩:∃j:Nat,c.fmod rs.length=j:=⟨(c.fmod rs.length).toNat,by omega⟩
  have jl:j<rs.length:=by omega
  walk_at "dl";refine⟨by omega,?_⟩
  rw[ej,xx1 jl,zaf jl];simp only[Option.map_some,rowF,rowD,fnD];exact⟨_,_,rfl,_,_,rfl,(hf _ (List.getElem_mem jl)).elim λq z=>z.2.2.elim λ_ y=>y.1,rfl,λf k I a7=>⟨trivial,f,k,I,Fh (λz=>z.2 (by rw[a7];exact zah.mpr ⟨rs[j],List.getElem_mem jl,rfl⟩)),rfl⟩⟩
 rintro _ ⟨f,k,I,hs,rfl⟩;refine ze (λL=>∃f k,FuR f k/\Spo rs f/\L=[q_ (.lst (rs.map rowF)),q_ (.scr ns),q_ (.int (xm ns 0)),q_ (.int (xm ns 1)),q_ (.int c),q_ (.int y),q_ (.str (nm (xm ns 0) 20)),q_ (rowD (fnD f,k)),none]) ?_ ?_
 ·walk_at "dl";exact⟨λh8=>⟨_,_,_,_,rfl,y,c,xm ns 1,_,rfl,⟨my.1,h8⟩,rfl,c0,c1,rfl,wk _ 20,rfl,λf k I hh _=>⟨trivial,f,k,I,Fh (λz=>hh z.1),rfl⟩⟩,λ_=>⟨λ_=>⟨_,21,rfl,rfl,by decide,_,_,_,_,_,rfl,y,c,xm ns 1,_,_,rfl,rfl,c0,c1,rfl,wk _ 20,rfl,wk _ 21,rfl,λs b k hs I hB=>⟨trivial,_,k,I,De hf hn hB,rfl⟩⟩,λ_=>⟨f,k,I,hs,rfl⟩⟩⟩
 rintro _ ⟨f,k,I,hs,rfl⟩;refine ze (λL=>∃j:Nat,L=[q_ (.lst (rs.map rowF)),q_ (.scr ns),q_ (.int (xm ns 0)),q_ (.int (xm ns 1)),q_ (.int c),q_ (.int y),q_ (.str (nm (xm ns 0) 20)),q_ (rowD (fnD f,k)),q_ (.int j)]) ?_ ?_
 ·have ma:=yt (c.fdiv 7) (rs.length+1) (by omega)
  walk_at "dl";exact⟨fdl,by omega,((c.fdiv 7).fmod (rs.length+1)).toNat,by rw[Int.toNat_of_nonneg ma.1]⟩
 rintro _ ⟨j,rfl⟩;walk_at "dl";rw[ZZ.cutD_take,ZZ.cutD_drop,xq];have ld:((rs.map rowF).take j).length+((rs.map rowF).drop j).length=rs.length:=by rw[<- zLa,List.take_append_drop,zLm]
 have l3:(rs.take j).length+(rs.drop j).length=rs.length:=by rw[<- zLa,List.take_append_drop]
 refine⟨by omega,by rw[zLa,List.length_singleton];omega,h (rs.take j++(f,k)::rs.drop j) _ (λr hr=>?_) (by rw[zLa,zLc];omega) ?_ ?_⟩
 ·rcases zas.mp hr with hr|hr
  ·exact hf r (List.mem_of_mem_take hr)
  rcases zam.mp hr with rfl|hr
  ·exact I
  exact hf r (List.mem_of_mem_drop hr)
 ·have:=hs j
  rwa [<- List.map_take,<- List.map_drop,<- List.map_cons (f:=Prod.fst) (a:=(f,k)),<- zMa]at this
 show D.lst _=D.lst _;rw[zMa,List.map_cons,List.map_take,List.map_drop,List.append_assoc];rfl
def rw2(r:Fn×List Str):D×List Str:=(fnD r.1,r.2)
def Ap(rs:List (Fn×List Str)):wds (rs.map rw2)=(rs.map Prod.snd).flatten:=by
 unfold wds;rw[List.map_map];rfl
def Ur(rs:List (Fn×List Str)):rs.map rowF=(rs.map rw2).map rowD:=by
 rw[List.map_map];rfl
def E8(rs:List (Fn×List Str)):(rs.map rw2).map Prod.fst=(rs.map Prod.fst).map fnD:=by
 rw[List.map_map,List.map_map];rfl
def J4{p:D}{f:Fn}(h:RdF p f):Sn f:=by
 obtain⟨q,h1,h2,h3,I,h5,h6,Z,rfl⟩:=h;exact⟨by have:=h1.2.1;omega,by omega,λp j=>⟨by have:=(h2 p j).1.2.1;omega,(h2 p j).2⟩,I,by omega⟩
def z4j{z:Str}{e:D}(n:Nat)(h:Wd z e):okD (n+1) e:=by
 rcases h with⟨_,rfl⟩|⟨_,rfl⟩|⟨i,_,_,rfl⟩
 ·exact yd (yr _ _) (u0 _)
 ·exact yd (yr _ _) (yd (yr _ _) (u0 _))
 exact yd (yr _ _) (yd (by rw[uc];trivial) (u0 _))
theorem N9:∀{n:Nat}{p e:D},RdE n p e->okD (2*n) e
 |0,_,_,h=>h.elim
 |n+1,p,e,h=>by
  rcases h with⟨z,rfl,w⟩|⟨f,ps,es,_,I,_,rfl,rfl⟩|⟨o,ps,es,_,I,_,rfl,rfl⟩
  ·exact z4j (2*n+1) w
  ·exact yd (n:=2*n+1) (yr _ _) (yd (yr _ _) (yd (λx j=>(I.at' j).elim λ_ q=>N9 q.2) (u0 _)))
  exact yd (n:=2*n+1) (yr _ _) λx j=>(I.at' j).elim λ_ q=>d6 (by omega) (N9 q.2)
theorem Zo:∀{n:Nat}{p b:D},RdB n p b->okD (n+8) b
 |0,_,_,h=>h.elim
 |n+1,p,b,h=>by
  have j:∀{q e:D},RdE 4 q e->okD (n+8) e:=λh=>d6 (by omega) (N9 h)
  rcases h with⟨q,e,h1,rfl,rfl⟩|⟨z,q,e,Z,b1,hz,h1,h2,rfl,rfl⟩|⟨Z,e1,q2,e2,p1,b1,p2,b2,h1,h2,h3,h4,rfl,rfl⟩|⟨o,z,p1,b1,zs,p2,b2,ho,hz,h1,a0,a1,h2,rfl,rfl⟩
  ·exact yd (n:=n+8) (yr _ _) (yd (j h1) (u0 _))
  ·exact yd (n:=n+8) (yr _ _) (yd (yr _ _) (yd (j h1) (yd (Zo h2) (u0 _))))
  ·exact yd (n:=n+8) (yr _ _) (yd (j h1) (yd (j h2) (yd (Zo h3) (yd (Zo h4) (u0 _)))))
  intro x I;simp only[List.cons_append,List.nil_append,zam,zas,List.not_mem_nil,or_false]at I;rcases I with rfl|rfl|rfl|I|rfl
  ·exact yr _ _
  ·exact yr _ _
  ·exact Zo h1
  ·obtain⟨z,_,rfl⟩:=zah.mp I;exact yr _ _
  exact Zo h2
def z0x{p:D}{f:Fn}(h:RdF p f):okD 39 (fnD f):=by
 obtain⟨q,h1,h2,h3,h4,h5,Z,I,rfl⟩:=h;refine yd (n:=38) (yr _ _) (yd (λx j=>?_) (yd (yd (n:=37) (yr _ _) (yd (λx j=>?_) (u0 _))) (yd (d6 (by decide) (Zo I)) (u0 _))))
 ·obtain⟨p,_,rfl⟩:=zah.mp j;exact yd (n:=36) (yr _ _) (yd (yr _ _) (u0 _))
 obtain⟨i,_,rfl⟩:=zah.mp j;rw[uc];trivial
structure Gr(rs:List (Fn×List Str))(ws:List Str)(qs:List Pt):Prop where
 we:wds (rs.map rw2)=ws
 tk:∀w∈ws,Tok w
 wb:w4 ws<=4000000
 run:runN [[]] ws=some [qs]
 rd:w8 RdF (pds qs) (rs.map Prod.fst)
 hb:∀f∈rs.map Prod.fst,Sn f
 pu:vg ((rs.map Prod.fst).map fnD)
 th:okD 40 (.tup ((rs.map Prod.fst).map fnD))
 ln:rs.length<=9
def z3a{rs:List (Fn×List Str)}(hf:∀ r∈rs,FuR r.1 r.2)(I:rs.length<=9):∃ws qs,Gr rs ws qs:=by
 obtain⟨qs,g1,g21,g3⟩:=Yq (S:=RdF) (b:=360000) rs λr hr=>hf r hr;have b:=Nat.mul_le_mul_right 360000 I;refine⟨_,qs,Ap rs,g1.tk,by omega,?_,g3,λf j=>?_,yu.mpr λd hd=>?_,λx Z=>?_,I⟩
 ·rw[<- g1.eq,Uq qs g1.ok [] []];rfl
 ·obtain⟨p,_,q⟩:=g3.at' j;exact J4 q
 ·obtain⟨f,j,rfl⟩:=zah.mp hd;obtain⟨p,_,q⟩:=g3.at' j;exact(fw q).2
 obtain⟨f,j,rfl⟩:=zah.mp Z;obtain⟨p,_,q⟩:=g3.at' j;exact z0x q
def O2(c:List Str):wsum c<=w4 c:=by
 induction c with
 |nil=>exact zaj _
 |cons a c ih=>rw[wx,xb];omega
def P4{zs:List Str}{t:Str}(q:∀ w∈zs,Tok w)(j:w4 zs<=4000000)(I:Bl t):vq (t8 zs++t)=zs/\rf (t8 zs++t):=by
 have L:=T7 q (zaj _);rw[List.take_length]at L;exact Fy L I (by rw[O5];exact j)
def fj{t u:TDS}{L:DE}{Z:DZ}(h:t L {Z with nx:=λL=>u L Z}):sSeq t u L Z:=h
def tRef:FT:=g1 λd U=>∃(z:Str)(qs:List Pt)(fs:List Fn),d=.str z/\rf z/\(vq z).length<=1000000/\runN [[]] (vq z)=some [qs]/\w8 RdF (pds qs) fs/\(∀f∈fs,Sn f)/\fs.length<=100/\sy 4 5 fs false/\U (dv (.bl true))
def Z5(T:Tops mg){cE cN a8 a7 a6 a5 a4 a2 a1 a0 I:Addr}(Z:Cls1 K mg cE cN a8 a7 a6 a5 a4 a2 a1 a0 I)(j:FX P w K mg base 28 "read" ["text"] (D3 cN))(F:Fm K mg "_law_refused" 71):FD P w K mg base 29 "_law_refused" ["_law_line_here"] tRef:=by
 have S:zt ["_law_line_here","_law_told","_law_e_here"] ["_law_line_here"] (zh (top 71)):=by walk_at "f"
 walk_at "b";refine⟨_,(zd (zm 1 S.nd tw)
   (zd (z0l (K0:=K) (by rfl) 2 S.nd Z.b_TollError (λa9 pn xe χ q=>(zk (Um (G8 j (hr.e rfl) q (z9 (za 0) zb))))) (λa=>by exact(zd (zm 1 S.nd (vp (vj (K0:=K) (by rfl) T.isinstance Z.b_NoProgram (za 2)) (vp (L7 (K0:=K) (by rfl) T.isinstance T.ValueError h9 (za 2)) (sx (tu (vj (K0:=K) (by rfl) T.isinstance Z.b_NoText (za 2)))))))
    (zd (zm 1 S.nd (vp (za 1) (vp (tu (vj (K0:=K) (by rfl) T.isinstance Z.b_NoFunction (za 2))) (vp (tu (vj (K0:=K) (by rfl) T.isinstance Z.b_NoValue (za 2))) (sx (tu (vj (K0:=K) (by rfl) T.isinstance Z.b_NoTable (za 2))))))))
    (zd (zm 1 S.nd (vp (za 1) (vp (tu (vj (K0:=K) (by rfl) T.isinstance Z.b_NoRatio (za 2))) (vp (tu (vj (K0:=K) (by rfl) T.isinstance Z.b_NoPaper (za 2))) (sx (tu (vj (K0:=K) (by rfl) T.isinstance Z.b_NoSize (za 2))))))))
    (zk (zm 1 S.nd (vp (za 1) (vp (tu (vj (K0:=K) (by rfl) T.isinstance Z.b_NoRow (za 2))) (sx (tu (vj (K0:=K) (by rfl) T.isinstance Z.b_TooMany (za 2)))))))))))))
   (zk (zw (za 1))))),?_⟩
 obtain⟨d,rfl,z,qs,fs,rfl,h1,h2,h3,h4,h5,h6,h7,h⟩:=vm hT;refine fj ⟨trivial,?_⟩
 dsimp only
 refine fj ?_;refine⟨rfl,z,qs,fs,false,rfl,h1,h2,h3,h4,h5,h6,h7,λy=>(nomatch y),λ_=>⟨Z.m_NoProgram,?_⟩⟩;refine fj ?_;refine⟨true,Hg,Z.y_NoProgram,λ_=>⟨true,Z.k_Val,Z.y_NoProgram,λ_=>⟨false,Z.k_no _ (by simp),Z.y_NoProgram,trivial,?_⟩,λz=>(by cases z)⟩,λz=>(by cases z)⟩
 dsimp only
 refine fj ?_;refine⟨λ_=>⟨false,Z.k_no _ (by simp),Z.y_NoProgram,λ_=>⟨false,Z.k_no _ (by simp),Z.y_NoProgram,λ_=>⟨false,Z.k_no _ (by simp),Z.y_NoProgram,trivial,?_⟩,λz=>(by cases z)⟩,λz=>(by cases z)⟩,λz=>(by cases z)⟩
 dsimp only
 refine fj ?_;refine⟨λ_=>⟨false,Z.k_no _ (by simp),Z.y_NoProgram,λ_=>⟨false,Z.k_no _ (by simp),Z.y_NoProgram,λ_=>⟨false,Z.k_no _ (by simp),Z.y_NoProgram,trivial,?_⟩,λz=>(by cases z)⟩,λz=>(by cases z)⟩,λz=>(by cases z)⟩
 dsimp only
 refine⟨λ_=>⟨false,Z.k_no _ (by simp),Z.y_NoProgram,λ_=>⟨false,Z.k_no _ (by simp),Z.y_NoProgram,trivial,?_⟩,λz=>(by cases z)⟩,λz=>(by cases z)⟩
 exact⟨trivial,h⟩
def len4(c:List Str):4*c.length<=w4 c:=by
 induction c with
 |nil=>exact zaj _
 |cons a c ih=>rw[wx,zLc];omega
def blk4{m:Int}(h:0<=m/\m<4):∃t:Str,atI [D.str "",D.str " ",D.str "\n",D.str "\x20\n\x20\x20"] m=some (.str t)/\Bl t:=by
 have:m=0\/m=1\/m=2\/m=3:=by omega
 rcases this with rfl|rfl|rfl|rfl
 ·exact⟨_,rfl,U3 (by decide +kernel) (by decide +kernel)⟩
 ·exact⟨_,rfl,U3 (by decide +kernel) (by decide +kernel)⟩
 ·exact⟨_,rfl,U3 (by decide +kernel) (by decide +kernel)⟩
 exact⟨_,rfl,U3 (by decide +kernel) (by decide +kernel)⟩
def Gx:FT:=g1 λd U=>∃(z:Str)(qs:List Pt)(fs:List Fn),d=.str z/\rf z/\(vq z).length<=1000000/\runN [[]] (vq z)=some [qs]/\w8 RdF (pds qs) fs/\(∀f∈fs,Sn f)/\fs.length<=100/\sy 4 5 fs true/\U (dv (.tup (fs.map fnD)))
def Bt{C:Addr}(F:FX P w K mg base 28 "read" ["text"] (D3 C)):FD P w K mg base 28 "read" ["text"] Gx:=z5u F λds U hT=>by
 obtain⟨d,rfl,z,j,fs,rfl,h1,h2,h3,h4,Z,I,q,h⟩:=vm hT;exact⟨z,j,fs,true,rfl,h1,h2,h3,h4,Z,I,q,λ_=>h,λy=>(nomatch y)⟩
def z2b(T:Tops mg)(a2:FD P w K mg base 28 "read" ["text"] Gx)(a4:FD P w K mg base 27 "right" ["program"] (Uk 4 5))(b3:FD P w K mg base 1 "_law_cell_at" pN fi)(a8:FD P w K mg base 19 "_law_grown" ["_law_script"] Gz)(a6:FD P w K mg base 1 "_law_flat" pG Yc)(a5:FD P w K mg base 1 "_law_line" ["_law_words"] Az)(b0:FO P w K mg base 3 "_law_spoiled" ["_law_made","_law_script"] Ss)(a9:FD P w K mg base 29 "_law_refused" ["_law_line_here"] tRef)(F:Fun K "law" "law" (top 72) f fd):FnOk P w K mg base CX0 30 f fd ["_law_script"] (spD K 1 lawT):=by
 have S:zt ["_law_script","_law_made","_law_due","_law_line_here","_law_bad"] ["_law_script"] (zh (top 72)):=by walk_at "f"
 refine Ea F S λqZ A outer s H E ds U hr hl hT=>?_;have hu:=hr.units;refine⟨_,(zd (zj (zm 1 S.nd (zi a8 (hr.e rfl) (z9 (za 0) zb))))
   (zd (zj (zm 2 S.nd (x5 T.tuple (z9 (cu (T:=["_law_one","_law_words"]) (F:=[]) (js:=[]) (yp (za 1)) (cs1 (by walk_at "c")) .nil (by decide) (by walk_at "t") (u3 (ym yc (xg yc yw) zx (ym yc yw zx u5))) (w6 0 1) yG (λcl C fp s H=>(za 0))) zb))))
   (zd (zj (zm 3 S.nd (zi a5 (hr.e rfl) (z9 (zi a6 (hr.e rfl) (z9 (za 1) zb)) zb))))
   (zd (zj (yi (qx hu (zi a2 (hr.e rfl) (z9 (za 3) zb)) (za 2)) (zk (zw tw)) ya))
   (zd (zj (Dm 4 S.nd b0 (hr.e rfl) (z9 (za 1) (z9 (za 0) zb))))
   (zd (zj (yi (wq (wg (zi a9 (hr.e rfl) (z9 (yb (zi a5 (hr.e rfl) (z9 (zi a6 (hr.e rfl) (z9 (za 4) zb)) zb)) (zn hu (zy (z9 zg (z9 zg (z9 zg (z9 zg zb))))) (yj (v5 (zi b3 (hr.e rfl) (z9 (za 0) (z9 zc zb))) zc) zc))) zb)))) (zk (zw tw)) ya))
   (zd (zj (yi (L0 (zi a4 (hr.e rfl) (z9 (x5 T.tuple (z9 (cu (T:=["_law_one","_law_words"]) (F:=[]) (js:=[]) (yp (za 4)) (cs1 (by walk_at "c")) .nil (by decide) (by walk_at "t") (u3 (ym yc (xg yc yw) zx (ym yc yw zx u5))) (w6 0 1) yG (λcl C fp s H=>(za 0))) zb)) zb)) tw) (zk (zw tw)) ya))
   (zk (zw (vp (Xr hu (zi a2 (hr.e rfl) (z9 (za 3) zb)) (za 2)) (sx (z3p (zi a4 (hr.e rfl) (z9 (za 2) zb)) tw)))))))))))),?_⟩
 obtain⟨ns,rfl,hn,h⟩:=hT;refine ze (λL=>∃rs q qs,Gr rs q qs/\(∀r∈rs,FuR r.1 r.2)/\Gk 4 5 (rs.map Prod.fst) (λ_=>true)/\(∀r∈rs,∃j:Nat,j<8/\r.1.name=nm (xm ns 0) j)/\L=[q_ (.scr ns),q_ (.lst ((rs.map rw2).map rowD)),none,none,none]) ?_ ?_
 ·walk_at "dl";exact⟨ns,rfl,λrs hf hp hj=>⟨trivial,by
   have l8:=hp.hi;rw[zLm]at l8;obtain⟨q,qs,G⟩:=z3a hf (by omega);exact⟨rs,q,qs,G,hf,hp,hj,by rw[Ur]⟩⟩⟩
 rintro _ ⟨rs,q,qs,G,hf,hp,hj,rfl⟩;have lw:=len4 q;have b4:=G.wb;have l9:=G.ln;refine z_g [q_ (.scr ns),q_ (.lst ((rs.map rw2).map rowD)),q_ (.tup ((rs.map Prod.fst).map fnD)),none,none] ?_ ?_
 ·walk_at "dl";refine k6 ((rs.map rw2).map rowD) (λN a1=>?_) fstD (by rw[zLm,zLm];omega) (λd hd=>?_) ?_
  ·exact⟨trivial,a1⟩
  ·obtain⟨r,_,rfl⟩:=zah.mp hd;unfold rowD;walk_at "p";walk_at "dl";rfl
  rw[qt,E8]
 refine z_g [q_ (.scr ns),q_ (.lst ((rs.map rw2).map rowD)),q_ (.tup ((rs.map Prod.fst).map fnD)),q_ (.str (t8 q)),none] ?_ ?_
 ·walk_at "dl";exact⟨rs.map rw2,rfl,by rw[G.we];omega,q,by rw[G.we],by have:=O2 q;omega,trivial,rfl⟩
 obtain⟨Z,a7⟩:=P3 G.tk G.wb;have er:=Q3 40 _ G.th;have rt:sy 4 5 (rs.map Prod.fst) true:=.inr ⟨_,hp,(List.all_eq_true.mpr λ_ _=>rfl).symm⟩;have a0:(rs.map Prod.fst).length<=100:=by rw[zLm];omega
 refine z_g [q_ (.scr ns),q_ (.lst ((rs.map rw2).map rowD)),q_ (.tup ((rs.map Prod.fst).map fnD)),q_ (.str (t8 q)),none] ?_ ?_
 ·walk_at "dl";exact⟨_,qs,rs.map Prod.fst,rfl,a7,by rw[Z];omega,by rw[Z];exact G.run,G.rd,G.hb,a0,rt,G.th,G.th,λz=>(by rw[er]at z;cases z)⟩
 refine ze (λL=>∃xs us ps,Gr xs us ps/\sy 4 5 (xs.map Prod.fst) false/\L=[q_ (.scr ns),q_ (.lst ((rs.map rw2).map rowD)),q_ (.tup ((rs.map Prod.fst).map fnD)),q_ (.str (t8 q)),q_ (.lst ((xs.map rw2).map rowD))]) ?_ ?_
 ·have l0:=hp.lo;have l8:=hp.hi;rw[zLm]at l0 l8;exact⟨⟨trivial,trivial,trivial,trivial,trivial⟩,rfl,_,_,rfl,rs,ns,by rw[Ur],rfl,l0,l8,hf,hj,λxs r hx xl xr e=>by
   obtain⟨us,ps,I⟩:=z3a hx xl;refine⟨xs,us,ps,I,xr,?_⟩;rw[<- Ur xs,<- e];rfl⟩
 rintro _ ⟨xs,us,ps,I,r2,rfl⟩;have lu:=len4 us;have u4:=I.wb;have x9:=I.ln;have b9:=Sd ns 9;refine z_g [q_ (.scr ns),q_ (.lst ((rs.map rw2).map rowD)),q_ (.tup ((rs.map Prod.fst).map fnD)),q_ (.str (t8 q)),q_ (.lst ((xs.map rw2).map rowD))] ?_ ?_
 ·walk_at "dl";obtain⟨t,ht,hb⟩:=blk4 (yt ((xm ns 9).fdiv 3) 4 (by decide))
  obtain⟨v1,v2⟩:=P4 I.tk I.wb hb;refine⟨xs.map rw2,rfl,by rw[I.we];omega,us,by rw[I.we],by have:=O2 us;omega,ns,9,rfl,rfl,fdl,?_⟩
  rw[ht];refine⟨?_,_,ps,xs.map Prod.fst,rfl,v2,by rw[v1];omega,by rw[v1];exact I.run,I.rd,I.hb,by rw[zLm];omega,r2,λz=>(nomatch z)⟩
  have:=v2;unfold rf at this;rw[X2]at this;rw[sizeLine_eq];omega
 refine z_g [q_ (.scr ns),q_ (.lst ((rs.map rw2).map rowD)),q_ (.tup ((rs.map Prod.fst).map fnD)),q_ (.str (t8 q)),q_ (.lst ((xs.map rw2).map rowD))] ?_ ?_
 ·walk_at "dl";refine k6 ((xs.map rw2).map rowD) (λN a1=>?_) fstD (by rw[zLm,zLm];omega) (λd hd=>?_) ?_
  ·exact⟨trivial,a1⟩
  ·obtain⟨r,_,rfl⟩:=zah.mp hd;unfold rowD;walk_at "p";walk_at "dl";rfl
  rw[qt,E8];exact⟨xs.map Prod.fst,false,rfl,by decide,I.hb,by rw[zLm];omega,r2,λz=>(nomatch z)⟩
 walk_at "dl";exact⟨_,qs,rs.map Prod.fst,rfl,a7,by rw[Z];omega,by rw[Z];exact G.run,G.rd,G.hb,a0,rt,G.th,G.th,λ_=>⟨rs.map Prod.fst,true,rfl,by decide,G.hb,a0,rt,h⟩,λz=>(by rw[er]at z;cases z)⟩
mutual
def chk(K:W.Frag):Cst->Value->Bool
 |.tup l,u=>match u with
  |.ref a=>match K.lookup a with
   |some ⟨.type "tuple",_,.seq its _,_⟩=>Nat.ble its.size 100&&chks K l its.toList
   |_=>false
  |_=>false
 |.int i,u=>match u with
  |.int j _=>i==j
  |_=>false
 |.str x,u=>match u with
  |.str y _=>x==y
  |_=>false
def chks(K:W.Frag):List Cst->List Value->Bool
 |[],us=>us.isEmpty
 |c::l,us=>match us with
  |u::us=>chk K c u&&chks K l us
  |[]=>false
end
mutual
theorem Lo{K:W.Frag}:∀(c:Cst)(u:Value),chk K c u=true->∃v,RelV v u/\CRep K c v
 |.tup l,u,h=>by
  unfold chk at h;split at h
  ·rename_i a;split at h
   ·rename_i o its k I e;obtain⟨h1,h2⟩:=Bool.and_eq_true_iff.mp h;obtain⟨xs,q,j⟩:=Lm l its.toList h2;exact⟨.ref a,rfl,a,_,its,k,xs,rfl,e,rfl,rfl,zak (Nat.le_of_ble_eq_true h1) (by rw[sizeLine_eq];decide),q,j⟩
   cases h
  cases h
 |.int i,u,h=>by
  unfold chk at h;split at h
  ·cases eq_of_beq h;exact⟨.int i,⟨_,rfl⟩,rfl⟩
  cases h
 |.str x,u,h=>by
  unfold chk at h;split at h
  ·cases eq_of_beq h;exact⟨.str x,⟨_,rfl⟩,rfl⟩
  cases h
theorem Lm{K:W.Frag}:∀(l:List Cst)(us:List Value),chks K l us=true->∃xs,Vals xs us/\Ug K l xs
 |[],us,h=>by
  unfold chks at h;cases us with
  |nil=>exact⟨[],.nil,rfl⟩
  |cons _ _=>cases h
 |c::l,us,h=>by
  unfold chks at h;cases us with
  |nil=>cases h
  |cons u us =>
   obtain⟨h1,h2⟩:=Bool.and_eq_true_iff.mp h;obtain⟨v,a,b⟩:=Lo c u h1;obtain⟨xs,p,q⟩:=Lm l us h2;exact⟨v::xs,.cons a p,v,xs,rfl,b,q⟩
end
def CtA(K:W.Frag)(x:Str)(c:Cst):Prop:=∃u,W.nsIn K mainGlobals x=some (some u)/\chk K c u=true
def z3y{K:W.Frag}{h:Heap}{mg:Str->Option Value}{x:Str}{c:Cst}(X:K.In h)(G:h.Ns mainGlobals mg)(q:CtA K x c):GC K mg x (.cn c) :=
 let ⟨u,a,b⟩:=q;let ⟨v,r,k⟩:=Lo c u b;⟨u,v,W.mg_of X G a,r,λ_ _=>k⟩
def ent(w:World)(p:Str×PySem.Tok×Value):DictEntry:=⟨hashStr w p.1,.str p.1 p.2.1,p.2.2⟩
def Rws(K:W.Frag):List (Str×PySem.Tok×Value)->List (Str×Cst)->Prop
 |[],tab=>tab=[]
 |p::l,tab=>∃c r,tab=(p.1,c)::r/\chk K c p.2.2=true/\Rws K l r
def Hu{P:Program}{w:World}(z:Str)(p:Str×PySem.Tok×Value)(l:List (Str×PySem.Tok×Value)):findBy (strKind P w).is ((p::l).map (ent w)).toArray z=if z=p.1 then some p.2.2 else findBy (strKind P w).is (l.map (ent w)).toArray z:=by
 unfold findBy;rw[List.find?_toArray,List.find?_toArray,List.map_cons,List.find?_cons];have e:(strKind P w).is z (ent w p).key=(p.1==z):=rfl;rw[e];by_cases q:z=p.1
 ·rw[if_pos q,q,beq_self_eq_true];rfl
 rw[if_neg q,beq_eq_false_iff_ne.mpr (λy=>q y.symm)]
theorem Uo{P:Program}{w:World}{K:W.Frag}(z:Str):∀(l:List (Str×PySem.Tok×Value))(tab:List (Str×Cst)),Rws K l tab ->
  (tabL tab z=none->findBy (strKind P w).is (l.map (ent w)).toArray z=none)/\∀c,tabL tab z=some c->∃u v,findBy (strKind P w).is (l.map (ent w)).toArray z=some u/\RelV v u/\CRep K c v
 |[],tab,h=>by
  cases (show tab=[] from h)
  exact⟨λ_=>rfl,λc y=>by cases y⟩
 |p::l,tab,h=>by
  obtain⟨c,r,rfl,h1,j⟩:=h;obtain⟨v,h1,h2⟩:=Lo _ _ h1;obtain⟨i1,i2⟩:=Uo z l r j;rw[Hu];unfold tabL;by_cases q:z=p.1
  ·rw[if_pos q,if_pos q];exact⟨λy=>(by cases y),λI y=>(by cases y;exact⟨_,v,rfl,h1,h2⟩)⟩
  rw[if_neg q,if_neg q];exact⟨i1,i2⟩
def Rwe(K:W.Frag)(w:World):List DictEntry->List (Str×Cst)->Prop
 |es,[]=>es=[]
 |es,(k,c)::r=>∃t u l,es=⟨hashStr w k,.str k t,u⟩::l/\chk K c u=true/\Rwe K w l r
theorem z0s{K:W.Frag}{w:World}:∀{tab:List (Str×Cst)}{es:List DictEntry},Rwe K w es tab->∃l,es=l.map (ent w)/\Rws K l tab
 |[],_,h=>⟨[],h,rfl⟩
 |(k,c)::_,_,⟨t,u,_,e,h,q⟩=>let ⟨l,e',q'⟩:=z0s q;⟨(k,t,u)::l,by rw[e,e'];rfl,c,_,rfl,h,q'⟩
def GtA(K:W.Frag)(w:World)(x:Str)(j:List (Str×Cst)):Prop:=∃a es n,W.nsIn K mainGlobals x=some (some (.ref a))/\(a==sysModules)=false/\K.lookup a=some ⟨.type "dict",none,.dict es n,#[]⟩/\Rwe K w es.toList j
def Vc{P:Program}{w:World}{K:W.Frag}{h:Heap}{mg:Str->Option Value}{x:Str}{tab:List (Str×Cst)}(X:K.In h)(G:h.Ns mainGlobals mg)(q:GtA K w x tab):GT P w K mg x tab:=by
 obtain⟨a,es,n,Z,I,hl,hr⟩:=q;obtain⟨l,e,h2⟩:=z0s hr;have e:es=(l.map (ent w)).toArray:=by rw[<- e]
 subst e;refine⟨a,findBy (strKind P w).is (l.map (ent w)).toArray,W.mg_of X G Z,⟨⟨_,_,hl,λd j=>?_,λk=>rfl⟩,I⟩,λz=>(Uo z l tab h2).1,λz=>(Uo z l tab h2).2⟩;rw[List.mem_toArray]at j;obtain⟨p,_,rfl⟩:=zah.mp j;exact⟨p.1,ZZ.isStr_self _ _,rfl⟩
abbrev NnA(K:W.Frag)(x:Str):Prop:=W.nsIn K mainGlobals x=some none
def Al(K:W.Frag):List (Str×Nat)->Prop
 |[]=>True
 |p::l=>(∃f fd,Fun K p.1 p.1 (top p.2) f fd/\W.nsIn K mainGlobals p.1=some (some (.ref f)))/\Al K l
def Am(K:W.Frag)(mg:Str->Option Value):List (Str×Nat)->Prop
 |[]=>True
 |p::l=>Fm K mg p.1 p.2/\Am K mg l
def al_mk{K:W.Frag}{x:Str}{i:Nat}{l:List (Str×Nat)}{f:Addr}{Z an:Option Addr}{j:Array (Option Value)}{oc kV dc I cd ct:Value}(a:W.nsIn K mainGlobals x=some (some (.ref f)))(q:K.lookup f=some ⟨oc,Z,.func (W.fnOf x x (tf (top i)) (xp (top i)) (zh (top i)) .none kV dc I an cd ct),j⟩)(c:W.codeIn K cd x=true)(k:W.keepIn K (.ref f)=true)(h:Al K l):Al K ((x,i)::l):=⟨⟨_,_,E7 q c k,a⟩,h⟩
def z4b{K:W.Frag}{h:Heap}{mg:Str->Option Value}(X:K.In h)(G:h.Ns mainGlobals mg):∀{l:List (Str×Nat)},Al K l->Am K mg l
 |[],_=>trivial
 |_::_,⟨⟨f,fd,F,a⟩,q⟩=>⟨⟨f,fd,F,W.mg_of X G a⟩,z4b X G q⟩
structure Oth(K:W.Frag)(a c:Addr):Prop where
 n:a≠c
 t:W.typeIn K (.ref c)=some (.type "type")
 d:W.hasDictIn K c=true
 u:W.subIn K (.ref a) (.ref c)=some false
def Oth.no{K:W.Frag}{a c:Addr}(h:Oth K a c):W.kitOne K (.ref a) (.ref c)=some false:=B8 h.n h.t h.d h.u
def all_mk{l:W.OpenLaw}{w:World}{K:W.Frag}{h:Heap}{mg:Str->Option Value}{fa:Addr}(X:K.In h)(G:h.Ns mainGlobals mg)(o5:mg "law" = some (.ref fa)){i5:Addr}{l6 f5:Option Addr}{l5:Array (Option Value)}{l7 f2 f3 f1 e3 f4:Value}{tL tG:PySem.Tok}{cE cN k1 k0 j3 j0 i9 i8 i7 i6 c_8:Addr}(lA:Al K (("is_whole",18)::("is_name",19)::("unlike",20)::("gives_right",23)::("head_right",22)::("shape_if",28)::("call_shape",27)::("shape_of",26)::("wider_right",25)::("body_right",24)::("right",21)::("words_of",35)::("nested",36)::("in_bracket",37)::("bracket_of",38)::("head_of",39)::("read_name",40)::("read_names",41)::("read_shape",42)::("is_number",43)::("read_number",44)::("read_word",51)::("read_all",50)::("read_expression",49)::("read_gives",47)::("read_param",46)::("read_body",48)::("read_function",45)::("read",34)::("_law_cell_at",53)::("_law_name",54)::("_law_next",55)::("_law_flat",56)::("_law_plain",57)::("_law_e",58)::("_law_open",59)::("_law_body",60)::("_law_head",61)::("_law_built",62)::("_law_function",63)::("_law_grown",64)::("_law_line",65)::("_law_give",66)::("_law_bad_head",67)::("_law_bad_body",68)::("_law_plain_one",69)::("_law_spoiled",70)::("_law_refused",71)::[]))(o7:W.nsIn K mainGlobals "law" = some (some (.ref i5)))(o3:K.lookup i5=some ⟨l7,l6,.func (W.fnOf "law" "law" (tf (top 72)) (xp (top 72)) (zh (top 72)) .none f2 f3 f1 f5 e3 f4),l5⟩)(o6:W.codeIn K e3 "law" = true)(o4:W.keepIn K (.ref i5)=true)(bL:W.nsIn K mainGlobals "LETTERS" = some (some (.str "abcdefghijklmnopqrstuvwxyz" tL)))(bG:W.nsIn K mainGlobals "FIGURES" = some (some (.str "0123456789" tG)))(hS:CtA K "SHAPES" (cs km))(hN:CtA K "NO_NAMES" (cs ["nil","leaf"]))(tF:GtA K w "FORMS" Rz)(tB:GtA K w "BROUGHT" fg)(t0:GtA K w "BODIES" je)(t1:GtA K w "BRACKETS" vd)(t2:GtA K w "BRINGS" bg)(q:NnA K "ValueError")(h5:NnA K "all")(h4:NnA K "any")(e7:NnA K "bool")(e6:NnA K "dict")(h3:NnA K "int")(j:NnA K "isinstance")(g7:NnA K "len")(e5:NnA K "list")(e0:NnA K "range")(g0:NnA K "set")(f8:NnA K "str")(d3:NnA K "tuple")(f6:NnA K "zip")(a1:W.nsIn K mainGlobals "TollError" = some (some (.ref cE)))(a2:W.nsIn K mainGlobals "NoProgram" = some (some (.ref cN)))(c3:W.nsIn K mainGlobals "NoText" = some (some (.ref k1)))(a0:W.nsIn K mainGlobals "NoFunction" = some (some (.ref k0)))(b0:W.nsIn K mainGlobals "NoValue" = some (some (.ref j3)))(b3:W.nsIn K mainGlobals "NoTable" = some (some (.ref j0)))(b4:W.nsIn K mainGlobals "NoRatio" = some (some (.ref i9)))(b9:W.nsIn K mainGlobals "NoPaper" = some (some (.ref i8)))(d0:W.nsIn K mainGlobals "NoSize" = some (some (.ref i7)))(e4:W.nsIn K mainGlobals "NoRow" = some (some (.ref i6)))(a9:W.nsIn K mainGlobals "TooMany" = some (some (.ref c_8)))(xN:excV K cN)(sE:W.subIn K (.ref cE) (.type "BaseException")=some true)(tE:W.typeIn K (.ref cE)=some (.type "type"))(dE:W.hasDictIn K cE=true)(uE:W.subIn K (.ref cN) (.ref cE)=some true)(uV:W.subIn K (.ref cN) (.type "ValueError")=some true)(y1:W.findIn K (.ref cN) "__getattribute__" = some (some (.builtin "BaseException.__getattribute__")))(y2:W.findIn K (.ref cN) "__getattr__" = some none)(y3:W.findIn K (.ref cN) "__class__" = some (some (.builtin "object.__class__")))(y4:W.specialIn K (.builtin "object.__class__") "__get__" = some (some (.builtin "getset_descriptor.__get__")))(y5:W.takesIn K (.builtin "object.__class__")=some true)(y6:W.mroIn K cN (.type "object")=some true)(y7:W.subIn K (.ref cN) (.type "BaseException")=some true)(y8:W.hasDictIn K cN=true)(c1:Oth K cN k1)(I:Oth K cN k0)(a5:Oth K cN j3)(a6:Oth K cN j0)(a7:Oth K cN i9)(a8:Oth K cN i8)(c2:Oth K cN i7)(e2:Oth K cN i6)(a4:Oth K cN c_8) :
  ∃fd:FuncData,(∀(s:Shared)(v:Value),BindsTo s fd ⟨[v],[]⟩ [("_law_script",v)])/\∀base:Heap,K.In base->base.Ns mainGlobals mg->FnOk l.prog w K mg base CX0 30 fa fd ["_law_script"] (spD K 1 lawT):=by
 have e:=o5.symm.trans (W.mg_of X G o7);cases e;have T:Tops mg:=⟨W.mg_none_of X G q,W.mg_none_of X G h5,W.mg_none_of X G h4,W.mg_none_of X G e7,W.mg_none_of X G e6,W.mg_none_of X G h3,W.mg_none_of X G j,W.mg_none_of X G g7,W.mg_none_of X G e5,W.mg_none_of X G e0,W.mg_none_of X G g0,W.mg_none_of X G f8,W.mg_none_of X G d3,W.mg_none_of X G f6⟩;have o8:=E7 (st:=top 72) o3 o6 o4;obtain⟨F1,F2,F3,F4,F5,F6,F7,F8,F9,u2,u1,t5,t4,t3,s9,s8,s7,s6,s5,s4,s3,r9,r8,r7,r6,r5,r4,r3,r1,r0,q9,q8,q7,q6,q5,q4,q3,q2,q1,q0,p9,p8,p7,p6,p5,p4,p0,o9,_⟩:=z4b X G lA;refine⟨W.fnOf "law" "law" (tf (top 72)) (xp (top 72)) (zh (top 72)) .none f2 f3 f1 f5 e3 f4,λs v=>.of_eq rfl,λbase _ _=>?_⟩;have Z:Con2 l.prog w K mg:=⟨z3y X G hS,z3y X G hN,⟨.str _ tL,.str _,W.mg_of X G bL,⟨tL,rfl⟩,λ_ _=>rfl⟩,Vc X G tF,Vc X G tB⟩;have hG:GC K mg "FIGURES" (.str "0123456789"):=⟨.str _ tG,.str _,W.mg_of X G bG,⟨tG,rfl⟩,λ_ _=>rfl⟩;have Z2:Cls1 K mg cE cN k1 k0 j3 j0 i9 i8 i7 i6 c_8:=⟨W.mg_of X G a1,W.mg_of X G a2,W.mg_of X G c3,W.mg_of X G a0,W.mg_of X G b0,W.mg_of X G b3,W.mg_of X G b4,W.mg_of X G b9,W.mg_of X G d0,W.mg_of X G e4,W.mg_of X G a9,xN,z3k sE tE dE uE,B7 di uV,λc hc=>by
  simp only[zam,List.not_mem_nil,or_false]at hc;rcases hc with rfl|rfl|rfl|rfl|rfl|rfl|rfl|rfl|rfl
  ·exact c1.no
  ·exact I.no
  ·exact a5.no
  ·exact a6.no
  ·exact a7.no
  ·exact a8.no
  ·exact c2.no
  ·exact e2.no
  exact a4.no,⟨y1,y2,y3,y4,y5,y6,y7,y8⟩⟩
 have k5:=S6 (P:=l.prog) (w:=w) (base:=base) T  F1;have e9:=Pg (P:=l.prog) (w:=w) (base:=base) T Z F2;have h6:=Mu (P:=l.prog) (w:=w) (base:=base) T  F3;have n4:=Z7  T Z k5 F4;have n3:=Xk  T h6 e9 n4 F5;have m0:=j9  T Z k5 F6 F7 F8;have n2:=Xn (M:=4)  T Z (m0 4) h6 e9 F9 u2;have k3:=Hv (M:=4) (n:=5)  T n3 h6 (n2 5) u1;have l9:=Ts (P:=l.prog) (w:=w) (base:=base) T  t5;have l8:=Mv (P:=l.prog) (w:=w) (base:=base) T  t4;have i3:=Xe (P:=l.prog) (w:=w) (base:=base) T  t3;have i0:=Xf  T i3 s9;have e8:=Ph  T i3 s8;have e1:=Vh  T e9 s7;have n1:=Xi  T i0 e1 s6;have l3:=Xg (P:=l.prog) (w:=w) (base:=base) T Z s5;have m6:=Vm (P:=l.prog) (w:=w) (base:=base) T Z hG s4;have l4:=Z3  T m6 s3;have m5:=Vg  T e9 l4 r9;have o2:=Q1  T (Vc X G t0) (Vc X G t1) (Vc X G t2) m5 e8 e1 r8 r7;have n0:=Xj  T e8 l3 l4 r6;have m9:=Xh  T i0 e1 l3 r5;have m4:=Q2  T (Vc X G t0) (Vc X G t1) (Vc X G t2) e8 e1 n1 (o2 4) r4;have o0:=jy  T e8 i0 i3 m9 e1 n0 (m4 5) r3;have k2:=Bn  T Z2 l9 l8 o0 k3 r1;have i4:=Z6 (P:=l.prog) (w:=w) (base:=base) T  r0;have c0:=Tz (P:=l.prog) (w:=w) (base:=base) T  q9;have l0:=Tx (P:=l.prog) (w:=w) (base:=base) T  q8;have h8:=S3 (P:=l.prog) (w:=w) (base:=base) T  q7;have m8:=Vj (P:=l.prog) (w:=w) (base:=base) T  q6;have k4:=Mw  T l0 m8 h8 q5;have m3:=S5  T l0 h8 (k4 4) (k4 3) q4 q3;have m2:=S1 (P:=l.prog) (w:=w) (base:=base) T  q2;have f0:=Vl (P:=l.prog) (w:=w) (base:=base) T  q1;have n9:=cc  T c0 (m3 5) f0 q0;have m7:=Vk  T i4 c0 m2 n9 p9;have m1:=S0 (P:=l.prog) (w:=w) (base:=base) T  p8;have h7:=S2 (P:=l.prog) (w:=w) (base:=base) T  p7;have n8:=cf  T c0 f0 h7 p6;have n7:=cg  T c0 f0 h7 p5;have o1:=jz  T c0 f0 h7 p4;have n6:=Z4  T i4 c0 o1 n8 n7 p0;have n5:=Z5  T Z2 k2 o9;exact z2b T (Bt k2) k3 i4 m7 h8 m1 n6 n5 o8
end ZZ
open PySem PySem.W PyProof.Rows
set_option maxRecDepth 100000 in
set_option maxHeartbeats 0 in
theorem PySem.Challenge.cw_toll_k08_no_program_holds : PySem.Challenge.rw_toll_k08_no_program.Holds := by
 refine ZZ.opened ?_
 k_fill
 refine ZZ.walkD (l:=PySem.Challenge.rw_toll_k08_no_program) (k:=30) (x:="_law_script") rfl rfl ⟨rfl,by decide,by decide⟩ (λw h Y=>PySem.W.kIn_of Y) ?F
 case F =>
  intro w mg I h q G j
  refine' ZZ.all_mk q G j ?lA ?a0 ?a1 ?a2 ?a3 ?bL ?bG ?hS ?hN ?tF ?tB ?t0 ?t1 ?t2 ?a4 ?a5 ?a6 ?a7 ?a8 ?a9 ?aa ?ab ?ac ?ad ?ae ?af ?ag ?ah ?ai ?aj ?ak ?al ?am ?an ?ao ?ap ?aq ?ar ?au ?xN ?sE ?tE ?dE ?uE ?uV ?y1 ?y2 ?y3 ?y4 ?y5 ?y6 ?y7 ?y8 ?av ?aw ?ax ?ay ?az ?b0 ?b1 ?b2 ?b3
  case a0 | a4 | a5 | a6 | a7 | a8 | a9 | aa | ab | ac | ad | ae | af | ag | ah=>show _=_; k_is
  case lA =>
   repeat refine ZZ.al_mk (by k_is) (by k_is) (by k_is) (by k_is) ?_
   exact trivial
  case a1 | a2 | a3 | bL | bG | ai | aj | ak | al | am | an | ao | ap | aq | ar | au | sE | tE | dE | uE | uV | y1 | y2 | y3 | y4 | y5 | y6 | y7 | y8=>k_is
  case hS | hN=>exact ⟨_,by k_is,by kernel_rfl⟩
  case tF | tB | t0 | t1 | t2=>exact ⟨_,_,_,by k_is,by kernel_rfl,by k_is,by repeat first | exact rfl | refine ⟨_,_,_,rfl,by kernel_rfl,?_⟩⟩
  case xN=>show PySem.W.excIn _ _ _ _=true; k_exc
  case av | aw | ax | ay | az | b0 | b1 | b2 | b3 =>
   refine' ⟨?nA,?tA,?dA,?uA⟩
   case tA=>k_is
   case dA=>k_is
   case uA=>k_is
   case nA=>decide
